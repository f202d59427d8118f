import PyProof.Rows.All
import Wide.All
import OpenK.AllK
import Wide.FinOn
import Lean
import PyProof.EqAt
import PyProof.EqKinds
import PyProof.TupleCall
import KE.KIntText
import KE.KDictList
import KE.KDictSum
import PyProof.Rows.Range3
import PyProof.DictWalks
import KE.KMinKey
import KE.KSortTup
import PyProof.EnumStmt
import PyProof.EnumMake
import PyProof.EnumFor
import PyProof.Draws
import PyProof.Rows.TupDisplay
import PyProof.Rows.SumAny
import KE.LcSums
import PyProof.FString5
import PyProof.WalkInts
import KE.KDictLaws
import PyProof.ZipIter
import PySem.Challenge.RW_slitview_k40_whole_again_and_kept
noncomputable section
set_option compiler.extract_closed false
local macro_rules | `(tactic| eq_refl) => `(tactic| first | exact Or.inl rfl | exact Or.inr (Or.inl rfl) | exact Or.inr (Or.inr rfl) | fail)
local macro_rules | `(tactic| ac_rfl) => `(tactic| first | assumption| with_reducible rfl|exact Nat.le_refl _|exact Nat.zero_le _|exact Nat.succ_pos _|exact Nat.le_succ _|exact Nat.le_add_left _ _|exact Nat.le_add_right _ _|exact Nat.sub_le _ _|exact Nat.le_of_lt ‹_›|exact Nat.pos_of_ne_zero ‹_›|exact Nat.zero_lt_of_lt ‹_›|exact Nat.lt_of_not_le ‹_›|exact Nat.le_of_not_lt ‹_›|exact Nat.lt_succ_of_le ‹_›|exact Nat.le_of_lt_succ ‹_›|exact Eq.symm ‹_›|exact Nat.lt_of_lt_of_le ‹_› ‹_›|exact Nat.lt_of_le_of_lt ‹_› ‹_›|exact Nat.le_trans ‹_› ‹_›|exact Nat.lt_of_le_of_lt (Nat.le_add_right _ _) ‹_›|exact Nat.le_trans (Nat.le_add_right _ _) ‹_›|exact Nat.le_trans (Nat.le_add_left _ _) ‹_›|(refine Nat.lt_of_le_of_lt (Nat.add_le_add_left ?_ _) ‹_›; decide)|exact Nat.lt_of_le_of_lt ‹_› (by decide)|exact Nat.le_trans ‹_› (by decide)|exact Nat.le_of_lt (Nat.lt_of_lt_of_le ‹_› (by decide))|exact Nat.le_trans (Nat.sub_le _ _) ‹_›|exact Nat.lt_of_le_of_lt (Nat.sub_le _ _) ‹_› | lia | omega)
local macro_rules | `(∅) => `(by ac_rfl)
local macro_rules | `(nofun) => `(by omega)
local macro_rules | `(⋯) => `(by simp_all)
set_option Elab.async false
set_option bootstrap.genMatcherCode false
set_option genSizeOf false
set_option linter.all false
set_option maxRecDepth 100000
local macro_rules | `(tactic| mleft) => `(tactic| first | exact .inl rfl | exact .inr rfl | assumption)
local macro_rules | `(~~~$x) => `(by simpa using $x)
local macro_rules | `(tactic| ac_nf) => `(tactic| exact ⟨rfl,rfl,rfl,by decide +kernel,rfl,by decide +kernel,by decide +kernel⟩)
theorem Zq(_:True:=by rfl)(_:True:=by decide)(_:True:=by eq_refl)(_:True:=by mleft)(_:True:=by intro _;rfl)(_:True:=by first|exact Or.inl rfl|exact Or.inr rfl)(_:True:=by with_unfolding_all rfl)(_:True:=by exact λ_ _=>rfl):True:=trivial
local macro_rules |`($x^0)=>`(autoParam $x Zq._auto_1)|`($x^1)=>`(autoParam $x Zq._auto_2)|`($x^2)=>`(autoParam $x Zq._auto_3)|`($x^3)=>`(autoParam $x Zq._auto_4)|`($x^4)=>`(autoParam $x Zq._auto_5)|`($x^6)=>`(autoParam $x Zq._auto_6)|`($x^7)=>`(autoParam $x Zq._auto_7)|`($x^8)=>`(autoParam $x Zq._auto_8)
open Option renaming some->aa,none->ac,map_eq_some_iff->gU,bind_some->iZ,bind_eq_some_iff->jZ,map_some->mQ,isSome_map->DZ,getD_none->Kw
open PySem renaming Addr->ab,Value->af,wpAny_bind->aj,Shared->ak,wpAny->ao,wpAny_pure->aq,model->ar,Expr->au,Heap->ax,World->aD,Program->aM,Stmt->aR,eval->aS,starEach->aV,Around->aZ,sizeLine->bh,SetTable->b9,strKind->cn,mainGlobals->cx,Scope->cV,backTo->c8,rawInt->df,compareOp->dE,bootBuiltins->dX,wpAny_holding->d_,wpAny_mono->eU,bindArgs->fH,wpAny_ite_split->fK,wpAny_setState_of->fX,cellsFrom->gF,binaryOp->gR,FuncData->gT,NameKind->ik,sysModules->iE,swapsWith->iG,wpAny_of_eq->iY,wpAny_call_entry->jm,argBest->jC,Paired->jS,reduceHash->jT,wpAny_newObj_type->jW,holding->kl,foldedSetIterable->km,attributeBase->ko,Keyword->kq,wpAny_rule->lu,wpAny_askSetting->lv,mem_of_lookup->lU,wpAny_loadPart'->lV,IsPart->lW,setField->lZ,unsupported->l0,hashStr->mI,pyNext->mJ,pyIter->mK,isTrue->nX,behindInMarks->nY,wpAny_truthy_bool->nZ,wpAny_field->n5,getItem->n6,setNext->oh,wpAny_setField->om,setsByText->oq,wpAny_forIn_list->oy,eqIsQuiet->oA,builtinsNs->pi,assign->pj,codeAny->pq,wpAny_storeSet_of->pC,codeAny_builtin->pD,wpAny_seqItems->pF,sizeLine_eq->rg,backToKw->rA,keywordEach->rB,wpAny_specialOf->rD,fits_of_scanBound->rK,plainId_quiet->rM,newExc->rN,wpAny_isInstance->rO,ofAClassStatement->rT,hashByValue->rV,tupleKind->tu,assignEach->tw,PassesOwn->tz,wpAny_passesOwn->tD,Arguments->tF,wpAny_callSpecial?_slot->tG,wpAny_typeOf->tI,valueAt->tK,callerA->tL,DictEntry->tN,collect->tP,relayAll->tQ,setAddHashed->tR,wpAny_pyIter_tuple->tT,wpAny_setEpoch_of->tU,setSearchFrom->t7,codeAmong->vV,lookup_relabel_local->v5,raiseNew->wa,wpAny_tryCatch->wn,wpAny_Name->y_,recursionLimit->zc,codeAny_mono->zd,wpAny_Call_Name_kw->ze,sliceBounds->zh,tupleKind_room_in1->zi,closureFor->zk,wpAny_pyIter_list->zo,wpAny_newList->zv,sub_set_self->zx,seqItems?->zy,pickOrder->zz,firstArgMember->zA,setWalkUnseen->zH,wpAny_execs_nil->Dz,letOwnedTupleGo->DB,IsRangeIter->DC,subscripted->DQ,wpAny_alloc->D1,entryFor_alias->D7,wpAny_attempt->D8,wpAny_setEntries_of->D9,intKind->Et,richCompare->Ev,wpAny_typeNameOfWhole_keyiter->EE,wpAny_typeNameOf_keyiter->EF,wpAny_letGo->EG,wpAny_loadName_local->Kj,noFill_tuple_add->Kn,wpAny_Dict_empty->KA,wpAny_setScan_of->KH,wpAny_pyIter_slot->KL,wpAny_forIn_array'->K0,searchCouldBeSeen->K7,wpAny_dictEntries->Lf,callSpecialIfBoundUnlessNone?->V_,wpAny_callSpecialIfBoundUnlessNone?_slot->Wa
open Bool renaming true->ag,false->ai,false_eq_true->fh,and_eq_true->iX,false_ne_true->jl,not_true->mS,eq_iff_iff->tE,and_false->zr,or_eq_true->zu,not_false->zK,eq_false_iff->K6
open PySem.W renaming Frag->aw,nsIn->dZ,fnOf->iW,tabIn->lT,kia_one->mL,keepIn->pr,hashAt->rS,kitOne->zb,codeIn->zg,codeHdIn->zj,kat_cons->zL,mg_of->Ed,kla_obj->En,kat_yes->Ex,kat_no->Ey,kat_one->Ez,methodObj->Ki,KatTups->K9,kat_kind->Lb
open Nat renaming le_refl->a_,ne_of_lt->cr,le_trans->dD,lt_of_lt_of_le->fe,beq->fZ,lt_trans->gG,zero_le->gW,le_of_lt->ig,ne_of_gt->ln,not_lt_zero->l9,mod_lt->oj,zero_add->ou,lt_of_le_of_lt->pt,lt_irrefl->rf,le_of_eq->rE,le_succ->tJ,succ_pos->t6,ble->t9,lt_succ_of_lt->v7,pow_succ->we,mul_comm->zI,beq_eq->zN,mod_eq_of_lt->Ej,lt_succ_self->KO,add_right_comm->K3,min_eq_right->Lj
open PySem.Heap renaming get?_push_of_some->bi,lt_size->bu,get?_push_size->bU,SameBut->eG,get?_update_self->n8,get?_update_other->rj,size_push->rF,get?_none_of_le->Dx,get?_update_ne->KR
open PyProof.Rows renaming StrsAre->bR,pendingOf->dj,wpS_bind->dy,seqObj->dY,SortSt->d7,wpS_pure->gu,SortKind->il,envOfC->iV,size_push'->kr,pairsOf->kt,AllBare->nW,tuples'->pN,wpS_mono->tZ,wpS_forRange->t4,keyKind'->wc,callWith_type1->za,get?_update_seq->zC,slot_tuple_getitem->DL,listUpdate_at->Eb,lt_str->Ew,callWith_builtin1->V8
open List renaming mem_cons->b8,range->ce,length_map->cy,map_cons->cN,getElem?_map->cT,getElem?_eq_some_iff->cW,mem_map->cX,getElem?_eq_getElem->eh,size_toArray->eJ,getElem?_set_ne->ff,map_map->fg,replicate->fJ,not_mem_nil->fL,mem_cons_of_mem->gr,length_cons->gH,mem_cons_self->ii,getElem?_set_self->iT,append_nil->jU,getElem?_append_left->jV,find?_cons->jX,length_set->kn,filterMap_cons->lm,mem_append_right->lq,nodup_cons->lr,length_append->lX,mem_of_getElem?->mM,getElem?_eq_none->mR,length->n4,any_cons->n9,lookup_cons->n_,take_of_length_le->oa,foldl_cons->ot,mem_range->ph,pairwise_map->pw,mem_singleton->pH,all_cons->rq,map_nil->rC,range_succ->rG,getElem_mem->rJ,all_eq_true->tW,getElem_of_mem->tX,getElem?_append_right->vX,length_nil->v3,map_append->v6,foldl_append->v_,take_append_drop->wm,mem_filter->y8,mem_append_left->y9,of_mem_zip->zf,getElem?_range->zm,range_succ_eq_map->zn,map_congr_left->zq,pairwise_cons->zt,ext_getElem?->zB,getElem?_zip_eq_some->zD,drop_eq_getElem_cons->zE,drop_length->zF,pairwise_iff_getElem->zJ,dropLast->zO,mem_append->Dy,filterMap_map->DK,lookup->D3,eq_nil_of_length_eq_zero->D4,findIdx?_eq_some_iff_getElem->D6,eraseIdx_cons_succ->D_,map_filterMap->Ea,take_length->Ee,length_filter_le->Eh,filter_append->Ei,filter_eq_self->Em,zip_cons_cons->Er,nil_append->Eu,Perm->EA,drop_of_length_le->EH,mem_filterMap->Kl,length_take->Ku,length_drop->Kv,lookup_append->KD,append_assoc->KM,mem_iff_getElem?->KS,getD_eq_getElem?_getD->KZ,filter_congr->K2,cons_append->K5,map_snd_zip->Lc,take_succ_eq_append_getElem->Ld,mem_of_mem_take->Le,isEmpty_nil->Lh,any_eq_true->Lk
open PySem.SetTable renaming bits->et,runEnd->fY,below->jn,Probe->ku,sizeAbove->lY,leap->mT,grown->og,eraseAt->oz,insertAt->pA,fits->pG,turns->pL,fill->pM,laid->v8,layClean->v9,advance->Ep
open PySem.PassesOwn renaming never->eK
open Ne renaming symm->fF
open Option.some renaming inj->fG
open PySem.Builtin.Tuple renaming tupleHashOf->gn,tupleItemsOf->DM,tupleExact->DP
open Array renaming length_toList->iF,getElem?_eq_getElem->jY,getElem?_eq_some_iff->tO,getElem?_toList->wb,forIn_toList->wj,perm_iff_toList_perm->Ef,getD_eq_getD_getElem?->Ek,toList_append->El,toList_push->KI,toList_extract->K4
open PySem.Obj renaming mapSeq->iH,mapFields->pI,data_mapFields->rP,putSet->zw,isFreed_of_fields->zG,cls_mapFields->KW
open PySem.Heap.SameBut renaming update->iI,refl->pB
open PySem.Str renaming empty->iU,ofString->mN
open Iff renaming rfl->i5
open Int renaming toNat_natCast->mO,emod_lt_of_pos->Li
open List.Perm renaming refl->mP,eq_of_pairwise->D5
open PyProof.Rows.KeyOrd renaming kle_refl->pJ,kle_trans->tY,kle_of_klt->Eg
open PySem.SetTable.layClean renaming free->pK
open PySem.Value renaming isStrOf->re,isInt->Dw
open Prod renaming ext->rh
open Function renaming comp_def->rH,comp->wd
open PySem.Around renaming under_plainId->rL
open Exists renaming elim->rQ
open PySem.Builtin.Frozenset renaming unchanged->rR,sizeOf->KQ,baseOf->K1
open List.cons renaming injEq->t5
open PySem.F renaming plain_min_loop->t8,slot_tuple_hash->Es,slot_tuple_iterator_next->EC,slot_dict_keyiterator_next->ED,slot_tuple_add->Ko,entry_tuple_add->Kq,args_tuple_add_2->Kr,slot_dict_get->KB,plainAttrs_dict->KC,plainAttrs_list->KU,slot_dict_values->KY,entry_min_loop->Lg,entry_dict_keyiterator_next->Wb,args_dict_keyiterator_next_1->Wc
open PySem.Calls renaming spliced_cons->vW,spliced_nil->DH,callWith_builtin->DY,Name_function_global->Kk,evalArgs_plain->Ky,call_function_entry->KF
open PySem.SeqAt renaming EqAt->vY
open PySem.Paired renaming snoc->vZ,length->y6
open PySem.SetTable.sizeAbove renaming go->wg
open PySem.SetTable.probe renaming go->wl
open PySem.Walks renaming list->zp
open PySem.Builtin.Range renaming rangeSize->DD
open PySem.Builtin.Slice renaming slicePlaces->DJ,sliceAdjust->Kt
open PySem.SeqAt.EqAt renaming same->DU,str_str->DV,int_int->Kx,of_refs->K8
open Nat.succ renaming inj->Ec
open PySem.SetTable.below renaming go->Eo
open PySem.Builtin.SmallTypes renaming nextOf->EB
open PySem.Builtin.Str renaming occurrences->Km
open PySem.Builtin.List renaming listTooLong->Kz
open PySem.Builtin renaming sorted->KG
open PyProof.Rows.F renaming plain_set_update_loop->KJ,entry_set_update_loop->V9
open PySem.W.KatTups renaming nil->K_,cons->La
open Std.Legacy renaming Range->WI
open PySem PySem.Spec PyProof.Rows
namespace L2
noncomputable abbrev aF:=Sum Int Str
def sP:aF->af->Bool
 |.inl k,v=>Dw k v
 |.inr x,v=>re x v
def VP(w:aD):aF->Int
 |.inl k=>hashInt k
 |.inr x=>mI w x
theorem nM:∀{k:aF}{v:af},sP k v=ag->(∃i t,k=Sum.inl i/\v=Value.int i t)\/(∃x t,k=Sum.inr x/\v=Value.str x t)
 |.inl i,v,h=>by obtain⟨t,e⟩:=Value.isInt_shape (k:=i) (v:=v) h;exact .inl ⟨i,t,rfl,e⟩
 |.inr x,v,h=>by obtain⟨t,e⟩:=Value.isStrOf_shape (x:=x) (v:=v) h;exact .inr ⟨x,t,rfl,e⟩
theorem M4(i:Int)(t:Tok):sP (.inl i) (.int i t)=ag:=by simp[sP,Dw]
theorem SW(x:Str)(t:Tok):sP (.inr x) (.str x t)=ag:=by simp[sP,re]
theorem US(a b:Int):decide ((Sum.inl a:aF)=Sum.inl b)=(a == b):=by lia
theorem Vg(a b:Str):decide ((Sum.inr a:aF)=Sum.inr b)=decide (a=b):=by simp
theorem Og(a:Int)(b:Str):decide ((Sum.inl a:aF)=Sum.inr b)=ai:=decide_eq_false (λq=>nomatch q)
theorem OE(a:Str)(b:Int):decide ((Sum.inr a:aF)=Sum.inl b)=ai:=decide_eq_false (λq=>nomatch q)
def gB(c:aM)(w:aD):PySem.KeyKind c w aF where
 is:=sP
 hash:=VP w
 inj:=λv a b l f=>by
  rcases nM l with⟨i,t,rfl,rfl⟩|⟨x,t,rfl,rfl⟩
  .rcases nM f with⟨j,u,rfl,e⟩|⟨y,u,rfl,e⟩
   .injection e with e1 _;rw[e1]
   .exact nomatch e
  .rcases nM f with⟨j,u,rfl,e⟩|⟨y,u,rfl,e⟩
   .exact nomatch e
   .injection e with e1 _;rw[e1]
 byValue:=λk v h=>by rcases nM h with⟨i,t,rfl,rfl⟩|⟨x,t,rfl,rfl⟩ <;> rfl
 pyHash:=λd h=>by
  rcases nM d with⟨i,t,rfl,rfl⟩|⟨x,t,rfl,rfl⟩
  .exact wpAny_pyHash_int h
  .exact wpAny_pyHash_str h
 eqBool:=λg d h=>by
  rcases nM g with⟨i,t,rfl,rfl⟩|⟨x,t,rfl,rfl⟩
  .rcases nM d with⟨j,u,rfl,rfl⟩|⟨y,u,rfl,rfl⟩
   .rw[US]at h;exact wpAny_eqBool_int h
   .rw[Og]at h;exact SeqAt.EqAt.int_str i t y u _ _ _ _ h
  .rcases nM d with⟨j,u,rfl,rfl⟩|⟨y,u,rfl,rfl⟩
   .rw[OE]at h;exact SeqAt.EqAt.str_int x t j u _ _ _ _ h
   .rw[Vg]at h;exact wpAny_eqBool_str h
 «strs»:=λk x t v h=>by
  rcases nM h with⟨i,u,rfl,e⟩|⟨y,u,rfl,e⟩
  .exact nomatch e
  .injection e with e1 _;subst e1;cases v <;> rfl
theorem Mg(a:aM)(w:aD)(i:Int)(t:Tok):(gB a w).is (.inl i) (.int i t)=ag:=M4 i t
theorem OF(a:aM)(w:aD)(x:Str)(t:Tok):(gB a w).is (.inr x) (.str x t)=ag:=SW x t
inductive V where
 |non|bl (b:Bool)|int (i:Int)|str (x:Str)|byt (b:Array UInt8)|flt (b:UInt64)|ref (a:ab)|ty (n:String)
 deriving DecidableEq
noncomputable def RelV:V->af->Prop
 |.non,u=>u=Value.none
 |.bl b,u=>u=Value.bool b
 |.int i,u=>∃t,u=Value.int i t
 |.str x,u=>∃t,u=Value.str x t
 |.byt b,u=>∃t,u=Value.bytes b t
 |.flt b,u=>∃t,u=Value.float b t
 |.ref a,u=>u=Value.ref a
 |.ty n,u=>u=Value.type n
abbrev bE:List V->List af->Prop:=jS RelV
theorem bE.length(r:bE xs a):xs.length=a.length:=y6 r
theorem bE.get:∀{a:List V}{b:List af}{i:Nat}{x:V},bE a b->a[i]?=aa x->∃u,b[i]?=aa u/\RelV x u
 |_,_,_,_,.nil,e=>by trivial
 |_,_,0,_,.cons r _,e=>by simp at e;subst e;exact⟨_,rfl,r⟩
 |_,_,i+1,x,.cons _ t,e=>by obtain⟨u,d,c⟩:=bE.get (i:=i) (x:=x) t (by trivial);exact⟨u,by trivial,c⟩
theorem bE.set(r:RelV x u):∀{a:List V}{b:List af} (i:Nat),bE a b->bE (a.set i x) (b.set i u)
 |_,_,_,.nil=>.nil
 |_,_,0,.cons _ t=>.cons r t
 |_,_,i+1,.cons q t=>.cons q (bE.set r i t)
theorem bE.append{b a:List V}{d c:List af}(r:bE b d)(s:bE a c):bE (b++a) (d++c):=by
 unfold bE at r s ⊢
 induction r with
 |nil=>exact s
 |cons r _ g=>exact .cons r g
theorem bE.take:∀{a:List V}{b:List af} (n:Nat),bE a b->bE (a.take n) (b.take n)
 |_,_,0,_=>.nil
 |_,_,_+1,.nil=>.nil
 |_,_,n+1,.cons r t=>.cons r (bE.take n t)
theorem bE.drop:∀{a:List V}{b:List af} (n:Nat),bE a b->bE (a.drop n) (b.drop n)
 |_,_,0,r=>r
 |_,_,_+1,.nil=>.nil
 |_,_,n+1,.cons _ t=>bE.drop n t
def nR:Option V->Option af->Prop
 |some v,aa u=>RelV v u
 |none,ac=>True
 |_,_=>False
noncomputable def KV{a:Type}:List (a×V)->List (a×af)->Prop:=jS λ(p:a×V) (q:a×af)=>p.1=q.1/\RelV p.2 q.2
def kV:aF->V
 |.inl i=>.int i
 |.inr x=>.str x
inductive HO where
 |lst (xs:List V)
 |tup (xs:List V)
 |dK (kvs:List (aF×V))|dT (kvs:List (List aF×V))|dN (kvs:List ((Str×List Str)×V))
 |set (S:Int->Bool) (n:Nat)
 |ins (C dx:ab) (fs:List (Str×V))
 |own (x:ab)
 |xd (fs:List (Str×V))
 |met (f x:ab)
 |rng (lo hi:Int)
 |frz (o:Obj) (u:HO)
 |tbl (q:Str)
 |ext (φ:ax->Prop)
set_option genInjectivity false
noncomputable abbrev Hp:=ab->Option HO
noncomputable def upd(H:Hp)(a:ab)(o:HO):Hp:=λb=>if b=a then aa o else H b
theorem upd_same:upd H a o a=aa o:=by unfold upd;simp
theorem aU(h:b≠a):upd H a o b=H b:=by unfold upd;rw[if_neg h]
theorem ul{H:Hp}{o u:HO}(h:H a=aa o)(h':H b=aa u)(d:o≠u):a≠b:=by lia
theorem kg{H:Hp}{o:HO}(h:H a=aa o)(c:H b=ac):a≠b:=by lia
noncomputable def Kg(h:ax)(a:ab)(b:Array af):Prop:=IsTup h a b/\∃o,h.get? a=aa o/\o.dict=ac
theorem Kg.new(h:ax)(its:Array af):Kg (h.push {cls:=.type "tuple",data:=.seq its}) h.objs.size its:=⟨IsTup.new _ _,_,bU _ rfl,rfl⟩
section
variable(P:aM)(w:aD)
noncomputable def F6(k:Str×List Str):Int:=jT (gn [mI w k.1,jT (gn (k.2.map (mI w)))])
noncomputable def qm(H:Hp)(k:Str×List Str)(a:ab):Prop:=∃b,H a=aa (.tup [.str k.1,.ref b])/\H b=aa (.tup (k.2.map .str))
def bN(H:Hp)(h:ax)(a:ab):HO->Prop
 |.lst d=>d.length<=bh/\∃(g:List af) (n:Nat),bE d g/\h.get? a=aa {cls:=.type "list",data:=.seq g.toArray n}
 |.tup d=>d.length<=bh/\∃g:List af,bE d g/\Kg h a g.toArray
 |.dK b=>b.length<=bh/\(a == iE)=ai/\∃y,KV b y/\h.DictOf (gB P w) a y
 |.dT b=>b.length<=bh/\(a == iE)=ai/\∃d:List (List aF×ab×af),
   jS (λ(p:List aF×V) (q:List aF×ab×af)=>p.1=q.1/\H q.2.1=aa (.tup (p.1.map kV))/\RelV p.2 q.2.2) b d /\
   ∃o es ep,h.get? a=aa o/\o.ExactDict/\o.data=.dict es ep/\es.toList=d.map (entryOfKey (tu (gB P w)))/\(d.map (·.1)).Nodup
 |.dN b=>b.length<=bh/\(a == iE)=ai/\∃d:List ((Str×List Str)×ab×af),
   jS (λ(p:(Str×List Str)×V) (q:(Str×List Str)×ab×af)=>p.1=q.1/\qm H p.1 q.2.1/\RelV p.2 q.2.2) b d /\
   ∃o es ep,h.get? a=aa o/\o.ExactDict/\o.data=.dict es ep/\es.toList=d.map (λx=>⟨F6 w x.1,.ref x.2.1,x.2.2⟩)/\(d.map (·.1)).Nodup
 |.set S n=>h.SetOf (intKind P w) a S n
 |.ins C j fs=>H j=aa (.own a)/\fs.length<=1000/\j≠a/\h.get? a=aa (PySem.W.instObj C j) /\
   ∃i,h.Ns1 j i/\(∀f,nR (fs.lookup f) (i f))/\PySem.Within i (fs.map (·.1))
 |.own _=>∃o,h.get? a=aa o
 |.xd fs=>∃i,h.Ns1 a i/\∀f,nR (fs.lookup f) (i f)
 |.rng B D=>∃t u v,h.get? a=aa {cls:=.type "range",data:=.fields #[.int B t,.int D u,.int 1 v]}
 |.frz o u=>h.get? a=aa o/\bN H h a u
 |.tbl q=>∃m:Array af,h.get? a=aa {cls:=.none,data:=.fields m}/\TriplesOk m.toList/\∀r s,vV r m.toList=aa s->∃c,s=.ref c/\H c=aa (.own a)/\h.CodeRec s q
 |.met f x=>h.get? a=aa (Ki (.ref f) (.ref x))
 |.ext l=>l h/\(∃o,h.get? a=aa o)/\∀A z:ax,l A->(∀o,A.get? a=aa o->z.get? a=aa o)->l z
def cZ(H:Hp)(h:ax):Prop:=∀a o,H a=aa o->bN P w H h a o
end
section
variable{P:aM}{w:aD}{H i:Hp}{h h':ax}{a:ab}{o:HO}
theorem bN.lt(x:bN P w H h a o):a<h.objs.size:=by
 cases o with
 |lst c=>obtain⟨_,_,_,_,e⟩:=x;exact bu e
 |tup c=>obtain⟨_,_,_,p,_⟩:=x;exact p.lt
 |dK b=>obtain⟨_,_,_,_,o,_,_,e,_⟩:=x;exact bu e
 |dT b=>obtain⟨_,_,_,_,o,_,_,e,_⟩:=x;exact bu e
 |dN b=>obtain⟨_,_,_,_,o,_,_,e,_⟩:=x;exact bu e
 |set S n=>obtain⟨o,_,_,_,e,_⟩:=x;exact bu e
 |ins C m fs=>obtain⟨_,_,_,e,_⟩:=x;exact bu e
 |own y=>obtain⟨_,e⟩:=x;exact bu e
 |xd fs=>obtain⟨_,⟨_,_,_,e,_⟩,_⟩:=x;exact bu e
 |rng j l=>obtain⟨_,_,_,e⟩:=x;exact bu e
 |frz g u=>obtain⟨e,_⟩:=x;exact bu e
 |tbl q=>obtain⟨_,e,_⟩:=x;exact bu e
 |met f y=>exact bu (show h.get? a=aa _ from x)
 |ext d=>obtain⟨_,⟨_,e⟩,_⟩:=x;exact bu e
theorem Paired.mapP{l j:Type}{F G:l->j->Prop}{d:List l}{c:List j}(r:jS F d c)(f:∀a b,F a b->G a b):jS G d c:=by
 induction r with
 |nil=>exact .nil
 |cons r _ g=>exact .cons (f _ _ r) g
theorem bN.stay(x:bN P w H h a o)(k:∀b u,(b=a\/H b=aa (.own a))->h.get? b=aa u->h'.get? b=aa u)(N:∀b,H b=aa (.own a)->i b=aa (.own a)) (L:∀b s,H b=aa (.tup s)->i b=aa (.tup s)):bN P w i h' a o:=by
 induction o with
 |lst s=>obtain⟨z,A,n,r,e⟩:=x;exact⟨z,A,n,r,k _ _ (.inl rfl) e⟩
 |tup s=>obtain⟨z,A,r,⟨j,e,c⟩,W,D,O⟩:=x;exact⟨z,A,r,⟨j,k _ _ (.inl rfl) e,c⟩,W,k _ _ (.inl rfl) D,O⟩
 |dK B=>obtain⟨z,y,F,r,j,l,m,e,c⟩:=x;exact⟨z,y,F,r,j,l,m,k _ _ (.inl rfl) e,c⟩
 |dT B=>obtain⟨z,y,s,r,j,l,m,e,c⟩:=x;exact⟨z,y,s,Paired.mapP r λp q z=>⟨z.1,L _ _ z.2.1,z.2.2⟩,j,l,m,k _ _ (.inl rfl) e,c⟩
 |dN B=>obtain⟨z,y,s,r,j,l,m,e,c⟩:=x;exact⟨z,y,s,Paired.mapP r λp q z=>⟨z.1,(let ⟨b,E,h2⟩:=z.2.1;⟨b,L _ _ E,L _ _ h2⟩),z.2.2⟩,j,l,m,k _ _ (.inl rfl) e,c⟩
 |set S n=>obtain⟨j,l,m,t,e,c⟩:=x;exact⟨j,l,m,t,k _ _ (.inl rfl) e,c⟩
 |ins C dx fs=>obtain⟨d,z,X,e,J,⟨I,l,m,D,c⟩,r⟩:=x;exact⟨N _ d,z,X,k _ _ (.inl rfl) e,J,⟨I,l,m,k _ _ (.inr d) D,c⟩,r⟩
 |own y=>obtain⟨j,e⟩:=x;exact⟨j,k _ _ (.inl rfl) e⟩
 |xd fs=>obtain⟨J,⟨I,l,m,e,c⟩,r⟩:=x;exact⟨J,⟨I,l,m,k _ _ (.inl rfl) e,c⟩,r⟩
 |rng lo hi=>obtain⟨t,u,v,e⟩:=x;exact⟨t,u,v,k _ _ (.inl rfl) e⟩
 |frz j u Y=>obtain⟨e,q⟩:=x;exact⟨k _ _ (.inl rfl) e,Y q⟩
 |tbl q=>
  obtain⟨T,e,t,g⟩:=x;refine⟨T,k a _ (.inl rfl) e,t,λG cv Z=>?_⟩;obtain⟨c,rfl,E,O,o,F,Q,D,e3,r⟩:=g G cv Z;cases D;exact⟨c,rfl,N c E,c,o,F,Q,rfl,k c _ (.inr E) e3,r⟩
 |met f y=>have e:h.get? a=aa (Ki (.ref f) (.ref y)):=x;show h'.get? a=aa (Ki (.ref f) (.ref y));exact k a _ (.inl rfl) e
 |ext φ=>obtain⟨p,⟨o,e⟩,M⟩:=x;exact⟨M _ _ p λo q=>k _ _ (.inl rfl) q,⟨o,k _ _ (.inl rfl) e⟩,M⟩
theorem cZ.lt(x:cZ P w H h)(e:H a=aa o):a<h.objs.size:=(x a o e).lt
theorem cZ.fresh(x:cZ P w H h)(e:h.objs.size<=a):H a=ac:=by
 cases q:H a with
 |none=>rfl
 |some u=>exact absurd (fe (x.lt q) e) (rf _)
theorem cZ.kept(x:cZ P w H h)(k:∀b u,h.get? b=aa u->h'.get? b=aa u):cZ P w H h':=λa o e=>(x a o e).stay (λb u _ q=>k b u q) (λ_ q=>q) λ_ _ q=>q
theorem cZ.laid(x:cZ P w H h)(k:∀b u,h.get? b=aa u->h'.get? b=aa u)(g:h.objs.size<=a)(new:bN P w (upd H a o) h' a o):cZ P w (upd H a o) h':=λb u e=>by
 have d:=x.fresh g;by_cases f:b=a
 .subst f;rw[upd_same]at e;lia
 .rw[aU f]at e;exact(x b u e).stay (λc v _ q=>k c v q) (λc q=>by rw[aU (kg q d)];exact q) λc j q=>by rw[aU (kg q d)];exact q
end
def Rd(H:Hp)(a:ab)(u:HO):Prop:=H a=aa u\/∃o,H a=aa (.frz o u)
theorem Rd.ok{h:ax}{a:ab}{u:HO}(r:Rd H a u)(x:cZ P w H h):bN P w H h a u:=by
 rcases r with r|⟨o,r⟩
 .exact x a u r
 .obtain⟨_,q⟩:=x a _ r;exact q
def uP:Option HO->Prop
 |some (.lst _)=>True
 |some (.dK _)=>True
 |some (.dT _)=>True
 |some (.dN _)=>True
 |some (.set _ _)=>True
 |some (.ins _ _ _)=>True
 |some (.ext _)=>True
 |_=>False
section
variable{P:aM}{w:aD}{H:Hp}{h a:ax}{x e:ab}{d:HO}
theorem cZ.write(ok:cZ P w H h)(j:uP (H x))(s:e=x\/H e=aa (.own x))(k:∀b u,b≠e->h.get? b=aa u->a.get? b=aa u)(n:∃u,a.get? e=aa u)(new:bN P w (upd H x d) a x d):cZ P w (upd H x d) a:=λb u q=>by
 have g:∀c y,H c=aa (.own y)->c≠x:=λc y r z=>by subst z;rw[r]at j;exact j
 have f:∀c i,H c=aa (.tup i)->c≠x:=λc i r z=>by subst z;rw[r]at j;exact j
 by_cases m:b=x
 .subst m;rw[upd_same]at q;lia
 .rw[aU m]at q;by_cases o:b=e
  .have l:H b=aa (.own x):=by
    lia
   rw[q]at l;cases l;obtain⟨v,p⟩:=n;exact⟨v,by lia⟩
  .refine(ok b u q).stay (λc v A r=>k c v ?_ r) (λc r=>by rw[aU (g c b r)];exact r) λc i r=>by rw[aU (f c i r)];exact r
   grind
end
structure Un(fs ex:List ab)(H H':Hp)(h h':ax):Prop where
 keep:∀b o,h.get? b=aa o->H b=ac->b∉fs->b∉ex->h'.get? b=aa o
 slot:∀b o,h.get? b=aa o->H b=ac->b∈fs->b∉ex->∃sl,h'.get? b=aa {o with slots:=sl}
 free:∀b o,h.get? b=aa o->H b=ac->b∉ex->H' b=ac
 there:∀b o,h.get? b=aa o->b∉ex->∃o',h'.get? b=aa o'
 tups:∀b xs,H b=aa (.tup xs)->H' b=aa (.tup xs)
 frzs:∀b o u,H b=aa (.frz o u)->H' b=aa (.frz o u)
 tbls:∀b q,H b=aa (.tbl q)->H' b=aa (.tbl q)/\∀c o,H c=aa (.own b)->h.get? c=aa o->h'.get? c=aa o/\H' c=aa (.own b)
section
variable{fs f ex i:List ab}{H j m:Hp}{h d l h':ax}{a x e:ab}{o:HO}
theorem Un.any(u:Un fs ex H j h d)(q:h.get? b=aa c)(n:H b=ac)(g:b∉ex):∃r,d.get? b=aa {c with slots:=r}:=by
 by_cases p:b∈fs
 .exact u.slot b c q n p g
 .exact⟨c.slots,u.keep b c q n p g⟩
theorem Un.kept(k:∀b u,h.get? b=aa u->h'.get? b=aa u):Un fs ex H H h h' :=⟨λb p q _ _ _=>k b p q,λb p q _ _ _=>⟨p.slots,k b p q⟩,λ_ _ _ n _=>n,λb p q _=>⟨p,k b p q⟩,λ_ _ q=>q,λ_ _ _ q=>q,λ_ _ q=>⟨q,λc o e g=>⟨k c o g,e⟩⟩⟩
theorem Un.refl:Un fs ex H H h h:=Un.kept λ_ _ q=>q
theorem Un.laid(k:∀b u,h.get? b=aa u->h'.get? b=aa u)(v:h.objs.size<=a)(p:H a=ac):Un fs ex H (upd H a o) h h' where
 keep:=λb u q _ _ _=>k b u q
 slot:=λb u q _ _ _=>⟨u.slots,k b u q⟩
 free:=λb u q n _=>by rw[aU (cr (fe (bu q) v))];exact n
 there:=λb u q _=>⟨u,k b u q⟩
 tups:=λb r q=>by rw[aU (kg q p)];exact q
 frzs:=λb u r q=>by rw[aU (kg q p)];exact q
 tbls:=λb y q=>⟨by rw[aU (kg q p)];exact q,λc s w g=>⟨k c s g,by rw[aU (kg w p)];trivial⟩⟩
theorem Un.write(s:uP (H x))(C:e=x\/H e=aa (.own x))(k:∀b u,b≠e->h.get? b=aa u->h'.get? b=aa u)(D:∃u,h'.get? e=aa u):Un fs ex H (upd H x o) h h':=by
 have B:∀b,H b=ac->b≠x:=λb n z=>by subst z;rw[n]at s;exact s
 have w:∀b,H b=ac->b≠e:=λb n z=>⋯
 have p:∀b u,H b=aa u->¬uP (aa u)->b≠x:=λb u q F z=>by lia
 refine⟨λb u q n _ _=>k b u (w b n) q,λb u q n _ _=>⟨u.slots,k b u (w b n) q⟩,λb u q n _=>by rw[aU (B b n)];exact n,λb u q _=>?_,
  λb y q=>by rw[aU (p b _ q λz=>z)];exact q,λb u y q=>by rw[aU (p b _ q λz=>z)];exact q,λb E q=>⟨by rw[aU (p b _ q λz=>z)];exact q,λc A v g=>⟨k c A (by
   rintro rfl;rcases C with r|r
   .exact p c _ v (λz=>z) r
   .rw[v]at r;cases r;rw[q]at s;exact s) g,by rw[aU (p c _ v λz=>z)];trivial⟩⟩⟩
 grind
end
noncomputable def yu(h:ax)(H:Hp):List ab:=(ce h.objs.size).filter λa=>(H a).isSome
def nG(h:ax)(H:Hp):ax:=PySem.W.hideAll h (yu h H)
theorem LQ(h:ax)(H:Hp):(nG h H).objs.size=h.objs.size:=PySem.W.hideAll_size _ _
theorem Qs{h:ax}(e:h.get? b=aa o)(n:H b=ac):(nG h H).get? b=aa o :=
 PySem.W.hideAll_get _ e λa=>by
  have q:(H b).isSome=ag:=(y8.mp a).2
  grind
theorem V6(e:(nG h H).get? b=aa o):h.get? b=aa o/\H b=ac:=by
 have a:h.get? b=aa o:=PySem.W.of_hideAll (yu h H) e;refine⟨a,?_⟩;cases q:H b with
 |none=>rfl
 |some x=>have c:b∈yu h H:=y8.mpr ⟨ph.mpr (bu a),by simp[q]⟩;have z:(nG h H).get? b=ac:=PySem.W.hideAll_none (yu h H) c;lia
noncomputable def Sm(g h:ax)(L:ab):List (ab×Obj):=(ce h.objs.size).filterMap λa=>if a=L\/(g.get? a).isSome=ag then ac else(h.get? a).map λo=>(a,o)
def rest(g h:ax)(L d:ab):List (ab×Obj):=(Sm g h L).filter λp=>decide (p.1≠d)
structure Mod(K:aw)(mg:Str->Option af)(base:ax):Prop where
 kin:K.In base
 glob:base.Ns cx mg
 blt:∃mb,base.Ns pi mb/\∀x:Str,x≠"__name__"->mb x=dX x
 nolimit:base.NoLimit
 bm:∃bm ob,mg "__builtins__"=aa (.ref bm)/\bm≠pi/\base.get? bm=aa ob/\ob.cls=.type "module"/\ob.dict=aa pi/\ob.data=.plain
structure Cx where
 prog:aM
 w:aD
 K:aw
 mg:Str->Option af
 base:ax
 A:aZ
 N:List Str
 s₀:ak
 H₀:Hp
 env:Env
 outer:List Env
 stack:List Env
 ex:List ab
 fn:Str->Bool
 calm:Bool
 pn:List (ab×Obj)
 xe:af->ak->Prop
noncomputable def gc(l:List Env):List ab:=l.filterMap (·.frame)
abbrev Cx.fs(X:Cx):List ab:=gc X.outer
noncomputable def cO(a:cV)(x:Str):Prop:=a.names.lookup x=aa .local\/a.names.lookup x=aa .cell\/a.names.lookup x=aa .free
noncomputable def Loc(a:cV)(x:Str):Prop:=a.names.lookup x=aa .local\/a.names.lookup x=aa .cell
noncomputable def Look(a:Env)(h:ax)(m:Str->Option af)(x:Str)(u:af):Prop :=(a.kindOf x=aa .local/\m x=aa u)\/((a.kindOf x=aa .cell\/a.kindOf x=aa .free)/\∃c,a.cells.lookup x=aa c/\h.IsCell c (aa u))
noncomputable def tm:List Str:=["least_ending"]
def xn(K:aw)(H:Hp):Prop:=∀x∈tm,∀c P,lT K x=aa (c,P)->H P=aa (.tbl (x++".<locals>.<lambda>"))
structure Cx.Ok(X:Cx):Prop where
 mod:Mod X.K X.mg X.base
 kind:X.env.scope.kind=.function
 glob:X.env.globals=cx
 blt:X.env.builtins=pi
 above:X.s₀.heap.objs.size<=X.env.locals
 inj:∀x y c,X.env.cells.lookup x=aa c->X.env.cells.lookup y=aa c->x=y
 has:∀x,(X.env.kindOf x=aa .cell\/X.env.kindOf x=aa .free)->∃c,X.env.cells.lookup x=aa c
 cab:∀x c,X.fn x=ag->X.env.cells.lookup x=aa c->X.s₀.heap.objs.size<=c
 hd:X.calm=ag->X.A.handled=ac
 frames:X.A.frames=aa X.stack
 stk:X.stack=X.outer\/(X.stack=X.env::X.outer/\X.env.frame=aa X.env.locals)
 exf:∀b∈X.ex,b≠X.env.locals/\∀x c,X.env.cells.lookup x=aa c->c≠b
 bs:∀b o,X.base.get? b=aa o->X.s₀.heap.get? b=aa o/\X.H₀ b=ac
 bsz:X.base.objs.size<=X.s₀.heap.objs.size
 noex:∀b o,X.base.get? b=aa o->b∉X.ex
 exfs:∀b∈X.ex,b∉X.fs
 funs:X.s₀.heap.FunFrames X.base X.outer
 frf:∀b∈X.fs,X.H₀ b=ac
 tab:xn X.K X.H₀
structure Inv(X:Cx)(ae:List (ab×Obj))(σ:List (Option V))(H:Hp)(s:ak):Prop where
 ok:X.Ok
 os:s.os=X.s₀.os
 bare:nW s.gens
 base:Un X.fs X.ex X.H₀ H X.s₀.heap s.heap
 loc:∃m,s.heap.Ns X.env.locals m/\∀(i:Nat) (x:Str) (v:V),X.N[i]?=aa x->σ[i]?=aa (aa v)->cO X.env.scope x->∃u,RelV v u/\Look X.env s.heap m x u
 cell:∀x c,X.env.cells.lookup x=aa c->∃v,s.heap.IsCell c v
 free:H X.env.locals=ac
 freeC:∀x c,X.env.cells.lookup x=aa c->H c=ac
 pin:∀p∈X.pn++ae,s.heap.get? p.1=aa p.2/\H p.1=ac/\p.1≠X.env.locals/\p.1∉X.fs/\∀v,p.2.data≠.cell v
 hok:cZ X.prog X.w H s.heap
 len:σ.length=X.N.length
section
variable{X:Cx}{f:List (ab×Obj)}{w:List (Option V)}{H B:Hp}{s:ak}{h':ax}
theorem Cx.Ok.nofr(ok:X.Ok)(e:X.base.get? b=aa o):b∉X.fs:=λa=>by have:=(ok.funs.mem a).1;lia
theorem Inv.bs(I:Inv X f w H s):∀b o,X.base.get? b=aa o->s.heap.get? b=aa o/\H b=ac:=λb o e=>⟨I.base.keep b o (I.ok.bs b o e).1 (I.ok.bs b o e).2 (I.ok.nofr e) (I.ok.noex b o e),I.base.free b o (I.ok.bs b o e).1 (I.ok.bs b o e).2 (I.ok.noex b o e)⟩
theorem Inv.bk(I:Inv X f w H s):∀b o,X.base.get? b=aa o->s.heap.get? b=aa o:=λb o e=>(I.bs b o e).1
theorem Inv.mod(I:Inv X f w H s):Mod X.K X.mg X.base:=I.ok.mod
theorem Inv.kIn(I:Inv X f w H s):X.K.In s.heap:=I.ok.mod.kin.keeps I.bk
theorem Inv.lt(I:Inv X f w H s):X.env.locals<s.heap.objs.size:=let ⟨_,hn,_⟩:=I.loc;hn.lt
theorem Inv.sz(I:Inv X f w H s):X.s₀.heap.objs.size<=s.heap.objs.size:=dD I.ok.above (ig I.lt)
theorem Inv.nofs(I:Inv X f w H s)(h:s.heap.objs.size<=a):a∉X.fs:=λc=>by obtain⟨_,o,b,_⟩:=I.ok.funs.mem c;exact absurd (fe (bu b) (dD I.sz h)) (rf _)
theorem Inv.cne(I:Inv X f w H s):∀x c,X.env.cells.lookup x=aa c->c≠X.env.locals:=λx c e z=>by obtain⟨v,o,d,g⟩:=I.cell x c e;obtain⟨m,⟨a,h,i,j,b,_⟩,_⟩:=I.loc;simp_all
theorem Inv.tab(I:Inv X f w H s):xn X.K H:=λx a c P h=>(I.base.tbls P _ (I.ok.tab x a c P h)).1
theorem Inv.funs(I:Inv X f w H s):s.heap.FunFrames X.base X.outer:=by
 have all:∀(l:List Env),(∀b∈gc l,b∈X.fs)->X.s₀.heap.FunFrames X.base l->s.heap.FunFrames X.base l:=by
  intro l
  induction l with
  |nil=>intro _ _;trivial
  |cons u r h=>intro g n;obtain⟨p,⟨L,o,a,m,j,q⟩,i⟩:=n;have d:L∈X.fs:=g L (by unfold gc;rw[lm,a];exact ii);obtain⟨v,e⟩:=I.base.slot L o j (I.ok.frf L d) d λz=>I.ok.exfs L z d;exact⟨p,⟨L,_,a,m,e,q⟩,h (λb c=>g b (by unfold gc;rw[lm,a];exact gr _ c)) i⟩
 exact all X.outer (λ_ c=>c) I.ok.funs
theorem Inv.stack(I:Inv X f w H s):s.heap.FunFrames X.base X.stack:=by
 rcases I.ok.stk with e|⟨e,b⟩
 .rw[e];exact I.funs
 .rw[e];obtain⟨m,a,_⟩:=I.loc;refine .cons (by rw[I.ok.kind];decide) b a ?_ I.funs;exact Dx (dD I.ok.bsz I.ok.above)
theorem Inv.stkSub(I:Inv X f w H s):∀b∈gc X.stack,b∈X.env.locals::X.fs:=λb a=>by
 rcases I.ok.stk with e|⟨e,c⟩
 .simp_all
 .rw[e]at a;unfold gc at a;rw[lm,c]at a;trivial
theorem Inv.stkFree(I:Inv X f w H s):∀b∈gc X.stack,H b=ac:=λb a=>by
 rcases b8.mp (I.stkSub b a)with e|a
 .rw[e];exact I.free
 .obtain⟨_,o,c,_⟩:=I.ok.funs.mem a;exact I.base.free b o c (I.ok.frf b a) λz=>I.ok.exfs b z a
theorem Inv.step{ch:List ab}(I:Inv X f w H s)(P:∀b∈ch,(b∈X.ex\/X.s₀.heap.objs.size<=b)/\b≠X.env.locals/\(∀x c,X.env.cells.lookup x=aa c->c≠b)/\∀p∈X.pn++f,p.1≠b)(keep:∀b o,b≠X.env.locals->b∉X.fs->b∉ch->s.heap.get? b=aa o->H b=ac->h'.get? b=aa o)(D:∀b o,b≠X.env.locals->b∈X.fs->b∉ch->s.heap.get? b=aa o->H b=ac->∃W,h'.get? b=aa {o with slots:=W}) (free:∀b o,b∉ch->s.heap.get? b=aa o->H b=ac->B b=ac)(E:∀b o,b∉ch->s.heap.get? b=aa o->∃N,h'.get? b=aa N)(M:∀b A,H b=aa (.tup A)->B b=aa (.tup A)) (Q:∀b o u,H b=aa (.frz o u)->B b=aa (.frz o u)) (C:∀b q,H b=aa (.tbl q)->B b=aa (.tbl q)/\∀c o,H c=aa (.own b)->s.heap.get? c=aa o->h'.get? c=aa o/\B c=aa (.own b))(ns:∀m,s.heap.Ns X.env.locals m->h'.Ns X.env.locals m) (Y:cZ X.prog X.w B h') (hg:nW g'):Inv X f w B {s with heap:=h',gens:=g',drawn:=d',toks:=t'}:=by
 have O:∀b o,X.s₀.heap.get? b=aa o->b≠X.env.locals:=λb o e=>cr (fe (bu e) I.ok.above);have y:∀b o,X.s₀.heap.get? b=aa o->b∉X.ex->b∉ch:=λb o e a F=>by
  rcases(P b F).1 with z|z
  .trivial
  .exact absurd (fe (bu e) z) (rf _)
 have j:∀x c,X.env.cells.lookup x=aa c->∀v,s.heap.IsCell c v->h'.IsCell c v:=λx c e v ⟨o,J,Z⟩=>by
  have h:c∉ch:=λz=>(P c z).2.2.1 x c e rfl;by_cases hc:c∈X.fs
  .obtain⟨W,q⟩:=D c o (I.cne x c e) hc h J (I.freeC x c e);exact⟨_,q,Z⟩
  .exact⟨o,keep c o (I.cne x c e) hc h J (I.freeC x c e),Z⟩
 refine⟨I.ok,I.os,hg,⟨λb o e n F a=>?_,λb o e n F a=>?_,λb o e n a=>?_,λb o e a=>?_,λb A e=>M b A (I.base.tups b A e),λb o A e=>Q b o A (I.base.frzs b o A e),λb S e=>?_⟩,?_,λx c e=>?_,?_,λx c e=>?_,λp hp=>?_,Y,I.len⟩
 .exact keep b o (O b o e) F (y b o e a) (I.base.keep b o e n F a) (I.base.free b o e n a)
 .obtain⟨W,G⟩:=I.base.slot b o e n F a;obtain⟨T,L⟩:=D b _ (O b o e) F (y b o e a) G (I.base.free b o e n a);exact⟨T,L⟩
 .obtain⟨N,G⟩:=I.base.there b o e a;exact free b N (y b o e a) G (I.base.free b o e n a)
 .obtain⟨N,G⟩:=I.base.there b o e a;exact E b N (y b o e a) G
 .exact⟨(C b _ (I.base.tbls b S e).1).1,λc o L g=>(C b _ (I.base.tbls b S e).1).2 c o ((I.base.tbls b S e).2 c o L g).2 ((I.base.tbls b S e).2 c o L g).1⟩
 .obtain⟨m,hn,hl⟩:=I.loc;refine⟨m,ns m hn,λi x v G L e3=>?_⟩;obtain⟨u,r,l⟩:=hl i x v G L e3;refine⟨u,r,?_⟩;rcases l with l|⟨k,c,e,z⟩
  .exact .inl l
  .exact .inr ⟨k,c,e,j x c e _ z⟩
 .obtain⟨v,z⟩:=I.cell x c e;exact⟨v,j x c e v z⟩
 .obtain⟨m,⟨o,_,_,J,_⟩,_⟩:=I.loc;exact free _ o (λz=>(P _ z).2.1 rfl) J I.free
 .obtain⟨v,o,J,Z⟩:=I.cell x c e;exact free c o (λz=>(P c z).2.2.1 x c e rfl) J (I.freeC x c e)
 .obtain⟨e,n,ne,nf,d⟩:=I.pin p hp;have h:p.1∉ch:=λz=>(P p.1 z).2.2.2 p hp rfl;exact⟨keep p.1 p.2 ne nf h e n,free p.1 p.2 h e n,ne,nf,d⟩
theorem Inv.un(I:Inv X f w H s)(u:Un X.fs [] H B s.heap h')(a:cZ X.prog X.w B h'):Inv X f w B {s with heap:=h',toks:=t'}:=by
 obtain⟨m,⟨o,y,A,h,r⟩,_⟩:=id I.loc;obtain⟨q,p⟩:=u.any h I.free (by simp);exact I.step (g':=s.gens) (d':=s.drawn) (ch:=[]) (λ_ z=>nomatch z) (λb o _ c _ e n=>u.keep b o e n c (by simp)) (λb o _ c _ e n=>u.slot b o e n c (by simp)) (λb o _ e n=>u.free b o e n (by simp)) (λb o _ e=>u.there b o e (by simp)) u.tups u.frzs u.tbls (λx l=>by
  obtain⟨v,d,g,i,j⟩:=l;rw[h]at i;cases i;exact⟨_,d,g,p,j⟩) a I.bare
theorem Inv.call{ch:List ab}(I:Inv X f w H s)(u:Un (gc X.stack) ch H B s.heap h')(d:cZ X.prog X.w B h')(A:nW g')(j:∀b∈ch,(b∈X.ex\/X.s₀.heap.objs.size<=b)/\b≠X.env.locals/\(∀x c,X.env.cells.lookup x=aa c->c≠b)/\∀p∈X.pn++f,p.1≠b):Inv X f w B {s with heap:=h',gens:=g',drawn:=d',toks:=t'}:=by
 obtain⟨m,⟨o,G,J,l,r⟩,_⟩:=id I.loc;obtain⟨D,g⟩:=u.any l I.free λz=>(j _ z).2.1 rfl;exact I.step (ch:=ch) j (λb o g C a e n=>u.keep b o e n (λz=>(b8.mp (I.stkSub b z)).elim g C) a) (λb o _ _ a e n=>u.any e n a) (λb o a e n=>u.free b o e n a) (λb o a e=>u.there b o e a) u.tups u.frzs u.tbls (λF y=>by
  obtain⟨E,h,i,q,v⟩:=y;rw[l]at q;cases q;exact⟨_,h,i,g,v⟩) d A
theorem Inv.turned(I:Inv X f w H s)(k:∀b o,b≠it->s.heap.get? b=aa o->h'.get? b=aa o)(D:H it=ac)(y:it≠X.env.locals)(G:it∈X.ex\/X.s₀.heap.objs.size<=it) (F:∀x c,X.env.cells.lookup x=aa c->c≠it) (E:∀p∈X.pn++f,p.1≠it):Inv X f w H {s with heap:=h',toks:=t'}:=by
 have d:∀b u,H b=aa u->b≠it:=λb u e z=>by lia
 refine I.step (g':=s.gens) (d':=s.drawn) (ch:=[it]) (λb l=>?_) (λb o _ _ a e _=>k b o (λz=>a (by simp[z])) e) (λb o _ _ a e _=>⟨o.slots,k b o (λz=>a (by simp[z])) e⟩) (λ_ _ _ _ n=>n)
  (λb o a e=>⟨o,k b o (λz=>a (by simp[z])) e⟩) (λ_ _ e=>e) (λ_ _ _ e=>e) (λ_ _ e=>⟨e,λc o h g=>⟨k c o (d c _ h) g,h⟩⟩) (λm j=>?_) (λb u e=>?_) I.bare
 .have e:b=it:= ~~~l
  subst e;trivial
 .obtain⟨o,A,C,i,r⟩:=j;exact⟨o,A,C,k _ o (fF y) i,r⟩
 .refine(I.hok b u e).stay (λc v a q=>k c v ?_ q) (λ_ q=>q) λ_ _ q=>q;lia
theorem Inv.tok(I:Inv X f w H s)(t:Nat):Inv X f w H {s with toks:=t}:=I.un (h':=s.heap) (t':=t) Un.refl I.hok
theorem Inv.kept(I:Inv X f w H s)(k:∀b u,s.heap.get? b=aa u->h'.get? b=aa u):Inv X f w H {s with heap:=h',toks:=t'}:=I.un (Un.kept k) (I.hok.kept k)
theorem Inv.laid(I:Inv X f w H s)(k:∀b u,s.heap.get? b=aa u->h'.get? b=aa u)(c:s.heap.objs.size<=a)(new:bN X.prog X.w (upd H a o) h' a o):Inv X f w (upd H a o) {s with heap:=h',toks:=t'}:=I.un (Un.laid k c (I.hok.fresh c)) (I.hok.laid k c new)
theorem Inv.write(I:Inv X f w H s)(c:uP (H x))(d:e=x\/H e=aa (.own x))(k:∀b u,b≠e->s.heap.get? b=aa u->h'.get? b=aa u)(a:∃u,h'.get? e=aa u)(new:bN X.prog X.w (upd H x o) h' x o):Inv X f w (upd H x o) {s with heap:=h',toks:=g}:=I.un (Un.write c d k a) (I.hok.write c d k a new)
theorem Inv.pins_of(I:Inv X f w H s)(h:∀p∈a,s.heap.get? p.1=aa p.2/\H p.1=ac/\p.1≠X.env.locals/\p.1∉X.fs/\∀v,p.2.data≠.cell v):Inv X a w H s :=⟨I.ok,I.os,I.bare,I.base,I.loc,I.cell,I.free,I.freeC,λp b=>(Dy.mp b).elim (λz=>I.pin p (y9 _ z)) (h p),I.hok,I.len⟩
theorem FH{N:List Str}(c:N.Nodup){j:Nat}(a:N[i]?=aa x)(b:N[j]?=aa x):i=j:=by obtain⟨l,g⟩:=cW.mp a;obtain⟨h,d⟩:=cW.mp b;exact(List.getElem_inj c).mp (g.trans d.symm)
noncomputable abbrev a3(X:Cx)(x:Str):=X.fn x=ag\/X.env.scope.names.lookup x=aa .local
theorem IZ(I:Inv X f w H s)(hN:X.N.Nodup)(W:X.N[i]?=aa x)(G:Loc X.env.scope x)(r:RelV v u)(h:∀s',Inv X f (w.set i (aa v)) H s'->(∃a,eG a s.heap s'.heap/\(a=X.env.locals\/X.env.cells.lookup x=aa a))->Q () s') (hf:a3 X x^3):ao M A (storeName X.env x u) Q E s:=by
 obtain⟨m,hn,hl⟩:=id I.loc;have EM:(X.env.scope.kind == .class||(X.env.scope.kind == .module&&X.env.locals != X.env.globals))=ai:=by rw[I.ok.kind];rfl
 have N:i<w.length:=by rw[I.len];exact(cW.mp W).1
 have cne:=I.cne;have D:∀{a:ab}{h':ax},(∃o,s.heap.get? a=aa o/\H a=ac)->eG a s.heap h'->cZ X.prog X.w H h':=λ{a h'} ha l b ob e=>by obtain⟨_,_,Ll⟩:=ha;refine(I.hok b ob e).stay (λc Z J q=>(l.2 c ?_).trans q) (λ_ q=>q) λ_ _ q=>q;lia
 rcases G with T|T
 .refine wpAny_storeName_local T hn (λh' hn' l=>?_) EM;obtain⟨oL,_,_,kA,_⟩:=id hn;refine h _ ⟨I.ok,I.os,I.bare,⟨λb o e n S G=>?_,λb o e n S G=>?_,I.base.free,λb o e G=>?_,I.base.tups,I.base.frzs,λb q e=>⟨(I.base.tbls b q e).1,λc o F g=>⟨(l.2 c (λz=>by have C:=((I.base.tbls b q e).2 c o F g).2;rw[z,I.free]at C;trivial)).trans ((I.base.tbls b q e).2 c o F g).1,((I.base.tbls b q e).2 c o F g).2⟩⟩⟩,⟨_,hn',λj y v' C F e3=>?_⟩,λy c e=>?_,I.free,I.freeC,λp hp=>?_,D ⟨oL,kA,I.free⟩ l,~~~I.len⟩ ⟨_,l,.inl rfl⟩
  .exact(l.2 b (cr (fe (bu e) I.ok.above))).trans (I.base.keep b o e n S G)
  .obtain⟨sl,C⟩:=I.base.slot b o e n S G;exact⟨sl,(l.2 b (cr (fe (bu e) I.ok.above))).trans C⟩
  .obtain⟨o',C⟩:=I.base.there b o e G;exact⟨o',(l.2 b (cr (fe (bu e) I.ok.above))).trans C⟩
  .by_cases O:j=i
   .subst O;rw[W]at C;cases C;rw[iT N]at F;cases F;exact⟨u,r,.inl ⟨T,by simp⟩⟩
   .rw[ff (fF O)]at F;obtain⟨u',r',q⟩:=hl j y v' C F e3;refine⟨u',r',?_⟩;rcases q with⟨k,e⟩|⟨k,c,e,z⟩
    .refine .inl ⟨k,?_⟩;have:y≠x:=λe=>O (FH hN C (e ▸ W));simp[this,e]
    .exact .inr ⟨k,c,e,z.sameBut l (cne y c e)⟩
  .obtain⟨Z,z⟩:=I.cell y c e;exact⟨Z,z.sameBut l (cne y c e)⟩
  .obtain⟨e,n,ne,nf,d⟩:=I.pin p hp;exact⟨(l.2 p.1 ne).trans e,n,ne,nf,d⟩
 .have P:X.fn x=ag:=by
   lia
  obtain⟨c,J⟩:=I.ok.has x (.inl T);obtain⟨Z,z⟩:=I.cell x c J;refine wpAny_storeName_cell I.ok.kind T J z (λh' j5 l=>?_);obtain⟨oc,rX,hocd⟩:=id z;refine h {s with heap:=h'} ⟨I.ok,I.os,I.bare,⟨λb o e n S G=>?_,λb o e n S G=>?_,I.base.free,λb o e G=>?_,I.base.tups,I.base.frzs,λb q e=>⟨(I.base.tbls b q e).1,λL o F g=>⟨(l.2 L (λz=>by have C:=((I.base.tbls b q e).2 L o F g).2;rw[z,I.freeC x c J]at C;trivial)).trans ((I.base.tbls b q e).2 L o F g).1,((I.base.tbls b q e).2 L o F g).2⟩⟩⟩,⟨m,hn.sameBut l (fF (cne x c J)),λj y v' C F e3=>?_⟩,λy L e=>?_,I.free,I.freeC,λp hp=>?_,D ⟨oc,rX,I.freeC x c J⟩ l,~~~I.len⟩ ⟨c,l,.inr J⟩
  .exact(l.2 b (cr (fe (bu e) (I.ok.cab x c P J)))).trans (I.base.keep b o e n S G)
  .obtain⟨sl,C⟩:=I.base.slot b o e n S G;exact⟨sl,(l.2 b (cr (fe (bu e) (I.ok.cab x c P J)))).trans C⟩
  .obtain⟨o',C⟩:=I.base.there b o e G;exact⟨o',(l.2 b (cr (fe (bu e) (I.ok.cab x c P J)))).trans C⟩
  .by_cases O:j=i
   .subst O;rw[W]at C;cases C;rw[iT N]at F;cases F;exact⟨u,r,.inr ⟨.inl T,c,J,j5⟩⟩
   .rw[ff (fF O)]at F;obtain⟨u',r',q⟩:=hl j y v' C F e3;refine⟨u',r',?_⟩;rcases q with q|⟨k,L,e,z'⟩
    .exact .inl q
    .refine .inr ⟨k,L,e,z'.sameBut l ?_⟩;rintro rfl;exact O (FH hN C (I.ok.inj _ _ _ e J ▸ W))
  .by_cases Y:L=c
   .subst Y;exact⟨_,j5⟩
   .obtain⟨w2,z2⟩:=I.cell y L e;exact⟨w2,z2.sameBut l Y⟩
  .obtain⟨e,n,ne,nf,d⟩:=I.pin p hp;refine⟨(l.2 p.1 ?_).trans e,n,ne,nf,d⟩;intro q;rw[q,rX]at e;have q':oc=p.2:=fG e;exact d Z (by rw[<-q'];trivial)
theorem IB{i:Nat}{x:Str}{v:V}{u:af}{Q:Unit->ak->Prop}(I:Inv X f w H s)(g:X.N.Nodup)(c:X.N[i]?=aa x)(b:Loc X.env.scope x)(r:RelV v u)(h:∀a,Inv X f (w.set i (aa v)) H a->Q () a) (d:a3 X x^3):ao M A (storeName X.env x u) Q E s :=IZ I g c b r (λa j _=>h a j) d
theorem Inv.call'{s':ak}(I:Inv X f w H s)(h:s'.os=s.os)(u:Un (gc X.stack) ch H B s.heap s'.heap)(a:cZ X.prog X.w B s'.heap)(i:nW s'.gens)(g:∀b∈ch,(b∈X.ex\/X.s₀.heap.objs.size<=b)/\b≠X.env.locals/\(∀x c,X.env.cells.lookup x=aa c->c≠b)/\∀p∈X.pn++f,p.1≠b):Inv X f w B s':=by obtain⟨h',g',d',t',d⟩:=s';have e:d=s.os:=h;subst e;exact I.call (g':=g') (t':=t') (d':=d') u a i g
end
abbrev XK:=af->Option ab->Hp->Prop
abbrev St:=List (Option V)
abbrev VK:=V->Hp->Prop
abbrev TE:=St->Hp->VK->Prop
abbrev TT:=St->Hp->(Bool->Hp->Prop)->Prop
abbrev TA:=St->Hp->(List V->Hp->Prop)->Prop
structure kR where
 nx:St->Hp->Prop
 rt:VK
 bk:St->Hp->Prop:=λ_ _=>False
 ct:St->Hp->Prop:=λ_ _=>False
abbrev TS:=kR->St->Hp->Prop
inductive EP(X:Cx)(ae:List (ab×Obj))(σ:St)(Q:VK)(u:af)(s':ak):Prop
 |mk (v:V) (H':Hp) (z0:Inv X ae σ H' s') (z1:RelV v u) (z2:Q v H')
inductive TP(X:Cx)(ae:List (ab×Obj))(σ:St)(Q:Bool->Hp->Prop)(b:Bool)(s':ak):Prop
 |mk (H':Hp) (z0:Inv X ae σ H' s') (z1:Q b H')
inductive AP(X:Cx)(ae:List (ab×Obj))(σ:St)(Q:List V->Hp->Prop)(us:List af)(s':ak):Prop
 |mk (vs:List V) (H':Hp) (z0:Inv X ae σ H' s') (z1:bE vs us) (z2:Q vs H')
noncomputable def SP(X:Cx)(c:List (ab×Obj))(D:kR)(f:Flow)(s':ak):Prop :=
 match f with
 |.next=>∃a b,Inv X c a b s'/\D.nx a b
 |.brk=>∃a b,Inv X c a b s'/\D.bk a b
 |.cont=>∃a b,Inv X c a b s'/\D.ct a b
 |.ret u=>∃v a b,Inv X c a b s'/\RelV v u/\D.rt v b
noncomputable abbrev Cx.zz(X:Cx):=ar X.prog X.w
def PE(X:Cx)(e:au)(t:TE):Prop :=
 ∀(b:List (ab×Obj)) (s:ak) (a:St) (H:Hp) (Q:VK),Inv X b a H s->t a H Q->ao X.zz X.A (aS e X.env) (EP X b a Q) X.xe s
def PT(X:Cx)(e:au)(t:TT):Prop :=
 ∀(b:List (ab×Obj)) (s:ak) (a:St) (H:Hp) (Q:Bool->Hp->Prop),Inv X b a H s->t a H Q->ao X.zz X.A (nX e X.env (aS e X.env)) (TP X b a Q) X.xe s
def PW(X:Cx)(e:au)(t:TT):Prop :=
 ∀(c:Sem af) (b:List (ab×Obj)) (s:ak) (a:St) (H:Hp) (Q:Bool->Hp->Prop),Inv X b a H s->t a H Q->ao X.zz X.A (nX e X.env c) (TP X b a Q) X.xe s
def PA(X:Cx)(d:List au)(t:TA):Prop :=
 ∀(b:Pos) (c:List (ab×Obj)) (s:ak) (a:St) (H:Hp) (Q:List V->Hp->Prop),Inv X c a H s->t a H Q->ao X.zz X.A (spliced (c8 b (aV d X.env))) (AP X c a Q) X.xe s
def PS(X:Cx)(c:aR)(t:TS):Prop :=
 ∀(b:List (ab×Obj)) (s:ak) (a:St) (H:Hp) (D:kR),Inv X b a H s->t D a H->ao X.zz X.A (exec c X.env) (SP X b D) X.xe s
def k_(X:Cx)(c:List aR)(t:TS):Prop :=
 ∀(b:List (ab×Obj)) (s:ak) (a:St) (H:Hp) (D:kR),Inv X b a H s->t D a H->ao X.zz X.A (execs c X.env) (SP X b D) X.xe s
theorem aP{c:b->ak->Prop}{M:Model}{A:aZ}{E:af->ak->Prop}{s:ak}(h:ao M A t Q E s)(d:∀a s,Q a s->c a s):ao M A t c E s:=eU h d λ_ _ x=>x
section
variable{X:Cx}
theorem UP{o:TE}(D:PE X a n)(C:PE X b o){l:List (ab×Obj)}{s:ak}{c:St}{H:Hp}{R:V->V->Hp->Prop}(I:Inv X l c H s)(h:n c H λx m=>o c m λy d=>R x y d){p:Type}{Q:p->ak->Prop}{f:af->af->Sem p}(B:∀v u j x y d,Inv X l c d j->RelV x v->RelV y u->R x y d->ao X.zz X.A (f v u) Q X.xe j):ao X.zz X.A (aS a X.env) (λv i=>ao X.zz X.A (aS b X.env) (λu g=>ao X.zz X.A (f v u) Q X.xe g) X.xe i) X.xe s:=by refine aP (D l s c H _ I h) λv q ⟨x,m,F,w,A⟩=>?_;refine aP (C l q c m _ F A) λu j ⟨y,d,E,r,z⟩=>?_;exact B v u j x y d E w r z
def yN(i:Nat):TE:=λa H Q=>∃v,a[i]?=aa (aa v)/\Q v H
def tC(v:V):TE:=λ_ H Q=>Q v H
abbrev av(x:Str):=(x==("__debug__":Str))=ai
abbrev a4(x:Str):=(x==("__classdict__":Str))=ai
theorem dR(p:X.N[i]?=aa x)(j:cO X.env.scope x)(d:av x^1)(q:a4 x^1):PE X (.Name x g) (yN i):=by
 intro w s f H Q I h;obtain⟨v,e,h⟩:=h;obtain⟨m,n,o⟩:=I.loc;obtain⟨u,r,l⟩:=o i x v p e j;have b:EP X w f Q u s:=⟨v,H,I,r,h⟩
 rcases l with⟨a,hm⟩|⟨a,c,hc,zQ⟩
 .exact y_ (Kj I.ok.kind a n hm b) d
 .rcases a with a|a
  .exact y_ (wpAny_loadName_cell I.ok.kind a hc zQ b) d
  .exact y_ (wpAny_loadName_free I.ok.kind a hc zQ b q) d
theorem JP{i j g}:PE X (.Constant (.int i) j g) (tC (.int i)):=λ_ _ _ H _ I h=>wpAny_Constant_int ⟨.int i,H,I.tok _,⟨_,rfl⟩,h⟩
theorem RL{b j g}:PE X (.Constant (.bool b) j g) (tC (.bl b)):=λ_ _ _ H _ I h=>Constant_bool ⟨.bl b,H,I,rfl,h⟩
theorem R4{j g}:PE X (.Constant .none j g) (tC .non):=λ_ _ _ H _ I h=>Constant_none ⟨.non,H,I,rfl,h⟩
theorem QF{x j g}:PE X (.Constant (.str x) j g) (tC (.str x)):=λ_ _ _ H _ I h=>Calls.Constant_str ⟨.str x,H,I.tok _,⟨_,rfl⟩,h⟩
def Gl(X:Cx)(x:Str):Prop:=X.env.kindOf x=aa .globalImplicit
theorem J5{a:St}{H:Hp}{x:Str}{u:af}{g:Pos}{Q:af->ak->Prop}(I:Inv X f a H s)(c:Gl X x)(b:X.mg x=aa u)(h:Q u s)(d:av x^1):ao X.zz X.A (aS (.Name x g) X.env) Q E s :=Kk I.ok.kind c (Calls.loadGlobal_global (by rw[I.ok.glob];exact I.mod.glob.keeps I.bk) b h) d
theorem o8{a:St}{H:Hp}{x:Str}{u:af}{g:Pos}{Q:af->ak->Prop}(I:Inv X m a H s)(f:Gl X x)(d:X.mg x=ac)(b:dX x=aa u)(h:Q u s)(c:(x≠"__name__")^1) (i:av x^1):ao X.zz X.A (aS (.Name x g) X.env) Q E s:=by obtain⟨n,l,j⟩:=I.mod.blt;exact Kk I.ok.kind f (Calls.loadGlobal_builtin (by rw[I.ok.glob];exact I.mod.glob.keeps I.bk) d (by rw[I.ok.blt];exact l.keeps I.bk) ((j x c).trans b) h) i
theorem B3(b:Gl X x)(a:X.mg x=aa u)(r:RelV v u)(c:av x^1):PE X (.Name x g) (tC v) :=λ_ _ _ H _ I h=>J5 I b a ⟨v,H,I,r,h⟩ c
theorem P8(d:Gl X x)(c:X.mg x=ac)(a:dX x=aa u)(r:RelV v u)(b:(x≠"__name__")^1)(f:av x^1):PE X (.Name x g) (tC v) :=λ_ _ _ H _ I h=>o8 I d c a ⟨v,H,I,r,h⟩ b f
noncomputable def Tk(n o:TE)(k:Int->Int->Hp->Prop):St->Hp->Prop:=λa H=>n a H λx c=>o a c λy b=>∃i j,x=.int i/\y=.int j/\k i j b
variable{a b:au}{n o:TE}{g:Pos}
def PC(X:Cx)(i:CmpOp)(a b:au)(t:TE):Prop :=
 ∀(h:List (ab×Obj)) (s:ak) (f:St) (H:Hp) (Q:VK),Inv X h f H s->t f H Q ->
  ao X.zz X.A (aS a X.env) (λv d=>ao X.zz X.A (aS b X.env) (λu c=>ao X.zz X.A (dE i v u) (EP X h f Q) X.xe c) X.xe d) X.xe s
theorem Vw(b:au)(h:c≠.In)(i:c≠.NotIn):nY c b=ai:=by
 have f:(c == CmpOp.In)=ai:=by lia
 have d:(c == CmpOp.NotIn)=ai:=by lia
 cases b <;> simp[nY,f,d]
def FC(p:Int->Int->Bool)(n o:TE):TE:=λc H Q=>Tk n o (λi j d=>Q (.bl (p i j)) d) c H
abbrev M3:TE->TE->TE:=FC λi j=>decide (j<i)
theorem Sv(z:PE X a n)(w:PE X b o)(c:∀(i j:Int) (t u:Tok) (Q:af->ak->Prop) (s:ak),Q (.bool (p i j)) s->ao X.zz X.A (dE d (.int i t) (.int j u)) Q X.xe s):PC X d a b (FC p n o):=by intro D s C H Q I h;refine UP z w I h λv u l x y B A r m q=>?_;obtain⟨i,j,rfl,rfl,q⟩:=q;obtain⟨t,rfl⟩:=r;obtain⟨f,rfl⟩:=m;exact c i j t f _ l ⟨.bl _,B,A,rfl,q⟩
theorem LX(d:PE X a n)(c:PE X b o):PC X .Gt a b (M3 n o):=Sv d c λ_ _ _ _ _ _ h=>gt_int h
def tB(t:TE):TT:=λd H Q=>t d H λx f=>∃c,x=.bl c/\Q c f
theorem yK(h:PC X f a b t)(i:nY f b=ai:=by first|exact Vw _ (by decide) (by decide)|rfl):PT X (.Compare a [f] [b] g) (tB t):=by
 intro w s j H Q I p;refine wpAny_isTrue_Compare1 (aP (h w s j H _ I p) λv C i=>aP i λu B r=>aP r λc A ⟨x,z,y,l,m⟩=>?_) i;obtain⟨d,rfl,q⟩:=m;cases l;exact nZ ⟨z,y,q⟩
theorem TL(h:PE X e t)(m:(∀c,nX e X.env c=(do let v <-c;standAt e.pos;kl [v] (truthy v)))^4):PT X e (tB t):=by
 intro p s f H Q I l;refine isTrue_plain (aP (h p s f H _ I l) λv w ⟨x,u,r,i,j⟩=>?_) (m _);obtain⟨d,rfl,q⟩:=j;cases i;exact nZ ⟨u,r,q⟩
variable{w z:TT}{rest:List au}
noncomputable def LY(t u:TT):TT:=λd H Q=>t d H λc f=>if c=ag then u d f Q else Q ai f
noncomputable def M7(t u:TT):TT:=λd H Q=>t d H λc f=>if c=ag then Q ag f else u d f Q
def UW(t:TT):TT:=λd H Q=>t d H λc f=>Q (!c) f
theorem RK(f:PT X a w):PW X (.BoolOp .And [a] g) w:=by
 intro j i s d H Q I h;refine isTrue_and (aP (f i s d H Q I h) λc l e=>?_);cases c with
 |true=>exact isTrue_and_nil e
 |false=>exact e
theorem Qk(f:PT X a w):PW X (.BoolOp .Or [a] g) w:=by
 intro j i s d H Q I h;refine isTrue_or (aP (f i s d H Q I h) λc l e=>?_);cases c with
 |false=>exact isTrue_or_nil e
 |true=>exact e
theorem P9(r:PT X a w)(q:PW X (.BoolOp .And (b::rest) g) z):PW X (.BoolOp .And (a::b::rest) g) (LY w z):=by
 intro m i s d H Q I h;refine isTrue_and (aP (r i s d H _ I h) λc p ⟨l,j,f⟩=>?_);cases c with
 |true=>exact q m i p d l Q j f
 |false=>exact⟨l,j,f⟩
theorem RY(r:PT X a w)(q:PW X (.BoolOp .Or (b::rest) g) z):PW X (.BoolOp .Or (a::b::rest) g) (M7 w z):=by
 intro m i s d H Q I h;refine isTrue_or (aP (r i s d H _ I h) λc p ⟨l,j,f⟩=>?_);cases c with
 |true=>exact⟨l,j,f⟩
 |false=>exact q m i p d l Q j f
theorem N1(i:PT X a w):PT X (.UnaryOp .Not a g) (UW w):=by intro j s f H Q I h;exact isTrue_not (aP (i j s f H (λc d=>Q (!c) d) I h) λc m ⟨d,l,q⟩=>⟨d,l,q⟩)
noncomputable def NT(n o:TE):TE:=λd H Q=>n d H λx f=>∃c,x=.bl c/\if c=ag then o d f Q else Q (.bl ai) f
def QZ(n:TE):TE:=λd H Q=>n d H λx f=>∃c,x=.bl c/\Q (.bl (!c)) f
theorem O3{op}(h:PE X a t):PE X (.BoolOp op [a] g) t:=λf s c H Q I d=>BoolOp_one (h f s c H Q I d)
theorem L7(r:PE X a n)(q:PE X (.BoolOp .And (b::rest) g) o):PE X (.BoolOp .And (a::b::rest) g) (NT n o):=by
 intro i s f H Q I h;refine BoolOp_and (aP (r i s f H _ I h) λv m ⟨x,l,j,p,d⟩=>?_);obtain⟨c,rfl,d⟩:=d;cases p;refine nZ ?_;cases c with
 |true=>exact q i m f l Q j d
 |false=>exact⟨.bl ai,l,j,rfl,d⟩
theorem Uc(j:PE X a n):PE X (.UnaryOp .Not a g) (QZ n):=by
 intro l s f H Q I h;refine UnaryOp_ (aP (j l s f H _ I h) λv q ⟨x,p,m,i,d⟩=>?_);obtain⟨c,rfl,d⟩:=d;cases i;exact not_of (nZ ⟨.bl (!c),p,m,rfl,d⟩)
noncomputable def Qu(t:TT)(n o:TE):TE:=λd H Q=>t d H λc f=>if c=ag then n d f Q else o d f Q
theorem Hk(q:PT X c w)(u:PE X a n)(r:PE X b o):PE X (.IfExp c a b g) (Qu w n o):=by
 intro i s f H Q I h;refine wpAny_IfExp (aP (q i s f H _ I h) λd j ⟨p,m,l⟩=>?_);cases d with
 |true=>exact u i j f p Q m l
 |false=>exact r i j f p Q m l
end
def cg(K:aw)(H:Hp)(a:ab)(c:List V):Prop :=
 Rd H a (.lst c) \/
  ∃(o:Obj) (b:Array af) (n:Nat),K.lookup a=aa o/\o.cls=.type "list"/\o.dict=ac/\o.data=.seq b n/\b.size<=bh/\bE c b.toList
def cq(K:aw)(H:Hp)(a:ab)(c:List V):Prop :=
 Rd H a (.tup c) \/
  ∃(o:Obj) (b:Array af) (n:Nat),K.lookup a=aa o/\o.cls=.type "tuple"/\o.data=.seq b n/\b.size<=bh/\bE c b.toList
noncomputable def V7:af->Option V
 |.none=>aa .non
 |.bool b=>aa (.bl b)
 |.int i _=>aa (.int i)
 |.str x _=>aa (.str x)
 |.bytes b _=>aa (.byt b)
 |.float b _=>aa (.flt b)
 |.ref a=>aa (.ref a)
 |.type n=>aa (.ty n)
 |_=>ac
theorem RelV.abs(r:RelV x u):V7 u=aa x:=by
 cases x with
 |non=>cases r;rfl
 |bl _=>cases r;rfl
 |int _=>obtain⟨t,rfl⟩:=r;rfl
 |str _=>obtain⟨t,rfl⟩:=r;rfl
 |byt _=>obtain⟨t,rfl⟩:=r;rfl
 |flt _=>obtain⟨t,rfl⟩:=r;rfl
 |ref _=>cases r;rfl
 |ty _=>cases r;rfl
theorem RelV.inj(r:RelV x u)(q:RelV y u):x=y:=fG (r.abs.symm.trans q.abs)
theorem bE.inj{b a:List V}{c:List af}(r:bE b c)(s:bE a c):b=a:=by
 unfold bE at r s
 induction r generalizing a with
 |nil=>cases s;rfl
 |cons r _ g=>
  cases s with
  |cons q t=>rw[r.inj q,g t]
section
variable{X:Cx}{f:List (ab×Obj)}{c:St}{H:Hp}{s:ak}{a:ab}{b ys:List V}
theorem cg.of{K:aw}(h:H a=aa (.lst b)):cg K H a b:=.inl (.inl h)
theorem cq.of{K:aw}(h:H a=aa (.tup b)):cq K H a b:=.inl (.inl h)
theorem Inv.list(I:Inv X f c H s)(h:cg X.K H a b):∃its:List af,bE b its/\PlainL s.heap a its.toArray/\b.length<=bh:=by
 rcases h with h|⟨o,its,n,d,i,g,l,j,r⟩
 .obtain⟨z,its,n,r,e⟩:=h.ok I.hok;exact⟨its,r,⟨_,n,e,rfl,rfl,rfl⟩,z⟩
 .refine⟨its.toList,r,⟨o,n,I.kIn a o d,i,g,by trivial⟩,?_⟩;have e:=r.length;simp_all
theorem Inv.tuple(I:Inv X f c H s)(h:cq X.K H a b):∃d:List af,bE b d/\IsTup s.heap a d.toArray/\b.length<=bh:=by
 rcases h with h|⟨o,d,n,g,i,l,j,r⟩
 .obtain⟨z,d,r,p,_⟩:=h.ok I.hok;exact⟨d,r,p,z⟩
 .refine⟨d.toList,r,⟨o,I.kIn a o g,i,n,by trivial⟩,?_⟩;have e:=r.length;simp only[iF]at e;simp_all
theorem Inv.list_inj(I:Inv X f c H s)(h:cg X.K H a b)(p:cg X.K H a ys):b=ys:=by
 obtain⟨i,r,⟨o,n,e,_,_,d⟩,_⟩:=I.list h;obtain⟨g,m,⟨q,u,j,_,_,l⟩,_⟩:=I.list p;rw[e]at j;cases j;rw[d]at l;injection l with d1 _;have:i=g:=by lia
 subst this;exact r.inj m
theorem Inv.tuple_inj(I:Inv X f c H s)(h:cq X.K H a b)(p:cq X.K H a ys):b=ys:=by
 obtain⟨i,r,⟨o,e,_,n,d⟩,_⟩:=I.tuple h;obtain⟨g,m,⟨q,j,_,u,l⟩,_⟩:=I.tuple p;rw[e]at j;cases j;rw[d]at l;injection l with d1 _;have:i=g:=by lia
 subst this;exact r.inj m
end
noncomputable abbrev Cx.wish(X:Cx)(E:af->ak->Prop):Cx:={X with xe:=E}
abbrev Cx.nox(X:Cx):Cx:=X.wish λ_ _=>False
theorem Cx.Ok.wish{X:Cx}(ok:X.Ok)(E:af->ak->Prop):(X.wish E).Ok :=⟨ok.mod,ok.kind,ok.glob,ok.blt,ok.above,ok.inj,ok.has,ok.cab,ok.hd,ok.frames,ok.stk,ok.exf,ok.bs,ok.bsz,ok.noex,ok.exfs,ok.funs,ok.frf,ok.tab⟩
theorem Cx.Ok.unwish{X:Cx}(ok:(X.wish E).Ok):X.Ok :=⟨ok.mod,ok.kind,ok.glob,ok.blt,ok.above,ok.inj,ok.has,ok.cab,ok.hd,ok.frames,ok.stk,ok.exf,ok.bs,ok.bsz,ok.noex,ok.exfs,ok.funs,ok.frf,ok.tab⟩
section
variable{X:Cx}{a:List (ab×Obj)}{b:St}{H:Hp}{s:ak}{E:af->ak->Prop}
theorem Inv.wish(I:Inv X a b H s)(E:af->ak->Prop):Inv (X.wish E) a b H s:=⟨I.ok.wish E,I.os,I.bare,I.base,I.loc,I.cell,I.free,I.freeC,I.pin,I.hok,I.len⟩
theorem Inv.unwish(I:Inv (X.wish E) a b H s):Inv X a b H s:=⟨I.ok.unwish,I.os,I.bare,I.base,I.loc,I.cell,I.free,I.freeC,I.pin,I.hok,I.len⟩
theorem SP.unwish(h:SP (X.wish E) a D f g):SP X a D f g:=by
 cases f with
 |next=>obtain⟨c,d,I,q⟩:=h;exact⟨c,d,I.unwish,q⟩
 |brk=>obtain⟨c,d,I,q⟩:=h;exact⟨c,d,I.unwish,q⟩
 |cont=>obtain⟨c,d,I,q⟩:=h;exact⟨c,d,I.unwish,q⟩
 |ret u=>obtain⟨v,c,d,I,r,q⟩:=h;exact⟨v,c,d,I.unwish,r,q⟩
end
section
variable{X:Cx}{j:aR}{rest:List aR}{t u:TS}{e:au}{i:TE}{g:Pos}
def Pl:TS:=λD a H=>D.nx a H
def NX(t u:TS):TS:=λD a H=>t {D with nx:=u D} a H
theorem NG:k_ X [] Pl:=λ_ _ a H _ I h=>Dz ⟨a,H,I,h⟩
theorem E_(m:PS X j t)(l:k_ X rest u):k_ X (j::rest) (NX t u):=by
 intro b s c H D I h;refine wpAny_execs_cons (aP (m b s c H {D with nx:=u D} I h) λf d q=>?_);cases f with
 |next=>obtain⟨a,o,n,q⟩:=q;exact l b d a o D n q
 |ret v=>exact q
 |brk=>exact q
 |cont=>exact q
theorem FX(b:PS X j t):k_ X [j] t:=by
 intro c s a H D I h;refine wpAny_execs_cons (aP (b c s a H D I h) λf d q=>?_);cases f with
 |next=>exact Dz q
 |ret v=>exact q
 |brk=>exact q
 |cont=>exact q
theorem Inv.quiet{s:ak}(I:Inv X b a H s):interactive X.env=ai:=by simp[interactive,I.ok.kind]
def Rm(i:TE):TS:=λD a H=>i a H λ_ b=>D.nx a b
theorem yf(d:PE X e i)(c:(iG e ac g.line X.env=pure ai)^0):PS X (.Expr e g) (Rm i):=by intro f s a H D I h;exact wpAny_Expr_any (aP (d f s a H _ I h) λv n ⟨x,m,l,o,b⟩=>⟨a,m,l,b⟩) I.quiet c
def QR(i:TE):TS:=λD a H=>i a H D.rt
theorem uA(d:PE X e i):PS X (.Return (aa e) g) (QR i):=by intro f s a H D I h;exact wpAny_Return_some (aP (d f s a H _ I h) λv n ⟨x,m,l,b,c⟩=>⟨x,a,m,l,b,c⟩)
def TQ:TS:=λD _ H=>D.rt .non H
theorem VC:PS X (.Return ac g) TQ:=λ_ _ a H _ I h=>wpAny_Return_none ⟨.non,a,H,I,rfl,h⟩
noncomputable def Vq(c:TT)(t u:TS):TS:=λD a H=>c a H λb d=>if b=ag then t D a d else u D a d
theorem Vd{m:TT}(r:PT X c m)(w:k_ X a t)(v:k_ X b u):PS X (.If c a b g) (Vq m t u):=by
 intro l s f H D I h;refine wpAny_If (aP (r l s f H _ I h) λd n ⟨q,p,o⟩=>?_);cases d with
 |true=>exact w l n f q D p o
 |false=>exact v l n f q D p o
end
abbrev TG:=V->St->Hp->(St->Hp->Prop)->Prop
abbrev qK:=List V->St->Hp->(St->Hp->Prop)->Prop
def PG(X:Cx)(a:au)(t:TG):Prop :=
 ∀(d:List (ab×Obj)) (s:ak) (c:St) (H:Hp) (v:V) (u:af) (Q:St->Hp->Prop),Inv X d c H s->RelV v u->t v c H Q ->
  ao X.zz X.A (pj a X.env u) (λ_ s'=>∃b f,Inv X d b f s'/\Q b f) X.xe s
def xF(X:Cx)(h:List au)(t:qK):Prop :=
 ∀(f:List (ab×Obj)) (s:ak) (b:St) (H:Hp) (c:List V) (d:List af) (Q:St->Hp->Prop),Inv X f b H s->bE c d->t c b H Q ->
  ao X.zz X.A (assignInOrder ((tw h X.env).map (·.2)) d) (λ_ i=>∃a g,Inv X f a g i/\Q a g) X.xe s
abbrev Cg:=V->V->V->Hp->(Hp->Prop)->Prop
def IH(X:Cx)(t:Cg):Prop :=
 ∀(d:List (ab×Obj)) (s:ak) (a:St) (H:Hp) (o i v:V) (b c u:af) (Q:Hp->Prop),Inv X d a H s->RelV o b->RelV i c->RelV v u->t o i v H Q ->
  ao X.zz X.A (setItem b c u) (λ_ g=>∃f,Inv X d a f g/\Q f) X.xe s
section
variable{X:Cx}{d:Pos}
def Fq(i:Nat):TG:=λv a H Q=>Q (a.set i (aa v)) H
theorem nV(f:X.N.Nodup)(b:X.N[i]?=aa x)(a:Loc X.env.scope x)(c:a3 X x^3):PG X (.Name x d) (Fq i):=by intro m s j H v u Q I r h;exact wpAny_assign_Name (IB I f b a r (λl g=>⟨_,H,g,h⟩) c)
def aX:qK:=λb a H Q=>b=[]/\Q a H
noncomputable def QP(t:TG)(u:qK):qK:=λc b H Q=>∃v r,c=v::r/\t v b H λa f=>u r a f Q
theorem Co:xF X [] aX:=by
 intro f s a H b c Q I r h;obtain⟨e,h⟩:=h;subst e;cases r;exact assignInOrder_nil ⟨a,H,I,h⟩
theorem tq{u:qK}(n:PG X e t)(m:xF X a u)(l:((tw (e::a) X.env).map (·.2)=pj e X.env::(tw a X.env).map (·.2))^0):xF X (e::a) (QP t u):=by
 intro c s f H w y Q I r h;obtain⟨v,x,o,h⟩:=h;subst o;cases r with
 |cons r i=>rw[l];refine assignInOrder_cons (aP (n c s f H _ _ _ I r h) λ_ g ⟨b,q,p,j⟩=>?_);exact m c g b q _ _ Q p i j
noncomputable def Ta(K:aw)(n:Nat)(t:qK):TG:=λv c H Q=>∃a b,v=.ref a/\cq K H a b/\b.length=n/\t b c H Q
theorem Cr(A:X.calm=ag)(h:xF X c t)(y:((tw c X.env).length=n)^0) (p:((tw c X.env).findIdx? (·.1)=ac)^0):PG X (.Tuple c k d) (Ta X.K n t):=by
 intro i s g H v u Q I r f;obtain⟨a,j,C,x,z,f⟩:=f;subst C;cases r;obtain⟨m,l,w,E⟩:=I.tuple x;refine assign_Tuple_tuple (I.ok.hd A) w (by simp[y,<-z,l.length]) p λB q=>?_;have D:Inv X i g H {s with heap:=B}:=I.kept (t':=s.toks) λb o e=>q b o (cr (bu e)) e;exact h i _ g H j _ Q D (by trivial) f
noncomputable def Uq(b c:TE)(t:Cg):TG:=λv a H Q=>b a H λo h=>c a h λi g=>t o i v g λf=>Q a f
theorem LJ{j:TE}{t:Cg}(B:PE X o g)(C:PE X i j)(A:IH X t)(D:(∀v,pj (.Subscript o i d) X.env v=(do
   let a <-kl [v] (aS o X.env)
   let b <-kl [v,a] (aS i X.env)
   standAt d
   kl [v,a,b] (setItem a b v)
   release [v,a,b] []))^4):PG X (.Subscript o i d) (Uq g j t):=by
 intro f s c H v u Q I r h;rw[D];refine aj (d_ (aP (B f s c H _ I h) λa m ⟨x,M,G,p,z⟩=>?_));refine aj (d_ (aP (C f m c M _ G z) λb l ⟨y,L,F,n,w⟩=>?_));refine aj (wpAny_standAt (aj (d_ (aP (A f l c L x y v a b u _ F p n r w) λ_ N ⟨J,E,q⟩=>?_))));exact wpAny_release ⟨c,J,E,q⟩
def Gb(b:TE)(g:TG):TS:=λD a H=>b a H λx c=>g x a c D.nx
theorem Hj{g:TG}(p:PE X e c)(o:PG X a g)(n:(swapsWithSole [a] e d.line X.env=pure ai)^0)(m:(swappedStores [a] e X.env=pure ac)^0)(r:((tw [a] X.env).map (·.2)=[pj a X.env])^0):PS X (.Assign [a] e d) (Gb c g):=by intro f s b H D I h;refine wpAny_Assign_stores (aP (p f s b H _ I h) λv i ⟨x,w,u,j,l⟩=>?_) n m;rw[r];exact aP (o f i b w x v _ u j l) λ_ y q=>q
theorem CZ{b:TE}{a:Pos}(p:X.N.Nodup)(m:X.N[i]?=aa x)(j:Loc X.env.scope x)(o:PE X e b)(l:(iG e (aa (.Name x a)) d.line X.env=pure ai)^0)(n:a3 X x^3):PS X (.Assign [.Name x a] e d) (Gb b (Fq i)):=by intro q s c H D I h;refine wpAny_Assign_Name (aP (o q s c H _ I h) λv A ⟨y,w,u,f,g⟩=>?_) l;exact IB u p m j f (λz r=>⟨_,w,r,g⟩) n
def Ox(c:TT)(j:TS):TS:=λD a H=>∃W:Nat->St->Hp->Prop,(∃m,W m a H)/\∀m a H,W m a H ->
 c a H λb h=>if b=ag then ∃N:St->Hp->Prop,(∀f i,N f i->∃g,g<m/\W g f i)/\j {D with nx:=N,ct:=N,bk:=D.nx} a h else D.nx a h
theorem Uy{z:TS}(B:tz X.zz X.A X.env X.xe)(Y:PT X c y)(Z:k_ X i z):PS X (.While c i [] d) (Ox y z):=by
 intro w s L H D I h;obtain⟨W,⟨T,O⟩,l⟩:=h;refine wpAny_While (codeAny_whileLoop (λn S=>∃j J,Inv X w j J S/\W n j J) ?_ T ⟨L,H,I,O⟩);rintro n Q ⟨g,G,I1,M⟩;refine tD B (aP (Y w Q g G _ I1 (l n g G M)) λb P ⟨F,E,o⟩=>?_);cases b with
 |true=>
  obtain⟨N,C,o⟩:=o;rw[if_pos rfl];refine tD B (aP (Z w P g F _ E o) λf s3 A=>?_);cases f with
  |next=>obtain⟨a,m,x,q⟩:=A;obtain⟨r,u,p⟩:=C a m q;exact⟨r,u,a,m,x,p⟩
  |cont=>obtain⟨a,m,x,q⟩:=A;obtain⟨r,u,p⟩:=C a m q;exact⟨r,u,a,m,x,p⟩
  |brk=>trivial
  |ret v=>trivial
 |false=>rw[if_neg jl];exact Dz ⟨g,F,E,o⟩
end
structure It where
 go:Nat->Hp->Prop
 yld:Nat->Hp->V->Hp->Prop
 stop:Nat->Hp->Prop
def lR(X:Cx)(a:List (ab×Obj))(H:Hp)(b:ab):Prop :=
 H b=ac/\b≠X.env.locals/\b∉X.fs/\(b∈X.ex\/X.s₀.heap.objs.size<=b)/\(∀x c,X.env.cells.lookup x=aa c->c≠b)/\∀p∈X.pn++a,p.1≠b
theorem Inv.fpOk{H f:Hp}{s:ak}{b:ab}(I:Inv X d g H s)(a:s.heap.objs.size<=b)(i:f b=ac):lR X d f b:=by
 refine⟨i,ln (fe I.lt a),I.nofs a,.inr (dD I.sz a),λx c e z=>?_,λp h z=>?_⟩
 .obtain⟨v,q⟩:=I.cell x c e;exact absurd (fe q.lt (by rw[z];trivial)) (rf _)
 .exact absurd (fe (bu (I.pin p h).1) (by rw[z];trivial)) (rf _)
structure nB(P:aM)(w:aD)(K:aw)(tg:au)(J:It)(fp:List ab)(it:ab)(tn:Nat->ax->Prop):Prop where
 mem:it∈fp
 obj:∀i h,tn i h->∀b∈fp,∃o,h.get? b=aa o/\∀v,o.data≠.cell v
 keep:∀i h h',tn i h->(∀b∈fp,∀o,h.get? b=aa o->h'.get? b=aa o)->tn i h'
 item:∀(X:Cx),X.prog=P->X.w=w->X.K=K->X.calm=ag->∀(i:Nat) (ae:List (ab×Obj)) (s:ak) (σ:St) (H:Hp) (E:af->ak->Prop),Inv X ae σ H s->(∀b∈fp,lR X ae H b)->tn i s.heap->J.go i H ->
  ao (ar P w) X.A (mJ (.ref it)) (λr s1=>∃u,r=aa u /\ ao (ar P w) X.A (DB tg (.ref it) u) (λ_ s2=>∃x H',Inv X ae σ H' s2/\RelV x u/\J.yld i H x H'/\tn (i+1) s2.heap/\∀b∈fp,H' b=ac) E s1) E s
 done:∀(X:Cx),X.prog=P->X.w=w->X.K=K->X.calm=ag->∀(i:Nat) (ae:List (ab×Obj)) (s:ak) (σ:St) (H:Hp) (E:af->ak->Prop),Inv X ae σ H s->(∀b∈fp,lR X ae H b)->tn i s.heap->J.stop i H ->
  ao (ar P w) X.A (mJ (.ref it)) (λr s1=>r=ac/\Inv X ae σ H s1) E s
 self:∀(A:aZ) (i:Nat) (s:ak) (Q:af->ak->Prop) (E:af->ak->Prop),tn i s.heap->Q (.ref it) s->ao (ar P w) A (mK (.ref it)) Q E s
abbrev TI:=St->Hp->(It->Hp->Prop)->Prop
inductive uo(X:Cx)(ae:List (ab×Obj))(σ:St)(tg:au)(R:It->Hp->Prop)(itv:af)(s2:ak):Prop
 |mk (it:ab) (fp:List ab) (tn:Nat->ax->Prop) (J:It) (H':Hp) (z0:itv=.ref it) (z1:Inv X ae σ H' s2) (z2:nB X.prog X.w X.K tg J fp it tn) (z3:tn 0 s2.heap) (z4:(∀b∈fp,lR X ae H' b)) (z5:R J H')
def PI(X:Cx)(f a:au)(d:TI):Prop :=
 ∀(c:List (ab×Obj)) (s:ak) (b:St) (H:Hp) (R:It->Hp->Prop),Inv X c b H s->d b H R ->
  ao X.zz X.A (aS a X.env) (λv g=>ao X.zz X.A (mK v) (uo X c b f R) X.xe g) X.xe s
theorem qd{s:ak}(f:s.heap.get? d=aa o)(j:o.cls=.type n)(i:o.data=.fields b)(g:["enumerate","zip","dict_itemiterator","dict_reverseitemiterator","odict_iterator","itertools.zip_longest","itertools.pairwise"].contains n=ai) (a:Q () s):ao M A (DB c (.ref d) u) Q E s:=by
 unfold DB;cases c <;> first
  |exact aq a
  | (cases u <;> first
    |exact aq a
    | (refine aj (wpAny_load f ?_)
       rw[j,i];show ao M A (if(["enumerate","zip","dict_itemiterator","dict_reverseitemiterator","odict_iterator","itertools.zip_longest","itertools.pairwise"].contains n&&b[0]? == aa (df _))=ag then _ else _) Q E s;rw[if_neg (by intro h;rw[g,Bool.false_and]at h;cases h)];exact aq a))
def AD(K:aw)(a:ab):It :=⟨λi H=>∃b x,cg K H a b/\b[i]?=aa x,λi H x c=>c=H/\∀b,cg K H a b->b[i]?=aa x,λi H=>∃b,cg K H a b/\b.length<=i⟩
def Cd(K:aw)(a:ab):It :=⟨λi H=>∃b x,cq K H a b/\b[i]?=aa x,λi H x c=>c=H/\∀b,cq K H a b->b[i]?=aa x,λi H=>∃b,cq K H a b/\b.length<=i⟩
noncomputable def u9(a:Int)(n:Nat):It:=⟨λi _=>i<n,λi H x b=>b=H/\x=.int (a+i),λi _=>n<=i⟩
theorem Rc{K:aw}{S:au}(a g:ab):nB P w K S (AD K a) [g] g (λi h=>h.IsListIter g a i) where
 mem:=by simp
 obj:=λi h f b j=>by
  have e:b=g:= ~~~j
  subst e;obtain⟨o,e,c,d⟩:=f;simp_all
 keep:=λi h n f k=>f.at λo e=>k g (by simp) o e
 item:=by intro X z v A M i N s J H E I m f y;subst z v A;obtain⟨Q,x,l,L⟩:=y;obtain⟨r,q,p,Y⟩:=I.list l;obtain⟨u,hu,W⟩:=q.get L;obtain⟨G,F,f2,D,C,B⟩:=m g (by simp);refine wpAny_pyNext_list_item f p.isList (x:=u) (~~~hu) λn O T=>?_;have I1:Inv X N J H {s with heap:=n}:=I.turned (t':=s.toks) (λb o j e=>(T.2 b j).trans e) G F D C B;obtain⟨o,e,c,d⟩:=id O;exact⟨u,rfl,qd (s:={s with heap:=n}) e c d (by rfl) ⟨x,H,I1,W,⟨rfl,λys Z=>by rw[I.list_inj Z l];trivial⟩,O,λb j=>(m b j).1⟩⟩
 done:=by intro X z v A M i N s J H E I m f y;subst z v A;obtain⟨Q,l,L⟩:=y;obtain⟨r,q,p,Y⟩:=I.list l;obtain⟨G,F,f2,D,C,B⟩:=m g (by simp);have hl:=q.length;exact wpAny_pyNext_list_end (I.ok.hd M) f p.isList (by simp;simp_all) λn eb=>⟨rfl,I.turned (t':=s.toks) (λb o j e=>eb b o j e) G F D C B⟩
 self:=λ_ _ _ _ _ f h=>wpAny_pyIter_listiter f h
theorem Ud{K:aw}{S:au}(a j:ab):nB P w K S (Cd K a) [j] j (λi h=>h.IsTupleIter j a i) where
 mem:=by simp
 obj:=λi h f b l=>by
  have e:b=j:= ~~~l
  subst e;obtain⟨o,e,c,d⟩:=f;simp_all
 keep:=λi h q f k=>f.at λo e=>k j (by simp) o e
 item:=by intro X z v A M i N s J H E I n f y;subst z v A;obtain⟨Q,x,m,L⟩:=y;obtain⟨g,r,p,Y⟩:=I.tuple m;obtain⟨u,hu,W⟩:=r.get L;obtain⟨G,F,f2,D,C,B⟩:=n j (by simp);refine wpAny_pyNext_tuple_item f (show s.heap.IsTuple a g.toArray from p) (x:=u) (~~~hu) λq O T=>?_;have I1:Inv X N J H {s with heap:=q}:=I.turned (t':=s.toks) (λb o l e=>(T.2 b l).trans e) G F D C B;obtain⟨o,e,c,d⟩:=id O;exact⟨u,rfl,qd (s:={s with heap:=q}) e c d (by rfl) ⟨x,H,I1,W,⟨rfl,λys Z=>by rw[I.tuple_inj Z m];trivial⟩,O,λb l=>(n b l).1⟩⟩
 done:=by intro X z v A M i N s J H E I n f y;subst z v A;obtain⟨Q,m,L⟩:=y;obtain⟨g,r,p,Y⟩:=I.tuple m;obtain⟨G,F,f2,D,C,B⟩:=n j (by simp);have hl:=r.length;exact wpAny_pyNext_tuple_end (I.ok.hd M) f (show s.heap.IsTuple a g.toArray from p) (by simp;simp_all) λq eb=>⟨rfl,I.turned (t':=s.toks) (λb o l e=>eb b o l e) G F D C B⟩
 self:=λ_ _ _ _ _ f h=>wpAny_pyIter_tupleiter f h
theorem PZ{K:aw}{G:au}(c:ab)(f:Int)(n:Nat):nB P w K G (u9 f n) [c] c (λi h=>DC h c (f+(i:Nat)*1) ((n:Int)-(i:Nat)) 1) where
 mem:=by simp
 obj:=λi h a b d=>⋯
 keep:=λi h j a k=>k c (by simp) _ a
 item:=by intro X q l r p i D s B H E I g a m;subst q l r;obtain⟨A,z,M,y,x,u⟩:=g c (by simp);have W:=Walks.range (prog:=X.prog) (w:=X.w) (I.ok.hd p) c f 1 n;refine W.item i s _ _ m a λv j C L F J=>?_;obtain⟨t,rfl⟩:=L;have O:Inv X D B H {s with heap:=j,toks:=C}:=I.turned (λb o d e=>J b o (~~~d) e) A z y x u;refine⟨_,rfl,qd (s:={s with heap:=j,toks:=C}) (n:="range_iterator") F rfl rfl (by rfl) ⟨.int (f+i),H,O,⟨t,?_⟩,⟨rfl,rfl⟩,F,λb d=>(g b d).1⟩⟩;simp
 done:=by intro X q l r p i D s B H E I g a m;subst q l r;obtain⟨A,z,M,y,x,u⟩:=g c (by simp);exact wpAny_pyNext_range_end (I.ok.hd p) a (by have:n<=i:=m;lia) λj N=>⟨rfl,I.turned (t':=s.toks) (λb o d e=>N b o d e) A z y x u⟩
 self:=λ_ _ _ _ _ a h=>wpAny_pyIter_rangeiter a h
section
variable{X:Cx}{c:au}
theorem Fa{s:ak}{R:It->Hp->Prop}{E:af->ak->Prop}{a d:Int}{t u v:Tok}{g:Nat}(I:Inv X h f H s)(p:-(2^62)<=a)(n:a<2^62)(m:-(2^62)<=d)(l:d<2^62)(q:R (u9 a (d-a).toNat) H):ao X.zz X.A (mK (.ref s.heap.objs.size)) (uo X h f c R) E {s with heap:=s.heap.push {cls:=.type "range",data:=.fields #[.int a t,.int d u,.int 1 v]},toks:=g}:=by
 refine wpAny_pyIter_range (IsRange.new ..) (small_one p n m l) ?_;have i:Inv X h f H {s with heap:=s.heap.push {cls:=.type "range",data:=.fields #[.int a t,.int d u,.int 1 v]},toks:=g}:=I.kept λb o e=>bi _ e;refine⟨(s.heap.push {cls:=.type "range",data:=.fields #[.int a t,.int d u,.int 1 v]}).objs.size,[(s.heap.push {cls:=.type "range",data:=.fields #[.int a t,.int d u,.int 1 v]}).objs.size],_,_,H,rfl,i.kept (t':=g) λb o e=>bi _ e,PZ _ a (d-a).toNat,?_,λb j=>?_,q⟩
 .have w:a+((0:Nat):Int)*1=a:=by simp
  have r:(((d-a).toNat:Nat):Int)-((0:Nat):Int)=DD a d 1:=by rw[rangeSize_one];split <;> lia
  show DC _ _ (a+((0:Nat):Int)*1) ((((d-a).toNat:Nat):Int)-((0:Nat):Int)) 1;rw[w,r];exact bU _ rfl
 .have e:b=(s.heap.push {cls:=.type "range",data:=.fields #[.int a t,.int d u,.int 1 v]}).objs.size:= ~~~j
  subst e;exact i.fpOk (a_ _) (i.hok.fresh (a_ _))
def ML(d:TA):TI:=λa H R=>d a H λb f=>∃j:Int,b=[.int j]/\-(2^62)<=j/\j<2^62/\R (u9 0 j.toNat) f
def Qi(d:TA):TI:=λa H R=>d a H λb f=>∃i j:Int,b=[.int i,.int j]/\(-(2^62)<=i/\i<2^62/\-(2^62)<=j/\j<2^62)/\R (u9 i (j-i).toNat) f
theorem VH{b:Pos}(u:Gl X "range")(o:X.mg "range"=ac)(v:PA X [a] f)(n:(aV [a] X.env=[(ai,aS a X.env)])^0):PI X c (.Call (.Name "range" p) [a] [] b) (ML f):=by
 intro w s g H R I h;refine Call_ (o8 I u o boot_range (za (aP (v b w s g H _ I h) λz A ⟨y,B,x,l,d⟩=>?_) n rfl));obtain⟨j,e,d,m,q⟩:=d;subst e;cases l with
 |cons r i=>
  cases i;obtain⟨t,rfl⟩:=r;exact call_range_1 (Fa x (by simp) (by simp) d m (~~~q))
theorem O_{p d:Pos}(A:Gl X "range")(z:X.mg "range"=ac)(B:PA X [a,b] l)(y:(aV [a,b] X.env=[(ai,aS a X.env),(ai,aS b X.env)])^0)(m:(aV [b] X.env=[(ai,aS b X.env)])^0):PI X c (.Call (.Name "range" p) [a,b] [] d) (Qi l):=by
 intro C s n H R I h;refine Call_ (o8 I A z boot_range (za (aP (B d C s n H _ I h) λF J ⟨E,L,D,o,g⟩=>?_) (by rw[y,m]) (by rw[m];rfl)));obtain⟨i,j,e,⟨g,x,w,v⟩,q⟩:=g;subst e;cases o with
 |cons r f=>
  cases f with
  |cons u f=>
   cases f;obtain⟨t,rfl⟩:=r;obtain⟨G,rfl⟩:=u;exact call_range_2 (Fa D g x w v q)
def TV(j:TI)(g:TG)(l:TS):TS:=λD a H=>j a H λJ o=>∃W:Nat->Nat->St->Hp->Prop,(∃m,W 0 m a o)/\∀i m a H,W i m a H ->
 (J.stop i H/\D.nx a H)\/(J.go i H/\∃N:St->Hp->Prop,(∀b d,N b d->∃h,h<m/\W (i+1) h b d)/\∀x d,J.yld i H x d->g x a d λf n=>l {D with nx:=N,ct:=N,bk:=D.nx} f n)
noncomputable def vz(a:List ab)(h:ax):List (ab×Obj):=a.filterMap λb=>(h.get? b).map λo=>(b,o)
theorem yw{h:ax}(d:b∈a)(e:h.get? b=aa o):(b,o)∈vz a h:=Kl.mpr ⟨b,d,by rw[e];rfl⟩
theorem Qe(d:p∈vz a h):p.1∈a/\h.get? p.1=aa p.2:=by
 obtain⟨b,f,e⟩:=Kl.mp d;cases q:h.get? b with
 |none=>simp_all
 |some o=>grind
theorem Inv.pinned{s:ak}{a:List ab}(I:Inv X d f H s)(h:∀b∈a,lR X d H b)(j:∀b∈a,∃o,s.heap.get? b=aa o/\∀v,o.data≠.cell v):Inv X (d++vz a s.heap) f H s :=
 I.pins_of λp g=>(Dy.mp g).elim (λz=>I.pin p (lq _ z)) λz=>by
  obtain⟨i,e⟩:=Qe z;obtain⟨n,m,l,_⟩:=h p.1 i
  grind
theorem Inv.unpinned{H:Hp}{s:ak}(I:Inv X (b++d) a H s):Inv X b a H s:=I.pins_of λp f=>I.pin p (lq _ (y9 _ f))
theorem BF{g:TG}{tb:TS}{Z:Pos}(M:tz X.zz X.A X.env X.xe)(hc:X.calm=ag)(hi:PI X c q wi)(hg:PG X c g)(w:k_ X E tb)(hs:(∀x,km q X.env x=pure x)^4):PS X (.For c q E [] Z) (TV wi g tb):=by
 intro F s σ H D I h;refine wpAny_For (aP (hi F s σ H _ I h) λv s1 h1=>aP h1 λitv s2 h2=>?_) hs;obtain⟨it,P,tn,J,H2,e,I2,T,ca,f2,W,⟨m0,w0⟩,G⟩:=h2;subst e;have p:∀{B:Hp},(∀b∈P,B b=ac)->∀b∈P,lR X F B b:=λhn b w=>⟨hn b w,(f2 b w).2⟩
 refine codeAny_forLoop_any (λn s'=>∃i l B,Inv X F l B s'/\tn i s'.heap/\(∀b∈P,B b=ac)/\W i n l B) ?_ m0 ⟨0,σ,H2,I2,ca,λb w=>(f2 b w).1,w0⟩;rintro n s3 ⟨i,j,Q,I3,dz,O,w3⟩;rcases G i n j Q w3 with⟨stop,qn⟩|⟨go,N,hN,step⟩
 .refine tD M (aP (T.done X rfl rfl rfl hc i F s3 j Q X.xe I3 (p O) dz stop) λr s4 ⟨hr,I4⟩=>?_);subst hr;exact Dz ⟨j,Q,I4,qn⟩
 .refine tD M (aP (T.item X rfl rfl rfl hc i F s3 j Q X.xe I3 (p O) dz go) λr s4 ⟨u,hr,h4⟩=>?_);subst hr;refine tD M (aP h4 λ_ s5 ⟨x,H5,I5,r5,y5,i9,fr5⟩=>?_);have I5':=I5.pinned (p fr5) (T.obj _ _ i9);refine tD M (aP (hg _ s5 j H5 x u _ I5' r5 (step x H5 y5)) λ_ s6 ⟨S,H6,I6,q6⟩=>?_);refine tD M (aP (w _ s6 S H6 _ I6 q6) λf Y C=>?_);have y:∀{a:St}{A:Hp},Inv X (F++vz P s5.heap) a A Y->N a A->∃m,m<n/\∃i l B,Inv X F l B Y/\tn i Y.heap/\(∀b∈P,B b=ac)/\W i m l B:=λ{a A} z L=>by obtain⟨m',hm,w7⟩:=hN a A L;refine⟨m',hm,i+1,a,A,z.unpinned,T.keep _ _ _ i9 λb w o e=>(z.pin (b,o) (lq _ (lq _ (yw w e)))).1,λb w=>?_,w7⟩;obtain⟨o,e,d⟩:=T.obj _ _ i9 b w;exact(z.pin (b,o) (lq _ (lq _ (yw w e)))).2.1
  cases f with
  |next=>obtain⟨a,A,z,L⟩:=C;exact y z L
  |cont=>obtain⟨a,A,z,L⟩:=C;exact y z L
  |brk=>obtain⟨a,A,z,C⟩:=C;exact⟨a,A,z.unpinned,C⟩
  |ret v=>obtain⟨x7,a,A,z,r7,C⟩:=C;exact⟨x7,a,A,z.unpinned,r7,C⟩
end
abbrev R2:=V->V->Hp->VK->Prop
def cj(X:Cx)(f:af->af->Sem af)(r:R2):Prop :=
 ∀(b:List (ab×Obj)) (s:ak) (a:St) (H:Hp) (x y:V) (v u:af) (Q:VK),Inv X b a H s->RelV x v->RelV y u->r x y H Q ->
  ao X.zz X.A (f v u) (EP X b a Q) X.xe s
def yY(X:Cx)(f:af->Sem af)(r:V->Hp->VK->Prop):Prop :=
 ∀(b:List (ab×Obj)) (s:ak) (a:St) (H:Hp) (x:V) (v:af) (Q:VK),Inv X b a H s->RelV x v->r x H Q ->
  ao X.zz X.A (f v) (EP X b a Q) X.xe s
def c_(X:Cx)(f:af)(r:List V->Hp->VK->Prop):Prop :=
 ∀(d:List (ab×Obj)) (s:ak) (a:St) (H:Hp) (b:List V) (c:List af) (Q:VK),Inv X d a H s->bE b c->r b H Q ->
  ao X.zz X.A (call f c) (EP X d a Q) X.xe s
noncomputable def xA(r:R2)(c b:TE):TE:=λa H Q=>c a H λx f=>b a f λy d=>r x y d Q
def Tw(r:V->Hp->VK->Prop)(b:TE):TE:=λa H Q=>b a H λx c=>r x c Q
noncomputable def rI(C:Int->Int->Prop)(g:Int->Int->V):R2:=λx y H Q=>∃i j,x=.int i/\y=.int j/\C i j/\Q (g i j) H
noncomputable def mn(g:Int->Int->V):R2:=λx y H Q=>∃i j,x=.int i/\y=.int j/\Q (g i j) H
def rU(g:Int->V):V->Hp->VK->Prop:=λx H Q=>∃i,x=.int i/\Q (g i) H
section
variable{X:Cx}{a b c:au}{d m n:TE}{l:Pos}
theorem CM(F:PE X a d)(E:PE X b m){H:Hp}{R:V->V->Hp->Prop}(I:Inv X q g H s)(h:d g H λx r=>m g r λy i=>R x y i) {Q:af->ak->Prop}{f:af->af->Sem af}(D:∀v u p x y i,Inv X q g i p->RelV x v->RelV y u->R x y i->ao X.zz X.A (f v u) Q X.xe p):ao X.zz X.A (aS a X.env) (λv o=>ao X.zz X.A (aS b X.env) (λu j=>ao X.zz X.A (f v u) Q X.xe j) X.xe o) X.xe s:=by refine aP (F q s g H _ I h) λv w ⟨x,r,J,A,C⟩=>?_;refine aP (E q w g r _ J C) λu p ⟨y,i,G,z,B⟩=>?_;exact D v u p x y i G A z B
theorem zY(p:cj X (gR f) r)(z:PE X a d)(w:PE X b m):PE X (.BinOp a f b l) (xA r d m):=by intro A s g H Q I h;exact wpAny_BinOp (CM z w I h λv u i x y C B o j q=>p A i g C x y v u Q B o j q)
theorem T1(q:yY X (unaryOp g) r)(u:PE X a d):PE X (.UnaryOp g a l) (Tw r d):=by intro i s f H Q I h;exact UnaryOp_ (aP (u i s f H _ I h) λv j ⟨x,y,w,o,p⟩=>q i j f y x v Q w o p)
theorem Ce{g:Int->Int->Int}(o:∀(i j:Int) (t u:Tok) (s:ak) (Q:af->ak->Prop) (E:af->ak->Prop),C i j->Q (.int (g i j) s.toks) {s with toks:=s.toks+1}->ao X.zz X.A (f (.int i t) (.int j u)) Q E s):cj X f (rI C λi j=>.int (g i j)):=by intro B s A H x y v u Q I w r h;obtain⟨i,j,rfl,rfl,z,q⟩:=h;obtain⟨t,rfl⟩:=w;obtain⟨p,rfl⟩:=r;exact o i j t p s _ _ z ⟨.int (g i j),H,I.tok _,⟨_,rfl⟩,q⟩
theorem HJ{g:Int->Int->Int}(o:∀(i j:Int) (t u:Tok) (s:ak) (Q:af->ak->Prop) (E:af->ak->Prop),Q (.int (g i j) s.toks) {s with toks:=s.toks+1}->ao X.zz X.A (f (.int i t) (.int j u)) Q E s):cj X f (mn λi j=>.int (g i j)):=by intro A s z H x y v u Q I w r h;obtain⟨i,j,rfl,rfl,q⟩:=h;obtain⟨t,rfl⟩:=w;obtain⟨p,rfl⟩:=r;exact o i j t p s _ _ ⟨.int (g i j),H,I.tok _,⟨_,rfl⟩,q⟩
theorem Du{g:Int->Int->Bool}(o:∀(i j:Int) (t u:Tok) (s:ak) (Q:af->ak->Prop) (E:af->ak->Prop),Q (.bool (g i j)) s->ao X.zz X.A (f (.int i t) (.int j u)) Q E s):cj X f (mn λi j=>.bl (g i j)):=by intro A s z H x y v u Q I w r h;obtain⟨i,j,rfl,rfl,q⟩:=h;obtain⟨t,rfl⟩:=w;obtain⟨p,rfl⟩:=r;exact o i j t p s _ _ ⟨.bl (g i j),H,I,rfl,q⟩
def G2(i j:Int):Prop:=0<=j/\j<=1000000/\i.natAbs<2^64
def B_(i j:Int):Prop:=(-(2^64)<i/\i<2^64)\/(-(2^64)<j/\j<2^64)
theorem B_.ok(h:B_ i j):IntMulOk i j:=by
 rcases h with⟨h1,h2⟩|⟨h1,h2⟩
 .exact .of_left (intBits_le_64 h1 h2)
 .exact .of_right (intBits_le_64 h1 h2)
theorem Wz:cj X (gR .Add) (mn λi j=>.int (i+j)):=HJ λ_ _ _ _ _ _ _ q=>add_int q
theorem j8:cj X (gR .Sub) (mn λi j=>.int (i-j)):=HJ λ_ _ _ _ _ _ _ q=>sub_int q
theorem Wq:cj X (gR .Mult) (rI B_ λi j=>.int (i*j)):=Ce λ_ _ _ _ _ _ _ f q=>mul_int q f.ok
theorem qg:cj X (gR .Mod) (rI (λ_ j=>0<j) λi j=>.int (i % j)):=Ce λi j _ _ _ _ _ f q=>by have g:(0:Int)<j:=f;exact mod_int' ∅ (by rw[Int.fmod_eq_emod_of_nonneg i ∅];exact q)
theorem T3:cj X (gR .Pow) (rI G2 λi j=>.int (i^j.toNat)):=Ce λ_ _ _ _ _ _ _ f q=>pow_int_small f.1 f.2.1 f.2.2 q
theorem Mv{g:Int->Int}(j:∀(i:Int) (t:Tok) (s:ak) (Q:af->ak->Prop) (E:af->ak->Prop),Q (.int (g i) s.toks) {s with toks:=s.toks+1}->ao X.zz X.A (f (.int i t)) Q E s):yY X f (rU λi=>.int (g i)):=by intro r s p H x v Q I o h;obtain⟨i,rfl,q⟩:=h;obtain⟨t,rfl⟩:=o;exact j i t s _ _ ⟨.int (g i),H,I.tok _,⟨_,rfl⟩,q⟩
theorem kM:yY X (unaryOp .USub) (rU λi=>.int (-i)):=Mv λ_ _ _ _ _ q=>neg_int q
end
noncomputable def vh:V->V->Bool
 |.non,.non=>ag|.non,.int _=>ag|.int _,.non=>ag|.non,.bl _=>ag|.bl _,.non=>ag|.non,.str _=>ag|.str _,.non=>ag
 |.int _,.int _=>ag|.bl _,.bl _=>ag|.str _,.str _=>ag|.byt _,.byt _=>ag
 |.int _,.str _=>ag|.str _,.int _=>ag|.bl _,.str _=>ag|.str _,.bl _=>ag
 |_,_=>ai
def Ic:R2:=λx y H Q=>vh x y=ag/\Q (.bl (decide (x=y))) H
def Ha:R2:=λx y H Q=>vh x y=ag/\Q (.bl (!decide (x=y))) H
theorem HM:decide (V.int i=V.int j)=(i == j):=by lia
theorem Hh:decide (V.bl i=V.bl j)=(i == j):=by lia
theorem Gn:decide (V.str i=V.str j)=(i == j):=by lia
theorem J8:decide (V.byt i=V.byt j)=(i.toList == j.toList):=by rw[tE];simp
section
variable{X:Cx}{a b c:au}{l g o:TE}{m:Pos}
theorem dr(I:Inv X h d H s)(q:Q (.bl k) H)(e:k=f):EP X h d Q (.bool f) s:=by subst e;exact⟨.bl k,H,I,rfl,q⟩
theorem Ww:cj X (dE .Eq) Ic:=by
 intro w s r H x y v u Q I p d h;obtain⟨n,q⟩:=h;cases x with
 |non=>
  cases p;cases y with
  |non=>cases d;exact PySem.EqNone.eq_none_none (dr I q (by rfl))
  |bl j=>cases d;exact PySem.EqNone.eq_none_bool (dr I q (by rfl))
  |int j=>obtain⟨f,rfl⟩:=d;exact PySem.EqNone.eq_none_int (dr I q (by rfl))
  |str j=>obtain⟨f,rfl⟩:=d;exact PySem.EqNone.eq_none_str (dr I q (by rfl))
  |_=>exact absurd (show ai=ag from n) jl
 |bl i=>
  cases p;cases y with
  |non=>cases d;exact PySem.EqNone.eq_bool_none (dr I q (by rfl))
  |bl j=>cases d;exact eq_bool (dr I q Hh)
  |str j=>obtain⟨f,rfl⟩:=d;exact PySem.EqMixed.eq_bool_str (dr I q (by rfl))
  |_=>exact absurd (show ai=ag from n) jl
 |int i=>
  obtain⟨t,rfl⟩:=p;cases y with
  |non=>cases d;exact PySem.EqNone.eq_int_none (dr I q (by rfl))
  |int j=>obtain⟨f,rfl⟩:=d;exact eq_int (dr I q HM)
  |str j=>obtain⟨f,rfl⟩:=d;exact PySem.EqMixed.eq_int_str (dr I q (by rfl))
  |_=>exact absurd (show ai=ag from n) jl
 |str i=>
  obtain⟨t,rfl⟩:=p;cases y with
  |non=>cases d;exact PySem.EqNone.eq_str_none (dr I q (by rfl))
  |bl j=>cases d;exact PySem.EqMixed.eq_str_bool (dr I q (by rfl))
  |int j=>obtain⟨f,rfl⟩:=d;exact PySem.EqMixed.eq_str_int (dr I q (by rfl))
  |str j=>obtain⟨f,rfl⟩:=d;exact eq_str (dr I q Gn)
  |_=>exact absurd (show ai=ag from n) jl
 |byt i=>
  obtain⟨t,rfl⟩:=p;cases y with
  |byt j=>obtain⟨f,rfl⟩:=d;exact PySem.W.eq_bytes (dr I q J8)
  |_=>exact absurd (show ai=ag from n) jl
 |_=>cases y <;> exact absurd (show ai=ag from n) jl
theorem WG:cj X (dE .NotEq) Ha:=by
 intro w s r H x y v u Q I p d h;obtain⟨n,q⟩:=h;cases x with
 |non=>
  cases p;cases y with
  |non=>cases d;exact PySem.EqNone.ne_none_none (dr I q (by rfl))
  |bl j=>cases d;exact PySem.EqNone.ne_none_bool (dr I q (by rfl))
  |int j=>obtain⟨f,rfl⟩:=d;exact PySem.EqNone.ne_none_int (dr I q (by rfl))
  |str j=>obtain⟨f,rfl⟩:=d;exact PySem.EqNone.ne_none_str (dr I q (by rfl))
  |_=>exact absurd (show ai=ag from n) jl
 |bl i=>
  cases p;cases y with
  |non=>cases d;exact PySem.EqNone.ne_bool_none (dr I q (by rfl))
  |bl j=>cases d;exact ne_bool (dr I q (congrArg not Hh))
  |str j=>obtain⟨f,rfl⟩:=d;exact PySem.EqMixed.ne_bool_str (dr I q (by rfl))
  |_=>exact absurd (show ai=ag from n) jl
 |int i=>
  obtain⟨t,rfl⟩:=p;cases y with
  |non=>cases d;exact PySem.EqNone.ne_int_none (dr I q (by rfl))
  |int j=>obtain⟨f,rfl⟩:=d;exact ne_int (dr I q (congrArg not HM))
  |str j=>obtain⟨f,rfl⟩:=d;exact PySem.EqMixed.ne_int_str (dr I q (by rfl))
  |_=>exact absurd (show ai=ag from n) jl
 |str i=>
  obtain⟨t,rfl⟩:=p;cases y with
  |non=>cases d;exact PySem.EqNone.ne_str_none (dr I q (by rfl))
  |bl j=>cases d;exact PySem.EqMixed.ne_str_bool (dr I q (by rfl))
  |int j=>obtain⟨f,rfl⟩:=d;exact PySem.EqMixed.ne_str_int (dr I q (by rfl))
  |str j=>obtain⟨f,rfl⟩:=d;exact ne_str (dr I q (congrArg not Gn))
  |_=>exact absurd (show ai=ag from n) jl
 |byt i=>
  obtain⟨t,rfl⟩:=p;cases y with
  |byt j=>obtain⟨f,rfl⟩:=d;exact PySem.W.ne_bytes (dr I q (congrArg not J8))
  |_=>exact absurd (show ai=ag from n) jl
 |_=>cases y <;> exact absurd (show ai=ag from n) jl
theorem vB:cj X (dE .Lt) (mn λi j=>.bl (decide (i<j))):=Du λ_ _ _ _ _ _ _ q=>lt_int q
theorem lC:cj X (dE .LtE) (mn λi j=>.bl (decide (i<=j))):=Du λ_ _ _ _ _ _ _ q=>le_int q
theorem oU:cj X (dE .Gt) (mn λi j=>.bl (decide (j<i))):=Du λ_ _ _ _ _ _ _ q=>gt_int q
theorem Wt:cj X (dE .In) (λx y H Q=>∃i j,x=.str i/\y=.str j/\Q (.bl (!(Km j i 0 j.length 1).isEmpty)) H):=by intro r s n H x y v u Q I f d h;obtain⟨i,j,rfl,rfl,q⟩:=h;obtain⟨t,rfl⟩:=f;obtain⟨p,rfl⟩:=d;exact in_str (dr I q rfl)
theorem LV:cj X (dE .Is) (λx y H Q=>y=.non/\Q (.bl (decide (x=.non))) H):=by
 intro j s i H x y v u Q I d f h;obtain⟨rfl,q⟩:=h;cases f;refine is_none_gen (dr I q ?_);cases x <;> first
  | (cases d;rfl)
  | (obtain⟨t,rfl⟩:=d;rfl)
theorem cj.or(h:cj X f r)(w:cj X f n):cj X f (λx y H Q=>r x y H Q\/n x y H Q):=by
 intro p s d H x y v u Q I j i q;rcases q with q|q
 .exact h p s d H x y v u Q I j i q
 .exact w p s d H x y v u Q I j i q
theorem Tr(p:cj X (dE d) r)(A:PE X a l)(z:PE X b g)(w:nY d b=ai):PE X (.Compare a [d] [b] m) (xA r l g):=by intro B s f H Q I h;exact wpAny_Compare1 (CM A z I h λv u i x y D C n j q=>p B i f D x y v u Q C n j q) w
def Hm(t:TE):TT:=λd H Q=>t d H λx f=>∃k,x=.bl k/\Q k f
theorem Pf(D:cj X (dE f) r)(G:PE X a l)(F:PE X b g)(E:nY f b=ai):PT X (.Compare a [f] [b] m) (Hm (xA r l g)):=by
 intro i s d H Q I h;refine wpAny_isTrue_Compare1 (aP (G i s d H _ I h) λv n ⟨x,P,M,w,C⟩=>aP (F i n d P _ M C) λu j ⟨y,O,L,q,B⟩=>aP (D i j d O x y v u _ L w q B) λc S ⟨z,N,J,p,k,e,A⟩=>?_) E;subst e;cases p;exact nZ ⟨N,J,A⟩
noncomputable def AM(r i:R2)(l g o:TE):TE:=λd H Q=>l d H λx p=>g d p λy n=>r x y n λz f=>∃k,z=.bl k /\
 (if k=ag then o d f λh j=>i y h j Q else Q (.bl ai) f)
theorem RZ{q:R2}(T:cj X (dE n) r)(eM:cj X (dE f) q)(ha:PE X a l)(Z:PE X b g)(Y:PE X c o)(W:(lastMarks [n,f] [b,c]=ai)^7):PE X (.Compare a [n,f] [b,c] m) (AM r q l g o):=by
 intro j s i H Q I h;refine Compare_chain (aP (ha j s i H _ I h) λv J ⟨x,H1,I1,N,S⟩=>chain_link (aP (Z j J i H1 _ I1 S) λu G ⟨y,H2,I2,p,P⟩=>aP (T j G i H2 x y v u _ I2 N p P) λd F ⟨z,B,A,M,k,e,w⟩=>?_)) W;subst e;cases M;refine nZ ?_;cases k with
 |false=>exact ite_ff ⟨.bl ai,B,A,rfl,w⟩
 |true=>exact ite_tt (chain_last (aP (Y j F i B _ A w) λD E ⟨C,H4,I4,L,O⟩=>eM j E i H4 y C u D Q I4 p L O))
theorem SI{q:R2}(Z:cj X (dE n) r)(eM:cj X (dE f) q)(ha:PE X a l)(hb:PE X b g)(hc:PE X c o)(hm:(lastMarks [n,f] [b,c]=ai)^7):PT X (.Compare a [n,f] [b,c] m) (Hm (AM r q l g o)):=by
 intro j s i H Q I h;refine isTrue_chain (aP (ha j s i H _ I h) λv J ⟨x,H1,I1,O,W⟩=>test_link (aP (hb j J i H1 _ I1 W) λu G ⟨y,H2,I2,p,T⟩=>aP (Z j G i H2 x y v u _ I2 O p T) λd F ⟨z,B,A,N,k,e,w⟩=>?_)) hm;subst e;cases N;refine nZ ?_;cases k with
 |false=>
  obtain⟨k',e',Y⟩:=w;cases e';exact ite_ff ⟨B,A,Y⟩
 |true=>
  refine ite_tt (test_last (aP (hc j F i B _ A w) λD E ⟨C,H4,I4,M,S⟩=>aP (eM j E i H4 y C u D _ I4 p M S) λd' s5 ⟨z2,H5,I5,L,k2,e2,P⟩=>?_));subst e2;cases L;exact nZ ⟨H5,I5,P⟩
theorem sH:(bh:Nat)<2^63:=by trivial
theorem OJ:cj X (gR .Add) (λx y H Q=>∃i j,x=.str i/\y=.str j/\i.length+j.length<=bh/\Q (.str (i++j)) H):=by intro z s r H x y v u Q I n f h;obtain⟨i,j,rfl,rfl,p,q⟩:=h;obtain⟨t,rfl⟩:=n;obtain⟨d,rfl⟩:=f;exact add_str (λd w=>⟨.str (i++j),H,I.tok _,⟨_,rfl⟩,q⟩) p
theorem vals1(r:bE [x] d):∃u,d=[u]/\RelV x u:=by
 cases r with
 |cons h f=>cases f;exact⟨_,rfl,h⟩
theorem vals2(r:bE [x,y] f):∃u d,f=[u,d]/\RelV x u/\RelV y d:=by
 cases r with
 |cons n j=>
  cases j with
  |cons i h=>cases h;exact⟨_,_,rfl,n,i⟩
theorem HP(n:X.calm=ag):c_ X (.builtin "max") (λf H Q=>∃i j,f=[.int i,.int j]/\Q (.int (if j > i then j else i)) H):=by
 intro A s p H f w Q I r h;obtain⟨i,j,rfl,q⟩:=h;obtain⟨u,v,rfl,⟨t,rfl⟩,⟨y,rfl⟩⟩:=vals2 r;refine max_two_ints (I.ok.hd n) λz x k=>⟨_,H,I.kept k,?_,q⟩
 by_cases d:j > i
 .rw[if_pos d,if_pos d];exact⟨_,rfl⟩
 .rw[if_neg d,if_neg d];exact⟨_,rfl⟩
theorem MI(n:X.calm=ag):c_ X (.builtin "min") (λf H Q=>∃i j,f=[.int i,.int j]/\Q (.int (if j<i then j else i)) H):=by
 intro A s p H f w Q I r h;obtain⟨i,j,rfl,q⟩:=h;obtain⟨u,v,rfl,⟨t,rfl⟩,⟨y,rfl⟩⟩:=vals2 r;refine min_two_ints (I.ok.hd n) λz x k=>⟨_,H,I.kept k,?_,q⟩
 by_cases d:j<i
 .rw[if_pos d,if_pos d];exact⟨_,rfl⟩
 .rw[if_neg d,if_neg d];exact⟨_,rfl⟩
def Gj(K:aw)(x:V)(H:Hp)(n:Nat):Prop :=
 match x with
 |.str y=>y.length<=bh/\n=y.length
 |.byt y=>y.size<=bh/\n=y.size
 |.ref p=>(∃d,cg K H p d/\n=d.length)\/∃d,cq K H p d/\n=d.length
 |_=>False
theorem c5:c_ X (.builtin "len") (λd H Q=>∃x n,d=[x]/\Gj X.K x H n/\Q (.int n) H):=by
 intro G s C H d D Q I r h;obtain⟨x,n,rfl,e,q⟩:=h;obtain⟨u,rfl,i⟩:=vals1 r;have F:=sH;have E:bh=16777216:=rg;cases x with
 |str y=>obtain⟨t,rfl⟩:=i;obtain⟨B,f⟩:y.length<=bh/\n=y.length:=e;subst f;exact len_str ∅ ⟨.int _,H,I.tok _,⟨_,rfl⟩,q⟩
 |byt y=>obtain⟨t,rfl⟩:=i;obtain⟨B,f⟩:y.size<=bh/\n=y.size:=e;subst f;exact PySem.W.len_bytes ∅ ⟨.int _,H,I.tok _,⟨_,rfl⟩,q⟩
 |ref p=>
  cases i;have f:(∃d,cg X.K H p d/\n=d.length)\/∃d,cq X.K H p d/\n=d.length:=e;rcases f with⟨d,hx,f⟩|⟨d,hx,f⟩
  .subst f;obtain⟨w,j,v,A⟩:=I.list hx;have z:=j.length;exact Calls.call_len_list v.isList (by simp only[eJ];lia) ⟨.int d.length,H,I.tok _,⟨_,by simp only[eJ];rw[z]⟩,q⟩
  .subst f;obtain⟨w,j,v,A⟩:=I.tuple hx;have z:=j.length;exact len_tuple v (by simp only[eJ];lia) ⟨.int d.length,H,I.tok _,⟨_,by simp only[eJ];rw[z]⟩,q⟩
 |_=>exact(show False from e).elim
end
structure J3(h:ax)(x dx C:ab)(mA:Str->Option af):Prop where
 obj:h.get? x=aa (PySem.W.instObj C dx)
 ns:h.Ns1 dx mA
 ne:dx≠x
theorem Td{h:ax}(n:h.Ns1 f d):∃c,h.get? f=aa c/\∀b,PySem.W.lookIn b c=aa (d b):=by
 obtain⟨o,r,s,j,p,m,_,l⟩:=n;refine⟨o,j,λb=>?_⟩;have e:=l b;unfold nsFind findBy at e;rw[<-Array.find?_toList]at e;unfold PySem.W.lookIn;rw[p];dsimp only;split
 .simp_all
 .rename_i q;rw[q]at e;have a:r.toList.any (·.refKey)=ai:=by rw[List.any_eq_false];intro y i;obtain⟨z,t,g⟩:=m y (Array.mem_toList_iff.mp i);simp[DictEntry.refKey,g]
  grind
theorem J3.look(I:J3 h x d C c):∃b,PySem.W.InstAt h x (PySem.W.instObj C d) C (aa b)/\∀a,PySem.W.lookIn a b=aa (c a) :=
 let ⟨b,ho,hl⟩:=Td I.ns
 ⟨b,⟨I.obj,rfl,rfl,ho⟩,hl⟩
theorem nR.some_of(r:nR (aa v) o):∃u,o=aa u/\RelV v u:=by
 cases o with
 |none=>trivial
 |some u=>exact⟨u,rfl,r⟩
section
variable{P:aM}{w:aD}{H i:Hp}{h g:ax}{a C b:ab}{fs c:List (Str×V)}
theorem QL(l:cZ P w H h)(e:H a=aa (.ins C b fs)):∃j,J3 h a b C j/\(∀f,nR (fs.lookup f) (j f))/\PySem.Within j (fs.map (·.1))/\fs.length<=1000/\H b=aa (.own a):=by
 obtain⟨d,z,o,m,j,n,r,q⟩:=(show bN P w H h a (.ins C b fs)from l a _ e)
 exact⟨j,⟨m,n,o⟩,r,q,z,d⟩
end
structure H_(K:aw)(C:ab):Prop where
 pg:PySem.W.plainGet K C iU=ag
 hd:PySem.W.hasDictIn K C=ag
 po:PySem.W.plainOver K C=ag
 sa:PySem.W.findIn K (.ref C) "__setattr__"=aa (aa (.builtin "object.__setattr__"))
theorem H_.get{K:aw}(c:H_ K C)(f:Str):PySem.W.plainGet K C f=ag:=c.pg
section
variable{X:Cx}{f:List (ab×Obj)}{d:St}{H:Hp}{s:ak}{A:aZ}{E:af->ak->Prop}{Q:af->ak->Prop}{c:af}{b:Bool}
inductive jA(K:aw)(H:Hp):V->af->Prop where
 |non:jA K H .non (.type "NoneType")
 |bl (x:Bool):jA K H (.bl x) (.type "bool")
 |int (i:Int):jA K H (.int i) (.type "int")
 |str (x:Str):jA K H (.str x) (.type "str")
 |flt (x:UInt64):jA K H (.flt x) (.type "float")
 |lst {a:ab}{xs:List V} (e:H a=aa (.lst xs)):jA K H (.ref a) (.type "list")
 |frz {a:ab}{o:Obj}{xs:List V} (e:H a=aa (.frz o (.lst xs))):jA K H (.ref a) (.type "list")
 |tup {a:ab}{xs:List V} (e:H a=aa (.tup xs)):jA K H (.ref a) (.type "tuple")
 |dK {a:ab}{kvs:List (aF×V)} (e:H a=aa (.dK kvs)):jA K H (.ref a) (.type "dict")
 |dT {a:ab}{kvs:List (List aF×V)} (e:H a=aa (.dT kvs)):jA K H (.ref a) (.type "dict")
 |ins {a C dx:ab}{fs:List (Str×V)} (e:H a=aa (.ins C dx fs)) (cl:H_ K C) (ha:PySem.W.findIn K (.ref C) "__class__"=aa (aa (.builtin "object.__class__")))
   (hn:PySem.W.specialIn K (.builtin "object.__class__") "__get__"=aa (aa (.builtin "getset_descriptor.__get__"))) (oC:PySem.W.takesIn K (.builtin "object.__class__")=aa ag)
   (hm:PySem.W.mroIn K C (.type "object")=aa ag):jA K H (.ref a) (.ref C)
theorem Pk(I:Inv X f d H s)(g:RelV x u)(ty:jA X.K H x t)(e:zb X.K t c=aa b)(h:∀r,Q (.bool b) {s with toks:=r}):ao X.zz A (call (.builtin "isinstance") [u,c]) Q E s:=by
 cases ty with
 |non=>cases (show u=Value.none from g);exact mL PySem.W.kitx_none I.kIn True.intro e (λz=>nomatch z) h
 |bl y=>cases (show u=Value.bool y from g);exact mL PySem.W.kitx_bool I.kIn True.intro e (λz=>nomatch z) h
 |int i=>obtain⟨t,q⟩:=(show ∃t,u=Value.int i t from g);cases q;exact mL PySem.W.kitx_int I.kIn True.intro e (λz=>nomatch z) h
 |str y=>obtain⟨t,q⟩:=(show ∃t,u=Value.str y t from g);cases q;exact mL PySem.W.kitx_str I.kIn True.intro e (λz=>nomatch z) h
 |flt y=>obtain⟨t,q⟩:=(show ∃t,u=Value.float y t from g);cases q;exact mL PySem.W.kitx_float I.kIn True.intro e (λz=>nomatch z) h
 |@lst a l ea=>
  cases (show u=Value.ref a from g);obtain⟨_,_,n,_,j⟩:=(show bN X.prog X.w H s.heap a (.lst l)from I.hok a _ ea)
  exact mL PySem.W.kitx_list I.kIn ⟨_,j,rfl⟩ e (λz=>nomatch z) h
 |@frz a ob l ea=>
  cases (show u=Value.ref a from g);obtain⟨_,_,_,n,_,j⟩:=(show bN X.prog X.w H s.heap a (.frz ob (.lst l))from I.hok a _ ea)
  exact mL PySem.W.kitx_list I.kIn ⟨_,j,rfl⟩ e (λz=>nomatch z) h
 |@tup a l ea=>
  cases (show u=Value.ref a from g);obtain⟨_,_,_,p,_⟩:=(show bN X.prog X.w H s.heap a (.tup l)from I.hok a _ ea)
  obtain⟨o,j,m,_⟩:=p;exact mL PySem.W.kitx_tuple I.kIn ⟨o,j,m⟩ e (λz=>nomatch z) h
 |@dK a kvs ea=>
  cases (show u=Value.ref a from g);obtain⟨_,_,B,_,p⟩:=(show bN X.prog X.w H s.heap a (.dK kvs)from I.hok a _ ea)
  obtain⟨o,v,w,j,m,_⟩:=p;exact mL PySem.W.kitx_dict I.kIn ⟨o,j,m.1⟩ e (λz=>nomatch z) h
 |@dT a kvs ea=>
  cases (show u=Value.ref a from g);obtain⟨_,_,l,_,o,v,w,j,m,_⟩:=(show bN X.prog X.w H s.heap a (.dT kvs)from I.hok a _ ea)
  exact mL PySem.W.kitx_dict I.kIn ⟨o,j,m.1⟩ e (λz=>nomatch z) h
 |@ins a C dx fs ea cl ha hn oC hm=>
  cases (show u=Value.ref a from g);obtain⟨F,O,_⟩:=QL I.hok ea;obtain⟨D,J,_⟩:=O.look;exact mL (PySem.W.kitx_own (cl.get _) cl.hd ha hn oC hm) I.kIn J e (λz=>nomatch z) h
end
structure Room(k:Nat)(A:aZ):Prop where
 hd:A.handled=ac
 dp:A.depth+3*k+5<zc
 un:A.units+16*k+200<cLine
theorem Room.mono(r:Room k A)(h:j<=k):Room j A:=⟨r.hd,by have:=r.dp;lia,by have:=r.un;lia⟩
theorem Room.deeper(r:Room (k+1) A)(a:Env):Room k (A.deeper a) :=⟨r.hd,by have:=r.dp;show A.depth+1+3*k+5<_;lia,by have:=r.un;show A.units+3+16*k+200<_;lia⟩
theorem Room.depth(r:Room k A):A.depth<zc:=by have:=r.dp;lia
theorem Room.units(r:Room k A):A.units+64<cLine:=by have:=r.un;lia
def O5:TA:=λ_ H Q=>Q [] H
def OO(d:TE)(c:TA):TA:=λa H Q=>d a H λx g=>c a g λb f=>Q (x::b) f
section
variable{X:Cx}{e:au}{es:List au}{c:TE}{t:TA}{a:Pos}
theorem gM:PA X [] O5:=λ_ _ _ _ H Q I h=>DH ⟨[],H,I,.nil,h⟩
theorem fU(p:PE X e c)(o:PA X es t)(n:(aV (e::es) X.env=(ai,aS e X.env)::aV es X.env)^0):PA X (e::es) (OO c t):=by intro a d s b H Q I h;rw[n];show ao _ _ (spliced ((ai,aS e X.env)::c8 a (aV es X.env))) _ _ s;refine vW (aP (p d s b H _ I h) λu g ⟨x,w,r,j,m⟩=>?_);exact aP (o a d g b w _ r m) λy z ⟨f,v,q,i,l⟩=>⟨x::f,v,q,.cons j i,l⟩
def QV(t:TA):TE:=λf H Q=>t f H λb d=>b.length<=bh/\∀p,d p=ac->Q (.ref p) (upd d p (.tup b))
def MG(t:TA):TE:=λf H Q=>t f H λb d=>b.length<=bh/\∀p,d p=ac->Q (.ref p) (upd d p (.lst b))
theorem NR{x1}(h:PA X es t):PE X (.Tuple es x1 a) (QV t):=by intro o s i H Q I m;refine wpAny_Tuple_spliced (aP (h a o s i H _ I m) λl d ⟨j,g,f,r,z,q⟩=>⟨by rw[<-r.length];exact z,?_⟩);have n:g d.heap.objs.size=ac:=f.hok.fresh (a_ _);refine⟨.ref d.heap.objs.size,upd g d.heap.objs.size (.tup j),f.laid (t':=d.toks) (λb u e=>bi _ e) (a_ _) ?_,rfl,q _ n⟩;exact⟨z,l,r,⟨⟨_,bU _ rfl,rfl,_,rfl⟩,_,bU _ rfl,rfl⟩⟩
theorem UY(h:PA X es t):PE X (.List es a) (MG t):=by intro o s i H Q I m;refine wpAny_List_spliced (aP (h a o s i H _ I m) λl d ⟨j,g,f,r,z,q⟩=>⟨by rw[<-r.length];exact z,?_⟩);have n:g d.heap.objs.size=ac:=f.hok.fresh (a_ _);refine⟨.ref d.heap.objs.size,upd g d.heap.objs.size (.lst j),f.laid (t':=d.toks) (λb u e=>bi _ e) (a_ _) ?_,rfl,q _ n⟩;exact⟨z,l,0,r,bU _ rfl⟩
end
abbrev Sp:=List V->Hp->VK->XK->Prop
abbrev eX:=List Env->Hp->ak->XK->af->ak->Prop
structure xO(P:aM)(w:aD)(K:aw)(mg:Str->Option af)(base:ax)(A:aZ)(outer:List Env)(s:ak)(H:Hp):Prop where
 frames:A.frames=aa outer
 mod:Mod K mg base
 bs:∀b o,base.get? b=aa o->s.heap.get? b=aa o/\H b=ac
 bsz:base.objs.size<=s.heap.objs.size
 funs:s.heap.FunFrames base outer
 frf:∀b∈gc outer,H b=ac
 hok:cZ P w H s.heap
 bare:nW s.gens
 tab:xn K H
inductive CE(outer:List Env)(P:aM)(w:aD)(H:Hp)(s:ak)(Q:VK)(u:af)(s':ak):Prop
 |mk (v:V) (H':Hp) (z0:s'.os=s.os) (z1:nW s'.gens) (z2:Un (gc outer) [] H H' s.heap s'.heap) (z3:cZ P w H' s'.heap) (z4:RelV v u) (z5:Q v H')
noncomputable def CR(c:eX)(a:List Env)(P:aM)(w:aD)(H:Hp)(s:ak)(Q:VK)(E:XK)(r:Result)(b:ak):Prop :=
 match r with
 |.ok (.ret u)=>CE a P w H s Q u b
 |.ok _=>False
 |.error e=>c a H s E e b
structure jf(P:aM)(w:aD)(K:aw)(mg:Str->Option af)(base:ax)(CX:eX)(k:Nat)(f:ab)(fd:gT)(ps:List Str)(sp:Sp):Prop where
 len:∀vs H Q E,sp vs H Q E->vs.length=ps.length
 run:∀(A:aZ) (outer:List Env) (s:ak) (H:Hp) (args:Args) (us:List af) (vs:List V) (Q:VK) (E:XK),Room k A->xO P w K mg base A outer s H->BindsTo s fd args (ps.zip us)->bE vs us->sp vs H Q E ->
  pq (ar P w) A (.call (.ref f) args) (CR CX outer P w H s Q E) s
theorem jf.imp{K:aw}{l:Str->Option af}{a:ax}{n:eX}{k:Nat}{f:ab}{m:gT}{j:List Str}{i d:Sp}(F:jf P w K l a n k f m j i)(h:∀c H Q E,d c H Q E->i c H Q E):jf P w K l a n k f m j d :=⟨λc H Q E q=>F.len c H Q E (h _ _ _ _ q),λA b s H g o c Q E u v x p r=>F.run A b s H g o c Q E u v x p (h _ _ _ _ r)⟩
section
variable{X:Cx}{f:List (ab×Obj)}{a:St}{H:Hp}{s c:ak}
theorem Inv.env0(I:Inv X f a H s):xO X.prog X.w X.K X.mg X.base X.A X.stack s H :=⟨I.ok.frames,I.ok.mod,I.bs,dD I.ok.bsz I.sz,I.stack,I.stkFree,I.hok,I.bare,I.tab⟩
theorem Inv.after(I:Inv X f a H s)(h:CE X.stack X.prog X.w H s Q u c):EP X f a Q u c:=by obtain⟨v,o,m,i,un,l,r,q⟩:=h;obtain⟨n,g,d,t,j⟩:=c;obtain rfl:j=s.os:=m;exact⟨v,o,I.call (h':=n) (g':=g) (d':=d) (t':=t) (ch:=[]) un l i (λb z=>absurd z (by simp)),r,q⟩
end
noncomputable def Oi(d:Sp)(a:List V)(E:XK)(t:TA):TE:=λb H Q=>t b H λc f=>d (c++a) f Q E
noncomputable def Binds(K:aw)(d:gT)(b:List Str)(c:List af):Prop :=
 ∀(s:ak) (a:List af),K.In s.heap->(a++c).length=b.length->BindsTo s d ⟨a,[]⟩ (b.zip (a++c))
theorem Binds.all{K:aw}{b:List Str}(h:∀a:List af,a.length=b.length->fH d ⟨a,[]⟩=pure (b.zip a)):Binds K d b []:=λs a _ c=>by rw[jU]at c ⊢;exact .of_eq (h a c)
def nH(c:eX)(X:Cx)(E:XK):Prop:=∀(b:List (ab×Obj)) (a:St) (H:Hp) (s:ak) (e:af) (s':ak),Inv X b a H s->c X.stack H s E e s'->X.xe e s'
section
variable{X:Cx}{l:eX}{k:Nat}{f C:ab}{j:gT}{d:List Str}{i:Sp}{a:List V}{c:List af}{E:XK}{x m:Str}{p b n:Pos}{e o:au}{g:List au}{v:TE}{t:TA}
theorem Kh{s:ak}{Q:VK}{q:List af}{w:List V}(F:jf X.prog X.w X.K X.mg X.base l k f j d i)(J:Room k X.A)(N:Binds X.K j d c)(M:bE a c)(G:nH l X E)(I:Inv X z y H s) (r:bE w q) (h:i (w++a) H Q E):ao X.zz X.A (call (.ref f) q) (EP X z y Q) X.xe s:=by
 have A:bE (w++a) (q++c):=r.append M;have L:(q++c).length=d.length:=by rw[<-A.length];exact F.len _ _ _ _ h
 refine wpAny_call (zd (F.run X.A X.stack s H ⟨q,[]⟩ (q++c) (w++a) Q E J I.env0 (N s q I.kIn L) A h) λr D B=>?_);cases r with
 |error e=>exact G z y H s e D I B
 |ok O=>
  cases O with
  |ret u=>exact I.after B
  |next=>trivial
  |brk=>trivial
  |cont=>trivial
theorem Gw(F:jf X.prog X.w X.K X.mg X.base l k f j d i)(A:Room k X.A)(G:Gl X x)(B:X.mg x=aa (.ref f))(D:pr X.K (.ref f)=ag)(M:Binds X.K j d c)(L:bE a c)(z:nH l X E)(N:PA X (e::g) t) (y:av x^1) (J:(aV (e::g) X.env=(ai,aS e X.env)::aV g X.env)^0) (O:((c8 b (aV g X.env)).any (·.1)=ai)^0):PE X (.Call (.Name x p) (e::g) [] b) (Oi i a E t):=by intro P s w H Q I h;refine ze (J5 I G B ?_ y);refine PySem.W.callWith_K (h₀:=X.base) I.ok.mod.kin D (aP (N b P s w H _ I h) λT W ⟨S,Y,u,r,q⟩=>⟨u.kIn,?_⟩) J O;exact Kh F A M L z u r q
end
structure bq(N P:List Str)(sc:cV):Prop where
 kind:sc.kind=.function
 co:sc.isCoroutine=ai
 gen:sc.isGenerator=ai
 nd:N.Nodup
 pre:N.take P.length=P
 par:∀x∈P,sc.names.lookup x=aa .local\/sc.names.lookup x=aa .cell
 nofree:∀y∈sc.names,y.2≠.free
theorem Ig{a:Str->Option ik}:∀{binds:List (Str×af)}{m:Str->Option af},(∀v,(x,v)∉binds)->bindL a binds m x=m x
 |[],_,_=>rfl
 | (n,v)::r,m,h=>by
  unfold bindL;rw[Ig λw b=>h w (gr _ b)];split
  all_goals grind
theorem J_{a:Str->Option ik}:∀{binds:List (Str×af)}{m:Str->Option af},(∀v,(x,v)∉binds)->bindC a binds m x=m x
 |[],_,_=>rfl
 | (n,v)::r,m,h=>by
  unfold bindC;rw[J_ λw b=>h w (gr _ b)];split
  all_goals grind
theorem Gg{a:Str->Option ik}:∀{P:List Str}{b:List af}{i:Nat}{m:Str->Option af},P.Nodup->P[i]?=aa x->b[i]?=aa v->a x=aa .local -> bindL a (P.zip b) m x=aa v
 |[],_,_,_,_,h,_,_=>by trivial
 |_::_,[],_,_,_,_,h,_=>by trivial
 |p::P,w::b,0,m,nd,h1,h2,hk=>by simp at h1 h2;subst h1;subst h2;show bindL a ((p,w)::P.zip b) m p=_;unfold bindL;rw[Ig λv c=>(lr.mp nd).1 (zf c).1,if_pos hk];simp
 |p::P,w::b,i+1,m,nd,h1,h2,hk=>by show bindL a ((p,w)::P.zip b) m x=_;unfold bindL;exact Gg (i:=i) (lr.mp nd).2 (by trivial) (by trivial) hk
theorem J1{a:Str->Option ik}:∀{P:List Str}{b:List af}{i:Nat}{m:Str->Option af},P.Nodup->P[i]?=aa x->b[i]?=aa v->a x≠aa .local -> bindC a (P.zip b) m x=aa v
 |[],_,_,_,_,h,_,_=>by trivial
 |_::_,[],_,_,_,_,h,_=>by trivial
 |p::P,w::b,0,m,nd,h1,h2,hk=>by simp at h1 h2;subst h1;subst h2;show bindC a ((p,w)::P.zip b) m p=_;unfold bindC;rw[J_ λv c=>(lr.mp nd).1 (zf c).1,if_neg hk];simp
 |p::P,w::b,i+1,m,nd,h1,h2,hk=>by show bindC a ((p,w)::P.zip b) m x=_;unfold bindC;exact J1 (i:=i) (lr.mp nd).2 (by trivial) (by trivial) hk
noncomputable def start(N:List Str)(a:List V):St:=a.map aa++fJ (N.length-a.length) ac
noncomputable def ic(g:eX)(P:aM)(w:aD)(K:aw)(mg:Str->Option af)(base:ax)(N:List Str)(b:Str)(a:cV)(f:ab)(d:af)(A:aZ)(outer:List Env)(s:ak)(H:Hp)(E:XK):Cx where
 prog:=P
 w:=w
 K:=K
 mg:=mg
 base:=base
 A:=A.deeper (iV b a s.heap.objs.size f d)
 N:=N
 s₀:=s
 H₀:=H
 env:=iV b a s.heap.objs.size f d
 outer:=outer
 stack:=iV b a s.heap.objs.size f d::outer
 ex:=[]
 calm:=ag
 fn:=λ_=>ag
 pn:=[]
 xe:=λe s'=>ao (ar P w) (A.deeper (iV b a s.heap.objs.size f d)) (leaving (iV b a s.heap.objs.size f d) e) (λ_ c=>g outer H s E e c) (λh c=>g outer H s E h c) s'
theorem F7{a:cV}(h:a.names.lookup x=aa .cell):∃c,(gF n a.names []).lookup x=aa c:=by have q:=PySem.W.cellsFrom_some a.names n [] (.inl h);exact Option.isSome_iff_exists.mp q
theorem Qw{K:aw}{M:Str->Option af}{o:ax}{N C:List Str}{j:Str}{d:cV}{f:ab}{J:af}{A:aZ}{g:List Env}{s T:ak}{H:Hp}{E:XK}{L:List af}{B:List V}(S:bq N C d) (hd:A.handled=ac) (m:xO P w K M o A g s H) (hl:B.length=C.length) (r:bE B L)(x:InCallC s s.heap.objs.size (bindL (iV j d s.heap.objs.size f J).kindOf (C.zip L) λ_=>ac) (gF (s.heap.objs.size+1) d.names []) (bindC (iV j d s.heap.objs.size f J).kindOf (C.zip L) λ_=>ac) T):Inv (ic Y P w K M o N j d f J A g s H E) [] (start N B) H T:=by
 have cp:C.length<=N.length:=by have:=congrArg n4 S.pre;grind
 obtain⟨Q,tk,rfl,X⟩:=x.done;have D:∀b:ab,b∉(ic Y P w K M o N j d f J A g s H E).ex:=λb z=>absurd (show b∈([]:List ab)from z) (by simp);refine⟨⟨m.mod,S.kind,rfl,rfl,a_ _,λy z c Q l=>?_,λy F=>?_,λy c _ h=>?_,λ_=>hd,Around.frames_deeper m.frames,.inr ⟨rfl,rfl⟩,λb z=>absurd z (D b),m.bs,m.bsz,λb _ _=>D b,λb z=>absurd z (D b),m.funs,m.frf,m.tab⟩,rfl,m.bare,Un.kept X,⟨_,x.toInCall.ns,λi y v Q l h3=>?_⟩,λy c h=>⟨_,x.cell y c h⟩,m.hok.fresh (a_ _),λy c h=>?_,λp I=>absurd (show p∈([]:List (ab×Obj))from I) (by simp),m.hok.kept X,?_⟩
 .exact name_of_addr x.apart (lU Q) (lU l)
 .have F:d.names.lookup y=aa .cell\/d.names.lookup y=aa .free:=F;rcases F with F|F
  .exact F7 F
  .exact absurd rfl (S.nofree _ (lU F))
 .exact ig (x.above y c (lU h))
 .have O:i<B.length:=by
   unfold start at l;by_cases O:i<B.length
   .trivial
   .rw[vX (~~~O)]at l;rw[List.getElem?_replicate]at l;split at l <;> cases l
  have ha:B[i]?=aa v:=by
   unfold start at l;rw[jV (~~~O),cT]at l;cases e:B[i]? with
   |none=>rw[e]at l;trivial
   |some a=>rw[e]at l;cases l;rfl
  obtain⟨u,W,Z⟩:=r.get ha;have I:C[i]?=aa y:=by rw[<-S.pre,List.getElem?_take_of_lt ⋯];trivial
  have G:C.Nodup:=by rw[<-S.pre];exact S.nd.sublist (List.take_sublist _ _)
  refine⟨u,Z,?_⟩;rcases S.par y (mM I)with k|k
  .exact .inl ⟨k,Gg G I W k⟩
  .obtain⟨c,e⟩:=F7 (n:=s.heap.objs.size+1) k;refine .inr ⟨.inl k,c,e,?_⟩;have q:=x.cell y c e;rw[J1 G I W (by show d.names.lookup y≠_;rw[k];decide)]at q;exact q
 .exact m.hok.fresh (ig (x.above y c (lU h)))
 .unfold start;show _=N.length;simp_all
theorem L9{K:aw}{m d:Str}{g:tF}{i:List aR}{a:cV}{dV kV F pm z ct oc:af}{an od:Option ab}{X:Array (Option af)}{N G:List Str}{O:Sp} (lk:K.lookup f=aa ⟨oc,od,.func (iW m d g i a dV kV F pm an z ct),X⟩) (bj:zg K z d=ag) (S:bq N G a)(len:∀l H Q E,O l H Q E->l.length=G.length)(gK:∀(A:aZ) (c:List Env) (s:ak) (H:Hp) (l:List V) (Q:VK) (E:XK),Room k (A.deeper (iV d a s.heap.objs.size f z))->O l H Q E -> ∃t,k_ (ic M P w K L h N d a f z A c s H E) i t/\t {nx:=λ_ p=>Q .non p,rt:=Q} (start N l) H):jf P w K L h M (k+1) f (iW m d g i a dV kV F pm an z ct) G O:=by
 refine⟨len,λA c s H args us l Q E Z D hb r mX=>?_⟩;have hl:=len _ _ _ _ mX;have KX:K.In s.heap:=D.mod.kin.keeps λb o e=>(D.bs b o e).1;have Y:s.heap.NoLimit:=D.mod.nolimit.keeps λb o e=>(D.bs b o e).1;have Wf:∀y∈G.zip us,a.names.lookup y.1=aa .local\/(a.names.lookup y.1=aa .cell/\((gF (s.heap.objs.size+1) a.names []).lookup y.1).isSome=ag):=λ⟨n,v⟩ hy=>by
  rcases S.par n (zf hy).1 with q|q
  .exact .inl q
  .exact .inr ⟨q,PySem.W.cellsFrom_some _ _ _ (.inl q)⟩
 refine codeAny_call_function Z.depth (KX _ _ lk) rfl S.co S.gen rfl (PySem.W.codeRec_of KX bj) (hb _ _ _ _ ?_);refine wpAny_newFunctionEnv_cells S.kind Wf λenv he s1 x=>?_;subst he;refine⟨Y.keeps x.toInCall.keep,codeAny_func ?_⟩;obtain⟨t,ht,hq⟩:=gK A c s H l Q E (Z.deeper _) mX;have I:Inv (ic M P w K L h N d a f z A c s H E) [] (start N l) H s1:=Qw S Z.hd D hl r x;refine eU (ht [] s1 (start N l) H _ I hq) (λfl T B=>?_) λe T B=>B;have C:∀{j:St}{p:Hp}{v:V}{u:af},Inv (ic M P w K L h N d a f z A c s H E) [] j p T->RelV v u->Q v p->CE c P w H s Q u T :=λ{j p v u} J W q=>⟨v,p,J.os,J.bare,J.base,J.hok,W,q⟩
 cases fl with
 |ret u=>obtain⟨v,j,p,J,W,q⟩:=B;exact C J W q
 |next=>obtain⟨j,p,J,q⟩:=B;exact C (v:=V.non) (u:=Value.none) J rfl q
 |brk=>obtain⟨_,_,_,q⟩:=B;trivial
 |cont=>obtain⟨_,_,_,q⟩:=B;trivial
section
variable{X:Cx}{x:Str}{p a:Pos}{e:au}{b:List au}{t:TA}{c T:String}{r:List V->Hp->VK->Prop}
noncomputable def Je(r:List V->Hp->VK->Prop)(t:TA):TE:=λd H Q=>t d H λf g=>r f g Q
theorem jQ(y:c_ X (.builtin c) r)(v:Gl X x)(u:X.mg x=ac)(o:dX x=aa (.builtin c))(z:PA X (e::b) t)(q:(x≠"__name__")^1)(n:av x^1)(w:(aV (e::b) X.env=(ai,aS e X.env)::aV b X.env)^0) (A:((c8 a (aV b X.env)).any (·.1)=ai)^0):PE X (.Call (.Name x p) (e::b) [] a) (Je r t):=by intro f s d H Q I h;refine ze (o8 I v u o ?_ q n);exact V8 (aP (z a f s d H _ I h) λi j ⟨g,C,B,l,m⟩=>y f j d C g i Q B l m) w A
theorem lO(y:c_ X (.type T) r)(v:Gl X x)(u:X.mg x=ac)(o:dX x=aa (.type T))(z:PA X (e::b) t)(q:(x≠"__name__")^1)(n:av x^1)(w:(aV (e::b) X.env=(ai,aS e X.env)::aV b X.env)^0) (A:((c8 a (aV b X.env)).any (·.1)=ai)^0):PE X (.Call (.Name x p) (e::b) [] a) (Je r t):=by intro f s d H Q I h;refine ze (o8 I v u o ?_ q n);exact za (aP (z a f s d H _ I h) λi j ⟨g,C,B,l,m⟩=>y f j d C g i Q B l m) w A
end
end L2
namespace HT
section
open PySem.SeqAt
open PySem.AutoSeq1 (wpAny_loadPart')
open PySem.MeetsSeq PySem.MeetsSeq2 PySem.MeetsSeq3
end
section
variable{a:aM}{w:aD}{A:aZ}{E:af->ak->Prop}{s:ak}
theorem cat_tup{d c:List af}(z:IsTup s.heap t d.toArray)(C:IsTup s.heap b c.toArray)(r:d≠[])(F:c=[]->Q (.ref t) s) (D:c≠[]->Q (.ref s.heap.objs.size) {s with heap:=s.heap.push {cls:=.type "tuple",data:=.seq (d++c).toArray}})(B:d.length+c.length<=bh):ao (ar a w) A (gR .Add (.ref t) (.ref b)) Q E s:=by
 obtain⟨⟨cls,x,data,m⟩,i,v,n,u⟩:=id z;obtain⟨⟨y,g,l,f⟩,j,q,o,p⟩:=id C;simp only at v u q p;subst v u q p;have e:d.toArray++c.toArray=(d++c).toArray:=by simp
 by_cases h:c=[]
 .exact concat_meets ⟨_,i,rfl⟩ ⟨_,j,rfl⟩ Kn seq_tuple_add Ko Kq (Kr _ _)
   (tuple_addW1 t b d.toArray c.toArray n o x g m f (~~~r) (by simp[h])) ⟨i,j,F h⟩
 .refine concat_meets ⟨_,i,rfl⟩ ⟨_,j,rfl⟩ Kn seq_tuple_add Ko Kq (Kr _ _)
   (tuple_addW2 t b d.toArray c.toArray n o x g m f (~~~r) (~~~h) (by trivial)) ⟨i,j,?_⟩
  rw[e];exact D h
noncomputable def sIx(n d:Nat):Option Int->Nat
 |none=>d
 |some v=>if v<0 then(v+(n:Int)).toNat else min v.toNat n
theorem sIx_nat(n d k:Nat):sIx n d (aa (k:Int))=min k n:=by rfl
theorem sIx_le(n d:Nat)(b:d<=n)(o:Option Int):sIx n d o<=n:=by
 cases o with
 |none=>trivial
 |some v=>show(if v<0 then(v+(n:Int)).toNat else min v.toNat n)<=n;lia
theorem FK(v:Int)(n d:Nat):(if v<0 then max (v+(n:Int)) 0 else min v (n:Int))=((sIx n d (aa v):Nat):Int):=by
 show(if v<0 then max (v+(n:Int)) 0 else min v (n:Int))=(((if v<0 then(v+(n:Int)).toNat else min v.toNat n):Nat):Int)
 lia
theorem O0(b c:Option Int)(n:Nat):Kt b c 1 (n:Int)=(((sIx n 0 b:Nat):Int),((sIx n n c:Nat):Int)):=by
 have d:¬((1:Int)<0):=by simp
 unfold Kt;simp only[d,if_false];refine rh ?_ ?_
 .cases b with
  |none=>rfl
  |some v=>exact FK v n 0
 .cases c with
  |none=>rfl
  |some v=>exact FK v n n
theorem Sy(i j:Nat):DJ (i:Int) (j:Int) 1=j-i:=by unfold DJ;lia
theorem JJ(p:lW v o)(h:Q o s):ao (ar a w) A (Builtin.Slice.slicePartIndex v) Q E s:=by
 cases p with
 |none=>exact slicePart_none h
 |int i t=>exact slicePart_int h
theorem Jd{b c:Option Int}{n:Nat}{Q:Int×Int×Nat->ak->Prop}(o:s.heap.IsSliceOf j g f .none)(m:lW g b)(l:lW f c)(h:Q (((sIx n 0 b:Nat):Int),1,sIx n n c-sIx n 0 b) s):ao (ar a w) A (Builtin.Slice.sliceApplied (.ref j) (pure (n:Int))) Q E s:=by
 obtain⟨q,i,p,d⟩:=id o;unfold Builtin.Slice.sliceApplied Builtin.Slice.sliceFields;refine aj (aj (n5 i d (x:=g) rfl (aj (n5 i d (x:=f) rfl (aj (n5 i d (x:=.none) rfl (aq ?_)))))));refine aj (slicePart_none ?_);show ao _ _ (if((1:Int) == 0)=ag then _ else _) _ _ s;rw[if_neg (by simp)];refine aj (JJ m (aj (JJ l (aj (aq ?_)))));show ao _ _ (match Kt b c 1 (n:Int)with | (b,c)=>pure (b,(1:Int),DJ b c 1)) _ _ s;rw[O0 b c n];show ao _ _ (pure (((sIx n 0 b:Nat):Int),(1:Int),DJ ((sIx n 0 b:Nat):Int) ((sIx n n c:Nat):Int) 1)) _ _ s;rw[Sy];exact aq h
theorem Rx(b:Array af)(i k:Nat):((ce k).filterMap λ(m:Nat)=>b[((i:Int)+(m:Int)*1).toNat]?).toArray=((b.toList.drop i).take k).toArray:=by
 have e:(λ(m:Nat)=>b[((i:Int)+(m:Int)*1).toNat]?)=λm=>b[i+m]?:=by
  grind
 rw[e];have:=pick_run b i k;rw[DK]at this;have c:((λx=>b[x]?) ∘ λx=>i+x)=λm=>b[i+m]?:=rfl;rw[c]at this;rw[this]
theorem getItem_tuple_cut{c d:Option Int}{Q:af->ak->Prop}(g:IsTup s.heap t b)(q:s.heap.IsSliceOf i p o .none)(v:lW p c)(u:lW o d)(B:¬(sIx b.size 0 c=0/\sIx b.size b.size d=b.size))(h:Q (.ref s.heap.objs.size) {s with heap:=s.heap.push {cls:=.type "tuple",data:=.seq ((b.toList.drop (sIx b.size 0 c)).take (sIx b.size b.size d-sIx b.size 0 c)).toArray}})(y:b.size<=bh):ao (ar a w) A (n6 (.ref t) (.ref i)) Q E s:=by
 have f:sizeOk (.seq ((b.toList.drop (sIx b.size 0 c)).take (sIx b.size b.size d-sIx b.size 0 c)).toArray):=by show((b.toList.drop (sIx b.size 0 c)).take (sIx b.size b.size d-sIx b.size 0 c)).toArray.size<=bh;rw[eJ,Ku,Kv,iF];omega
 have C:sIx b.size b.size d<=b.size:=sIx_le _ _ (a_ _) d;obtain⟨x,r,l,z⟩:=id q;have n:s.TypeIs (.ref i) "slice":=⟨x,r,l⟩
 unfold n6
 try with_reducible refine d_ ?_
 first|refine aj (aq ?_)|skip
 refine aj (wpAny_sequenceKey g.typeIs (by rfl) ?_);refine aj (tG (name:=mN "__getitem__") g.typeIs DL (jm DL g.typeIs entry_tuple_getitem ?_ (args_tuple_getitem _ _)));show ao _ _ (DM (.ref t) >>= _) _ _ s;refine aj (tupleItemsOf_ g ?_);refine aj (tI n ?_);rw[if_pos (by rfl)];refine aj (Jd q v u ?_);have j:¬((((sIx b.size 0 c:Nat):Int) == 0&&(1:Int) == 1&&(sIx b.size b.size d-sIx b.size 0 c) == b.size)=ag):=⋯
 show ao _ _ (if(((sIx b.size 0 c:Nat):Int) == 0&&(1:Int) == 1&&(sIx b.size b.size d-sIx b.size 0 c) == b.size)=ag then _ else _) _ _ s;rw[if_neg j,Rx]
 first
  |exact aj (m:=DP _) (jW (aq ⟨_,rfl,aq h⟩) f)
  |exact aj (m:=DP _) (jW (aj (aq (aq ⟨_,rfl,aq h⟩))) f)
  |exact aj (aj (m:=DP _) (jW (aq (aq ⟨_,rfl,aq h⟩)) f))
  |exact aj (aj (m:=DP _) (jW (aq ⟨_,rfl,aq h⟩) f))
end
end HT
namespace L2
abbrev TO:=St->Hp->(Option Int->Hp->Prop)->Prop
def PO(X:Cx)(e:Option au)(t:TO):Prop :=
 ∀(b:List (ab×Obj)) (s:ak) (a:St) (H:Hp) (Q:Option Int->Hp->Prop),Inv X b a H s->t a H Q ->
  ao X.zz X.A (evalPart e X.env) (λu d=>∃o c,Inv X b a c d/\lW u o/\Q o c) X.xe s
def Ug:TO:=λ_ H Q=>Q ac H
def Ov(t:TE):TO:=λa H Q=>t a H λx b=>∃i,x=.int i/\Q (aa i) b
section
variable{X:Cx}{e:au}{f:TE}{c d:Option au}{g j:TO}{n m:Pos}
theorem PH:PO X ac Ug:=by intro b s a H Q I h;rw[evalPart_none];exact aq ⟨ac,H,I,.none,h⟩
theorem RC(h:PE X e f):PO X (aa e) (Ov f):=by intro p s a H Q I o;rw[evalPart_some];refine aP (h p s a H _ I o) λu w ⟨x,v,r,b,l⟩=>?_;obtain⟨i,rfl,q⟩:=l;obtain⟨t,rfl⟩:=b;exact⟨aa i,v,r,.int i t,q⟩
def lG(X:Cx)(r:V->Option Int->Option Int->Hp->VK->Prop):Prop :=
 ∀(l:List (ab×Obj)) (s:ak) (a:St) (H:Hp) (x:V) (v h b:af) (c d:Option Int) (i:ab) (Q:VK),Inv X l a H s->RelV x v->s.heap.IsSliceOf i h b .none->lW h c->lW b d->r x c d H Q ->
  ∃T o,typeLookup (.type T) "__getitem__"=pure (aa (.builtin o))/\s.TypeIs v T/\ao X.zz X.A (n6 v (.ref i)) (EP X l a Q) X.xe s
theorem lG.or(h:lG X r)(A:lG X p):lG X (λx c d H Q=>r x c d H Q\/p x c d H Q):=by
 intro z s a H x v i b c d l Q I o y w u q;rcases q with q|q
 .exact h z s a H x v i b c d l Q I o y w u q
 .exact A z s a H x v i b c d l Q I o y w u q
noncomputable def S_(r:V->Option Int->Option Int->Hp->VK->Prop)(f:TE)(g j:TO):TE:=λa H Q=>f a H λx i=>g a i λl h=>j a h λu b=>r x l u b Q
theorem HF(M:lG X r)(P:PE X e f)(N:PO X c g)(J:PO X d j):PE X (.Subscript e (.Slice c d ac m) n) (S_ r f g j):=by intro o s i H Q I h;refine Subscript_ (aP (P o s i H _ I h) λv A ⟨x,H1,I1,B,E⟩=>?_);refine wpAny_Slice (aP (N o A i H1 _ I1 E) λw z ⟨l,H2,Z,G,D⟩=>aP (J o z i H2 _ Z D) λp a ⟨u,y,Y,F,C⟩=>?_);rw[evalPart_none];refine aq ?_;have W:Inv X o i y {a with heap:=a.heap.push {cls:=.type "slice",data:=.fields #[w,p,.none]}}:=Y.kept (t':=a.toks) λb ob q=>bi _ q;obtain⟨T,id,S,L,O⟩:=M o {a with heap:=a.heap.push {cls:=.type "slice",data:=.fields #[w,p,.none]}} i y x v w p l u a.heap.objs.size Q W B (Heap.IsSliceOf.new ..) G F C;show ao X.zz X.A (subscriptTail e (.Slice c d ac m) v (.ref a.heap.objs.size)) (EP X o i Q) X.xe {a with heap:=a.heap.push {cls:=.type "slice",data:=.fields #[w,p,.none]}};exact tail_any (ops:=[.ref a.heap.objs.size,v]) L S O (by rfl)
def nv(a:List V)(c d:Option Int):List V:=(a.drop (HT.sIx a.length 0 c)).take (HT.sIx a.length a.length d-HT.sIx a.length 0 c)
theorem FI(a:List V)(c d:Option Int):(nv a c d).length<=a.length:=by unfold nv;rw[Ku,Kv];lia
def IR(K:aw):V->Option Int->Option Int->Hp->VK->Prop:=λx c d H Q=>∃a b,x=.ref a/\cq K H a b /\
 ¬(HT.sIx b.length 0 c=0/\HT.sIx b.length b.length d=b.length)/\∀p,H p=ac->Q (.ref p) (upd H p (.tup (nv b c d)))
theorem Pd:lG X (IR X.K):=by
 intro M s D H x v F E c d G Q I w C z y h;obtain⟨a,i,rfl,B,L,q⟩:=h;cases w;obtain⟨l,r,u,A⟩:=I.tuple B;have p:l.toArray.size=i.length:=by rw[eJ];exact r.length.symm
 refine⟨"tuple",_,PyProof.Rows.slot_tuple_getitem.lookup,u.typeIs,?_⟩;refine HT.getItem_tuple_cut u C z y (by rw[p];trivial) ?_ (by rw[p];trivial);rw[p];refine⟨.ref s.heap.objs.size,_,I.laid (t':=s.toks) (o:=.tup (nv i c d)) (λb J q=>bi _ q) (a_ _) ?_,rfl,q _ (I.hok.fresh (a_ _))⟩;exact⟨dD (FI i c d) A,_,(r.drop (HT.sIx i.length 0 c)).take (HT.sIx i.length i.length d-HT.sIx i.length 0 c),Kg.new _ _⟩
def GE(K:aw):R2:=λx y H Q=>∃a b i h,x=.ref a/\y=.ref b/\cq K H a i/\cq K H b h/\i≠[]/\i.length+h.length<=bh /\
 (h=[]->Q (.ref a) H)/\(h≠[]->∀p,H p=ac->Q (.ref p) (upd H p (.tup (i++h))))
theorem bE.nil_iff(r:bE a b):b=[]↔a=[]:=by
 cases r with
 |nil=>simp
 |cons _ _=>simp
theorem Wv:cj X (gR .Add) (GE X.K):=by
 intro S s N H x y v u Q I C B h;obtain⟨a,b,A,r,rfl,rfl,M,L,J,P,E,D⟩:=h;cases C;cases B;obtain⟨G,l,F,_⟩:=I.tuple M;obtain⟨p,i,m,_⟩:=I.tuple L;refine HT.cat_tup F m (λz=>J (l.nil_iff.mp z)) (λz=>⟨.ref a,H,I,rfl,E (i.nil_iff.mp z)⟩) (λz=>?_) (by rw[<-l.length,<-i.length];trivial);refine⟨.ref s.heap.objs.size,_,I.laid (t':=s.toks) (o:=.tup (A++r)) (λb O q=>bi _ q) (a_ _) ?_,rfl,D (λw=>z (i.nil_iff.mpr w)) _ (I.hok.fresh (a_ _))⟩;exact⟨by rw[lX];trivial,_,l.append i,Kg.new _ _⟩
end
noncomputable def kh(n:Nat)(i:Int):Option Nat:=if 0<=i then(if i<n then aa i.toNat else ac)else if -(n:Int)<=i then aa (i+n).toNat else ac
def fu{a:Type}(xs:List a)(i:Int):Option a:=(kh xs.length i).bind λj=>xs[j]?
theorem GD(h:kh n i=aa j):seqIndex? i n=aa j/\j<n/\-(n:Int)<=i/\i<n:=by
 unfold kh at h;by_cases b:0<=i
 .rw[if_pos b]at h;by_cases a:i<n
  .rw[if_pos a]at h;have e:i.toNat=j:=fG h;exact⟨by rw[seqIndex_of b a,e],∅,∅,a⟩
  .rw[if_neg a]at h;cases h
 .rw[if_neg b]at h;by_cases a:-(n:Int)<=i
  .rw[if_pos a]at h;have e:(i+n).toNat=j:=fG h;exact⟨by rw[seqIndex_neg ⋯ a,e],∅,a,∅⟩
  .rw[if_neg a]at h;cases h
theorem AB{v:b}(h:fu a i=aa v):∃j,seqIndex? i a.length=aa j/\a[j]?=aa v/\j<a.length/\-(a.length:Int)<=i/\i<a.length:=by
 unfold fu at h;cases e:kh a.length i with
 |none=>rw[e]at h;cases h
 |some j=>rw[e]at h;obtain⟨g,f,d,c⟩:=GD e;exact⟨j,g,h,f,d,c⟩
theorem Tn{j:Nat}{v:a}(h:xs[j]?=aa v):fu xs (j:Int)=aa v:=by
 have b:j<xs.length:=(cW.mp h).1;have e:kh xs.length (j:Int)=aa j:=by unfold kh;rw[if_pos (by simp),if_pos ⋯];rfl
 unfold fu;rw[e];exact h
def BS(b:au):Prop:=∀o i,DQ b ai o i=operate [o,i] (n6 o i)
def nj(X:Cx)(r:R2):Prop :=
 ∀(b a:au) (d:List (ab×Obj)) (s:ak) (c:St) (H:Hp) (x y:V) (v u:af) (Q:VK),Inv X d c H s->RelV x v->RelV y u->r x y H Q ->
  DQ a ai v u=operate [v,u] (n6 v u)->ao X.zz X.A (subscriptTail b a v u) (EP X d c Q) X.xe s
def pf(X:Cx)(f:String)(r:V->List V->Hp->VK->Prop):Prop :=
 ∀(d:List (ab×Obj)) (s:ak) (a:St) (H:Hp) (x:V) (b:List V) (v:af) (c:List af) (Q:VK),Inv X d a H s->RelV x v->bE b c->r x b H Q ->
  ao X.zz X.A (call (.builtin f) (v::c)) (EP X d a Q) X.xe s
section
variable{X:Cx}{a b:au}{G F:TE}{E:Pos}
theorem nj.or(h:nj X r)(n:nj X j):nj X (λx y H Q=>r x y H Q\/j x y H Q):=by
 intro c d m s f H x y v u Q I i g q l;rcases q with q|q
 .exact h c d m s f H x y v u Q I i g q l
 .exact n c d m s f H x y v u Q I i g q l
theorem P4(j:nj X r)(m:PE X a G)(l:PE X b F)(i:BS b):PE X (.Subscript a b E) (xA r G F):=by intro n s c H Q I h;exact Subscript_ (CM m l I h λv u d x y p o g f q=>j a b n d c p x y v u Q o g f q (i _ _))
noncomputable def Ir(K:aw):R2:=λx y H Q=>∃p c i v,x=.ref p/\y=.int i/\cg K H p c/\fu c i=aa v/\Q v H
noncomputable def E6(K:aw):R2:=λx y H Q=>∃p c i v,x=.ref p/\y=.int i/\cq K H p c/\fu c i=aa v/\Q v H
noncomputable def Fp:R2:=λx y H Q=>∃z i c,x=.str z/\y=.int i/\z.length<=bh/\fu z.cps.toList i=aa c/\Q (.str ⟨#[c]⟩) H
theorem Wx:nj X (Ir X.K):=by
 intro d f J s A H x y v u Q I N M h B;obtain⟨p,Z,i,z,rfl,rfl,O,S,q⟩:=h;cases N;obtain⟨t,rfl⟩:=M;obtain⟨m,r,l,hz⟩:=I.list O;obtain⟨j,o,Y,h3,W,T⟩:=AB S;obtain⟨w,D,g⟩:=r.get Y;have P:=r.length;have hn:=sH;have c:EP X J A Q w s:=⟨z,H,I,g,q⟩
 by_cases C:0<=i
 .have n:i.toNat=j:=by
   rw[seqIndex_of C T]at o;lia
  exact item_listR l.isList C ∅ (by rw[n];simpa using D) c B
 .have n:(i+(m.toArray.size:Int)).toNat=j:=by
   rw[seqIndex_neg ⋯ W]at o;rw[eJ,<-P];exact fG o
  exact subscriptTail_builtinR (x:=w) l.isList.typeIs slot_list_getitem.lookup
   (wpAny_getItem_list_neg (Q:=λr L=>r=w/\EP X J A Q r L) l.isList ⋯ (by rw[eJ] <;> simp_all) ∅ (by rw[n];simpa using D) ⟨rfl,c⟩) B
theorem WB:nj X (E6 X.K):=by
 intro c d n s l H x y v u Q I B A h D;obtain⟨p,P,i,z,rfl,rfl,J,M,q⟩:=h;cases B;obtain⟨t,rfl⟩:=A;obtain⟨C,r,m,S⟩:=I.tuple J;obtain⟨j,h1,N,Z,Y,W⟩:=AB M;obtain⟨w,O,f⟩:=r.get N;have L:=r.length;have T:=sH;have g:EP X n l Q w s:=⟨z,H,I,f,q⟩
 exact subscriptTail_builtinR (x:=w) m.typeIs slot_tuple_getitem.lookup
  (getItem_tuple (j:=j) (Q:=λr o=>r=w/\EP X n l Q r o) m ∅ ∅ (by rw[eJ,<-L];trivial) (~~~O) ⟨rfl,g⟩) D
theorem QH:nj X Fp:=by
 intro d f M s B H x y v u Q I m l h n;obtain⟨z,i,c,rfl,rfl,D,p,q⟩:=h;obtain⟨t,rfl⟩:=m;obtain⟨C,rfl⟩:=l;obtain⟨j,g,A,L,w,r⟩:=AB p;have o:z.cps.toList.length=z.length:=by rfl
 rw[o]at g w r;have J:=sH;exact tail_any (typeIs_str s z t) slot_str_getitem.lookup (getItem_str (c:=c) (by lia) (by rw[g];simpa using A) ⟨.str ⟨#[c]⟩,H,I.tok _,⟨_,rfl⟩,q⟩) n
def Jr(K:aw):R2:=λx y H Q=>Ir K x y H Q\/E6 K x y H Q\/Fp x y H Q
theorem bY:nj X (Jr X.K):=Wx.or (WB.or QH)
theorem N9(c:List af)(n j:Nat)(u:af):iH (·.setIfInBounds j u) {cls:=.type "list",data:=.seq c.toArray n}={cls:=.type "list",data:=.seq (c.set j u).toArray n}:=by simp[iH]
theorem Inv.lst{s:ak}{p:ab}{c:List V}(I:Inv X f d H s)(h:H p=aa (.lst c)):∃(its:List af) (n:Nat),bE c its/\s.heap.get? p=aa {cls:=.type "list",data:=.seq its.toArray n}/\c.length<=bh:=by obtain⟨z,its,n,r,e⟩:=I.hok p _ h;exact⟨its,n,r,e,z⟩
theorem Inv.lstUpd{d c:List af}(I:Inv X m j H s)(h:H p=aa (.lst o))(w:s.heap.get? p=aa {cls:=.type "list",data:=.seq d.toArray n}) (l:f {cls:=.type "list",data:=.seq d.toArray n}={cls:=.type "list",data:=.seq c.toArray i}) (r:bE g c) (v:g.length<=bh) (t:Nat):Inv X m j (upd H p (.lst g)) {s with heap:=s.heap.update p f,toks:=t}:=by
 have e:(s.heap.update p f).get? p=aa {cls:=.type "list",data:=.seq c.toArray i}:=by rw[n8 f w (by rw[l] <;> rfl),l]
 refine I.write (x:=p) (e:=p) (by rw[h];trivial) (.inl rfl) (λb u y q=>(rj _ _ (fF y)).trans q) ⟨_,e⟩ ?_;exact⟨v,c,i,r,e⟩
def Na:V->V->V->Hp->(Hp->Prop)->Prop:=λo i v H Q=>∃p c k j,o=.ref p/\i=.int k/\H p=aa (.lst c)/\kh c.length k=aa j/\Q (upd H p (.lst (c.set j v)))
theorem Vm:IH X Na:=by
 intro M s y H o i v N O u Q I B C A h;obtain⟨p,z,k,j,rfl,rfl,g,D,q⟩:=h;cases B;obtain⟨t,rfl⟩:=C;obtain⟨c,n,r,d,P⟩:=I.lst g;obtain⟨m,T,L,J⟩:=GD D;have l:=r.length;have S:=sH;have x:Inv X M y (upd H p (.lst (z.set j v))) {s with heap:=s.heap.update p (iH (·.setIfInBounds j u))} :=I.lstUpd g d (N9 c n j u) (r.set A j) (by rw[kn];trivial) s.toks;by_cases w:0<=k
 .have f:k.toNat=j:=by
   rw[seqIndex_of w J]at m;lia
  exact PySem.W.ki_setAt d w ∅ (by rw[eJ,<-l];trivial) (by rw[f];exact⟨_,x,q⟩)
 .have f:(k+(c.toArray.size:Int)).toNat=j:=by
   rw[seqIndex_neg ⋯ L]at m;simp_all
  exact PySem.W.ki_setBack d ⋯ (by rw[eJ,<-l];trivial) ∅ (by rw[f];exact⟨_,x,q⟩)
theorem RP(c d:Option Int)(n:Nat):(zh c d ac n).1=((HT.sIx n 0 c:Nat):Int)/\(zh c d ac n).2.1=((HT.sIx n n d:Nat):Int)/\(zh c d ac n).2.2=1:=by
 refine⟨?_,?_,rfl⟩
 .cases c with
  |none=>rfl
  |some i=>
   simp only[zh,HT.sIx,Kw,show(1:Int) > 0 by decide,if_true];by_cases h:i<0
   .simp only[h,if_true] <;> lia
   .simp only[h,if_false] <;> lia
 .cases d with
  |none=>rfl
  |some i=>
   simp only[zh,HT.sIx,Kw,show(1:Int) > 0 by decide,if_true];by_cases h:i<0
   .simp only[h,if_true] <;> lia
   .simp only[h,if_false] <;> lia
theorem Nc(c:List af)(d f:Option Int):slicePick c.toArray d f ac=((c.drop (HT.sIx c.length 0 d)).take (HT.sIx c.length c.length f-HT.sIx c.length 0 d)).toArray:=by obtain⟨i,h,g⟩:=RP d f c.toArray.size;unfold slicePick;rw[i,h,g];simp only[sliceRange_one,pick_run,eJ] <;> rfl
def He(K:aw):V->Option Int->Option Int->Hp->VK->Prop:=λx d f H Q=>∃a c,x=.ref a/\cg K H a c/\∀p,H p=ac->Q (.ref p) (upd H p (.lst (nv c d f)))
theorem Nj:lG X (He X.K):=by
 intro D s y H x v A z d f B Q I i u l j h;obtain⟨a,c,rfl,p,q⟩:=h;cases i;obtain⟨m,r,g,n⟩:=I.list p;have w:=r.length;refine⟨"list",_,slot_list_getitem.lookup,g.isList.typeIs,?_⟩;refine wpAny_getItem_list_slice g.isList u l j .none (by simp) ?_ ⋯;rw[Nc,<-w];refine⟨.ref s.heap.objs.size,_,I.laid (t':=s.toks) (o:=.lst (nv c d f)) (λb C q=>bi _ q) (a_ _) ?_,rfl,q _ (I.hok.fresh (a_ _))⟩;exact⟨dD (FI c d f) n,_,0,(r.drop (HT.sIx c.length 0 d)).take (HT.sIx c.length c.length f-HT.sIx c.length 0 d),bU _ rfl⟩
noncomputable def jw:V->Bool
 |.non=>ag
 |.bl _=>ag
 |.int _=>ag
 |.str _=>ag
 |_=>ai
noncomputable def gf:V->V->Bool
 |.non,.non=>ag
 |.bl a,.bl b=>a == b
 |.bl a,.int b=>(if a then 1 else 0) == b
 |.int a,.bl b=>a == (if b then 1 else 0)
 |.int a,.int b=>a == b
 |.str a,.str b=>a == b
 |_,_=>ai
theorem Hf(f:RelV y u)(c:RelV x v)(g:jw y=ag)(h:jw x=ag):vY A s u v (gf y x):=by
 cases y with
 |non=>
  cases f;cases x with
  |non=>cases c;exact DU _
  |bl b=>cases c;exact SeqAt.EqAt.none_bool b
  |int b=>obtain⟨t,rfl⟩:=c;exact SeqAt.EqAt.none_int b t
  |str b=>obtain⟨t,rfl⟩:=c;exact SeqAt.EqAt.none_str b t
  |_=>trivial
 |bl a=>
  cases f;cases x with
  |non=>cases c;exact SeqAt.EqAt.bool_none a
  |bl b=>cases c;exact SeqAt.EqAt.bool_bool a b
  |int b=>obtain⟨t,rfl⟩:=c;exact SeqAt.EqAt.bool_int a b t
  |str b=>obtain⟨t,rfl⟩:=c;exact SeqAt.EqAt.bool_str a b t
  |_=>trivial
 |int a=>
  obtain⟨d,rfl⟩:=f;cases x with
  |non=>cases c;exact SeqAt.EqAt.int_none a d
  |bl b=>cases c;exact SeqAt.EqAt.int_bool a d b
  |int b=>obtain⟨t,rfl⟩:=c;exact Kx a d b t
  |str b=>obtain⟨t,rfl⟩:=c;exact SeqAt.EqAt.int_str a d b t
  |_=>trivial
 |str a=>
  obtain⟨d,rfl⟩:=f;cases x with
  |non=>cases c;exact SeqAt.EqAt.str_none a d
  |bl b=>cases c;exact SeqAt.EqAt.str_bool a d b
  |int b=>obtain⟨t,rfl⟩:=c;exact SeqAt.EqAt.str_int a d b t
  |str b=>obtain⟨t,rfl⟩:=c;exact DV a d b t
  |_=>trivial
 |_=>trivial
def lM(x:V)(u:af):Bool:=match u with
 |.none=>gf .non x
 |.bool b=>gf (.bl b) x
 |.int i _=>gf (.int i) x
 |.str z _=>gf (.str z) x
 |_=>ai
theorem AX(r:RelV y u)(f:jw y=ag):lM x u=gf y x:=by
 cases y with
 |non=>cases r;rfl
 |bl b=>cases r;rfl
 |int i=>obtain⟨t,rfl⟩:=r;rfl
 |str z=>obtain⟨t,rfl⟩:=r;rfl
 |_=>trivial
theorem Hz{x:V}{c:List V}{d:List af}(r:bE c d)(f:c.all jw=ag):d.any (lM x)=c.any λy=>gf y x:=by
 unfold bE at r
 induction r with
 |nil=>rfl
 |cons r _ g=>rw[rq,iX]at f;rw[n9,n9,AX r f.1,g f.2]
theorem Ax{A:aZ}{s:ak}{x:V}{v:af}(j:RelV x v)(l:jw x=ag){d:List V}{h:List af}(r:bE d h)(f:d.all jw=ag):∀u∈h,vY A s u v (lM x u):=by
 unfold bE at r
 induction r with
 |nil=>exact λu c=>by cases c
 |cons r _ g=>
  intro i c;rw[rq,iX]at f;rcases b8.mp c with rfl|c
  .rw[AX r f.1];exact Hf r j f.1 l
  .exact g f.2 i c
def uW(x:V)(c:List V):Bool:=c.any λy=>gf y x
def Bz(K:aw)(d:Bool):R2:=λx y H Q=>∃p c,y=.ref p/\(cg K H p c\/cq K H p c)/\jw x=ag/\c.all jw=ag/\Q (.bl (if d then !uW x c else uW x c)) H
theorem Uj:cj X (dE .In) (Bz X.K ai):=by
 intro z s n H x y v u Q I i l h;obtain⟨p,o,rfl,d,j,fs,q⟩:=h;cases l;rcases d with d|d
 .obtain⟨c,r,f,m⟩:=I.list d;refine SeqAt.in_listAt (lM x) f.isList (λw g=>Ax i j r fs w (~~~g)) ⟨.bl _,H,I,rfl,?_⟩;rw[show c.toArray.any (lM x)=c.any (lM x) by simp,Hz r fs];exact q
 .obtain⟨c,r,f,m⟩:=I.tuple d;refine SeqAt.in_tupleAt (lM x) f (λw g=>Ax i j r fs w (~~~g)) ⟨.bl _,H,I,rfl,?_⟩;rw[show c.toArray.any (lM x)=c.any (lM x) by simp,Hz r fs];exact q
theorem vR:c_ X (.type "list") (λB H Q=>∃p f,B=[.ref p]/\(cg X.K H p f\/cq X.K H p f)/\∀l,H l=ac->Q (.ref l) (upd H l (.lst f))):=by
 intro M s D H B N Q I r h;obtain⟨p,f,rfl,v,q⟩:=h;obtain⟨u,rfl,J⟩:=vals1 r;cases J;have w:∀(c:List af),bE f c->f.length<=bh->∀(d:ax) (i:Nat),(∀b C,s.heap.get? b=aa C->d.get? b=aa C) ->
   d.get? s.heap.objs.size=aa {cls:=.type "list",dict:=ac,data:=.seq c.toArray i,slots:=#[]}->EP X M D Q (.ref s.heap.objs.size) {s with heap:=d}:=λc g m d i j e=>
  ⟨.ref s.heap.objs.size,_,I.laid (t':=s.toks) j (a_ _) (show bN X.prog X.w _ d _ (.lst f)from⟨m,c,i,g,e⟩),rfl,q _ (I.hok.fresh (a_ _))⟩
 rcases v with v|v
 .obtain⟨c,g,x,m⟩:=I.list v;have L:=g.length;obtain⟨o,y,A,n,z⟩:=x.isList;exact call_list_seq p (.inl rfl) y A z (λd i j e=>w c g m d i j e) (by simp only[eJ] <;> simp_all)
 .obtain⟨c,g,x,m⟩:=I.tuple v;have L:=g.length;obtain⟨o,y,A,n,z⟩:=x;exact call_list_seq p (.inr rfl) y A z (λd i j e=>w c g m d i j e) (by simp only[eJ] <;> simp_all)
theorem yF:c_ X (.type "tuple") (λm H Q=>∃p d,m=[.ref p]/\((cg X.K H p d/\∀l,H l=ac->Q (.ref l) (upd H l (.tup d)))\/(cq X.K H p d/\Q (.ref p) H))):=by
 intro v s j H m A Q I r h;obtain⟨p,d,rfl,h⟩:=h;obtain⟨u,rfl,x⟩:=vals1 r;cases x;rcases h with⟨hq,q⟩|⟨hq,q⟩
 .obtain⟨c,g,i,n⟩:=I.list hq;have B:=g.length;refine call_tuple_list i.isList (λf y=>?_) (by simp only[eJ] <;> simp_all);have w:Inv X v j H {s with heap:=f}:=I.kept (t':=s.toks) y;have z:Inv X v j (upd H f.objs.size (.tup d)) {s with heap:=f.push {cls:=.type "tuple",data:=.seq c.toArray}} :=w.laid (t':=s.toks) (λb o e=>bi _ e) (a_ _) (show bN X.prog X.w _ _ _ (.tup d)from⟨n,c,g,Kg.new _ _⟩);exact⟨.ref f.objs.size,_,z,rfl,q _ (w.hok.fresh (a_ _))⟩
 .obtain⟨c,g,i,n⟩:=I.tuple hq;exact call_tuple_same i ⟨.ref p,H,I,rfl,q⟩
def Da(K:aw)(T:String)(x:V)(H:Hp):Prop:=match x with
 |.str _=>T = "str"
 |.int _=>T = "int"
 |.ref p=>(T = "list"/\∃d,cg K H p d)\/(T = "tuple"/\∃o,K.lookup p=aa o/\o.cls=.type "tuple"/\o.dict=ac) \/
   (T = "dict"/\((∃c,H p=aa (.dK c))\/∃c,H p=aa (.dT c)))\/(T = "set"/\∃S n,H p=aa (.set S n))
 |_=>False
theorem GH{s:ak}{T:String}{x:V}{v:af}(I:Inv X q l H s)(r:RelV x v)(ty:Da X.K T x H):s.TypeIs v T/\∀a,v=.ref a->∃j,s.heap.get? a=aa j/\j.dict=ac:=by
 cases x with
 |str z=>
  obtain⟨t,rfl⟩:=r;cases (show T = "str" from ty);exact⟨typeIs_str s z t,λ_ e=>nomatch e⟩
 |int i=>
  obtain⟨t,rfl⟩:=r;cases (show T = "int" from ty);exact⟨typeIs_int s i t,λ_ e=>nomatch e⟩
 |ref p=>
  cases r;rcases ty with⟨rfl,xs,hq⟩|⟨rfl,o,hk,hc,f⟩|⟨rfl,hk⟩|⟨rfl,S,n,hk⟩
  .obtain⟨m,_,h,_⟩:=I.list hq;refine⟨h.isList.typeIs,λa e=>?_⟩;cases e;obtain⟨o,n,e,c,f,_⟩:=h;exact⟨o,e,f⟩
  .refine⟨⟨o,I.kIn p o hk,hc⟩,λa e=>?_⟩;cases e;exact⟨o,I.kIn _ o hk,f⟩
  .have z:∃o,s.heap.get? p=aa o/\o.ExactDict:=by
    rcases hk with⟨kvs,hk⟩|⟨kvs,hk⟩
    .obtain⟨_,_,_,_,o,_,_,e,d,_⟩:=I.hok p _ hk;exact⟨o,e,d⟩
    .obtain⟨_,_,_,_,o,_,_,e,d,_⟩:=I.hok p _ hk;exact⟨o,e,d⟩
   obtain⟨o,e,d⟩:=z;refine⟨⟨o,e,d.1⟩,λa g=>?_⟩;cases g;exact⟨o,e,d.2.1⟩
  .obtain⟨o,_,_,_,e,d,_⟩:=I.hok p _ hk;refine⟨⟨o,e,d.1⟩,λa g=>?_⟩;cases g;exact⟨o,e,d.2.1⟩
 |_=>exact False.elim ty
def Tl(K:aw)(T:String)(r:V->List V->Hp->VK->Prop)(C:TE):TE:=λd H Q=>C d H λx c=>Da K T x c/\r x [] c Q
def Ol(K:aw)(T:String)(r:V->List V->Hp->VK->Prop)(C:TE)(t:TA):TE:=λc H Q=>C c H λx d=>Da K T x d/\t c d λf g=>r x f g Q
variable{o e:au}{es:List au}{C:TE}{t:TA}{m:Str}{B d:Pos}{T D:String}{r:V->List V->Hp->VK->Prop}
theorem Gr(p:PlainAttrs T)(c:Slot T m D)(q:typeOf (.builtin D)=pure (.type "method_descriptor"))(z:pf X D r)(y:PE X o C)(w:(ko o m X.env (aS o X.env)=aS o X.env)^0) (u:((B.endLine == d.line)=ag)^0):PE X (.Call (.Attribute o m B) [] [] d) (Tl X.K T r C):=by intro i s f H Q I h;refine wpAny_Call_method0_late w u (aP (y i s f H _ I h) λv l ⟨x,L,j,g,ty,n⟩=>?_);obtain⟨J,A⟩:=GH j g ty;exact⟨T,D,p,c,q,J,A,DY rfl (PySem.evalArgs_none (z i l f L x [] v [] Q j g .nil n))⟩
theorem yH(J:PlainAttrs T)(c:Slot T m D)(L:typeOf (.builtin D)=pure (.type "method_descriptor"))(S:pf X D r)(P:PE X o C)(W:PA X (e::es) t)(N:(ko o m X.env (aS o X.env)=aS o X.env)^0)(q:(((c8 d (aV (e::es) X.env)).all (λx=>!x.1)&&(rA d (rB [] X.env)).all (λx=>x.1.isSome)&&decide ((e::es).length+([]:List kq).length+(if([]:List kq).isEmpty then 0 else 1)<30))=ag)^0)(M:((B.endLine == d.line)=ag)^0) (O:(aV (e::es) X.env=(ai,aS e X.env)::aV es X.env)^0) (zP:((c8 d (aV es X.env)).any (·.1)=ai)^0):PE X (.Call (.Attribute o m B) (e::es) [] d) (Ol X.K T r C t):=by intro g s f H Q I h;refine wpAny_Call_method_late N q M rfl (aP (P g s f H _ I h) λv w ⟨x,H1,l,i,ty,A⟩=>?_);obtain⟨Z,Y⟩:=GH l i ty;refine⟨T,D,J,c,L,Z,Y,?_⟩;have j:=W d g w f H1 _ l A;rw[O]at j ⊢;refine DY (by trivial) (Ky ?_);exact aP j λp u ⟨n,H2,I2,y,z⟩=>S g u f H2 x n v p Q I2 i y z
end
def yZ(X:Cx)(f:String)(r:V->List V->Hp->VK->Prop):Prop :=
 ∀(d:List (ab×Obj)) (s:ak) (a:St) (H:Hp) (x:V) (b:List V) (v:af) (c:List af) (Q:VK),Inv X d a H s->RelV x v->bE b c->r x b H Q ->
  ao X.zz X.A (call (.builtin f) (v::c)) (EP X d a Q) X.xe s
theorem bE.one{x:V}{a:List af}(h:bE [x] a):∃u,a=[u]/\RelV x u:=by
 cases h with
 |cons r t=>cases t;exact⟨_,rfl,r⟩
theorem bE.zero:∀{a:List af},bE [] a->a=[]
 |_,.nil=>rfl
theorem bE.eraseIdx:∀{a:List V}{b:List af} (i:Nat),bE a b->bE (a.eraseIdx i) (b.eraseIdx i)
 |_,_,_,.nil=>.nil
 |_,_,0,.cons _ t=>t
 |_,_,i+1,.cons r t=>.cons r (bE.eraseIdx i t)
theorem FN{a:Type}:∀(l:List a) (i:Nat),(l.eraseIdx i).length<=l.length
 |[],_=>a_ _
 |_::_,0=>tJ _
 |_::r,i+1=>Nat.succ_le_succ (FN r i)
section
variable{X:Cx}{c:List (ab×Obj)}{a:St}{H:Hp}{s:ak}{l b:ab}{d ys g:List V}
theorem Inv.lset{h its':List af}(I:Inv X c a H s)(v:H l=aa (.lst d))(e:s.heap.get? l=aa {cls:=.type "list",data:=.seq h.toArray n}) (p:f h.toArray=its'.toArray) (m:bE ys its') (j:ys.length<=bh):Inv X c a (upd H l (.lst ys)) {s with heap:=s.heap.update l (iH f),toks:=i}:=by have q:=PySem.IsL.update e f;rw[p]at q;refine I.write (x:=l) (e:=l) (by rw[v];trivial) (.inl rfl) (λw u r o=>(rj s.heap (iH f) (fF r)).trans o) ⟨_,q⟩ ?_;exact⟨j,its',_,m,q⟩
theorem Inv.lnew(I:Inv X c a H s)(h:bE ys its)(f:ys.length<=bh):Inv X c a (upd H s.heap.objs.size (.lst ys)) {s with heap:=s.heap.push {cls:=.type "list",data:=.seq its.toArray},toks:=t'} :=I.laid (λ_ _ q=>bi _ q) (a_ _) ⟨f,its,0,h,bU _ rfl⟩
theorem Inv.fresh(I:Inv X c a H s):H s.heap.objs.size=ac:=I.hok.fresh (a_ _)
theorem Inv.lstM(I:Inv X c a H s)(h:H l=aa (.lst d)):d.length<=bh/\∃(f:List af) (n:Nat),bE d f/\d.length=f.length/\s.heap.get? l=aa {cls:=.type "list",data:=.seq f.toArray n}:=by obtain⟨z,f,n,r,e⟩:=I.hok l _ h;exact⟨z,f,n,r,r.length,e⟩
theorem TK(h:n<=bh):Kz n=ai:=by unfold Kz;simp_all
end
section
variable{X:Cx}
def Ro:V->List V->Hp->VK->Prop:=λx b H Q=>∃l a y,x=.ref l/\b=[y]/\H l=aa (.lst a)/\a.length<bh/\Q .non (upd H l (.lst (a++[y])))
theorem HX:yZ X "list.append" Ro:=by
 intro p s f H x i v j Q I b c h;obtain⟨l,g,y,rfl,rfl,a,m,q⟩:=h;cases b;obtain⟨u,rfl,d⟩:=c.one;obtain⟨z,its,n,r,o,e⟩:=I.lstM a;refine call_meets F.slot_list_append ⟨_,e,rfl⟩ F.entry_list_append (F.args_list_append_2 _ _) (PySem.list_append l its.toArray n u ⋯) ⟨e,?_⟩;refine⟨.non,_,I.lset (its':=its++[u]) a e (by simp) (r.append (.cons d .nil)) ?_,rfl,q⟩
 grind
theorem QO{b:Type}(a:List b)(k:Nat):(fJ k a).flatten.length=k*a.length:=by simp
end
section
variable{κ:Type}[DecidableEq κ]
noncomputable def gh(a:List (κ×V))(k:κ):Option V:=(a.find? λb=>decide (b.1=k)).map (·.2)
noncomputable def gk(a:List (κ×V))(k:κ)(v:V):List (κ×V) :=if(a.any λb=>decide (b.1=k))=ag then a.map (λb=>if b.1=k then(b.1,v)else b)else a++[(k,v)]
theorem sT{p:κ×V}(e:p.1=k):gh (p::r) k=aa p.2:=by simp[gh,jX,e]
theorem sK{p:κ×V}(e:¬p.1=k):gh (p::r) k=gh r k:=by simp[gh,jX,e]
theorem Gm(k:κ):∀a:List (κ×V),(a.any λb=>decide (b.1=k))=(gh a k).isSome
 |[]=>rfl
 |p::r=>by
  rw[n9];by_cases e:p.1=k
  .simp only[sT e,decide_eq_true e,Bool.true_or,Option.isSome_some]
  .rw[sK e,decide_eq_false e,Bool.false_or];exact Gm k r
theorem C9(a:List (κ×V))(k:κ)(v:V):(gk a k v).length<=a.length+1:=by
 unfold gk
 grind
theorem nR.isSome_eq(r:nR o u):o.isSome=u.isSome:=by
 cases o with
 |none=>cases u with
  |none=>rfl
  |some _=>trivial
 |some _=>cases u with
  |none=>trivial
  |some _=>rfl
theorem nR.getD(r:nR o u)(rd:RelV d a):RelV (o.getD d) (u.getD a):=by
 cases o with
 |none=>cases u with
  |none=>trivial
  |some _=>trivial
 |some _=>cases u with
  |none=>trivial
  |some _=>exact r
theorem KV.val(r:KV a d)(k:κ):nR (gh a k) (tK d k):=by
 unfold KV at r
 induction r with
 |nil=>trivial
 |@cons p q ps qs h t ih=>
  obtain⟨f,g⟩:=h;by_cases e:p.1=k
  .have c:q.1=k:=f.symm.trans e;have b:tK (q::qs) k=aa q.2:=by simp[tK,jX,c]
   rw[sT e,b];trivial
  .have c:¬q.1=k:=λz=>e (f.trans z);have b:tK (q::qs) k=tK qs k:=by simp[tK,jX,c]
   rw[sK e,b];trivial
theorem KV.any(r:KV a c)(k:κ):(a.any λb=>decide (b.1=k))=c.any λb=>decide (b.1=k):=by
 unfold KV at r
 induction r with
 |nil=>rfl
 |cons h t d=>rw[n9,n9,d,h.1]
theorem KV.repl(r:KV b c)(k:κ)(d:RelV y u):KV (b.map λa=>if a.1=k then(a.1,y)else a) (c.map λa=>if a.1=k then(a.1,u)else a):=by
 unfold KV at r ⊢
 induction r with
 |nil=>exact .nil
 |@cons p q ps qs h t ih=>rw[cN,cN];refine .cons ?_ ih;lia
theorem KV.put(r:KV a b)(k:κ)(c:RelV y u):KV (gk a k y) (stored b k u):=by
 unfold gk stored;rw[r.any k];by_cases e:(b.any λd=>decide (d.1=k))=ag
 .rw[if_pos e,if_pos e];exact r.repl k c
 .rw[if_neg e,if_neg e];exact vZ r ⟨rfl,c⟩
theorem KV.length{vs:List (κ×af)}(r:KV kvs vs):kvs.length=vs.length:=y6 r
end
theorem q0(r:RelV (kV k) u):(gB P w).is k u=ag:=by
 cases k with
 |inl i=>obtain⟨t,e⟩:=(show ∃t,u=Value.int i t from r);subst e;exact Mg P w i t
 |inr x=>obtain⟨t,e⟩:=(show ∃t,u=Value.str x t from r);subst e;exact OF P w x t
theorem Gd:∀{a:List aF}{b:List af},bE (a.map kV) b->ItemsAre (gB P w) a b
 |[],_,r=>by rw[rC]at r;cases r;exact .nil
 |k::a,_,r=>by
  rw[cN]at r;cases r with
  |cons h t=>exact .cons (q0 h) (Gd t)
abbrev KT(H:Hp):List (List aF×V)->List (List aF×ab×af)->Prop:=jS λp q=>p.1=q.1/\H q.2.1=aa (.tup (p.1.map kV))/\RelV p.2 q.2.2
theorem KT.val(r:KT H a d)(k:List aF):nR (gh a k) ((atKey d k).map (·.2)):=by
 induction r with
 |nil=>trivial
 |@cons p q ps qs h t ih=>
  obtain⟨f,_,g⟩:=h;by_cases e:p.1=k
  .have c:q.1=k:=f.symm.trans e;have b:atKey (q::qs) k=aa q.2:=by simp[atKey,jX,c]
   rw[sT e,b];trivial
  .have c:¬q.1=k:=λz=>e (f.trans z);have b:atKey (q::qs) k=atKey qs k:=by simp[atKey,jX,c]
   rw[sK e,b];trivial
theorem KT.repl(r:KT H a c)(k:List aF)(d:RelV y u):KT H (a.map λb=>if b.1=k then(b.1,y)else b) (c.map (putAt k u)):=by
 induction r with
 |nil=>exact .nil
 |@cons p q ps qs h t ih=>rw[cN,cN];refine .cons ?_ ih;obtain⟨i,g,f⟩:=h;unfold putAt;lia
theorem KT.put(r:KT H a c)(k:List aF)(g:H b=aa (.tup (k.map kV)))(d:RelV y u):KT H (gk a k y) (storedH c k b u):=by
 have e:(a.any λf=>decide (f.1=k))=(atKey c k).isSome:=by rw[Gm,(r.val k).isSome_eq,DZ]
 unfold gk storedH;rw[e];by_cases q:(atKey c k).isSome=ag
 .rw[if_pos q,if_pos q];exact r.repl k d
 .rw[if_neg q,if_neg q];exact vZ r ⟨rfl,g,d⟩
theorem KT.keeps(r:KT H a d)(g:∀b c,H b=aa (.tup c)->f b=aa (.tup c)):KT f a d :=Paired.mapP r λ_ _ z=>⟨z.1,g _ _ z.2.1,z.2.2⟩
section
variable{P:aM}{w:aD}{H:Hp}{h:ax}{a:ab}
theorem IX(ok:cZ P w H h)(e:Rd H a u):bN P w H h a u:=e.ok ok
theorem pe(ok:cZ P w H h)(e:Rd H a (.dK b)):b.length<=bh/\(a == iE)=ai/\∃c,KV b c/\h.DictOf (gB P w) a c :=show bN P w H h a (.dK b)from IX ok e
theorem vk(ok:cZ P w H h)(e:H a=aa (.dK kvs)):kvs.length<=bh/\(a == iE)=ai/\∃b,KV kvs b/\h.DictOf (gB P w) a b:=pe ok (.inl e)
theorem qN{b:List aF}(ok:cZ P w H h)(e:H a=aa (.tup (b.map kV))):(tu (gB P w)).is h b a:=by
 obtain⟨_,c,r,⟨o,g,f,n,d⟩,_⟩:=(show bN P w H h a (.tup (b.map kV))from ok a _ e)
 exact⟨o,c.toArray,n,g,f,d,by simpa using Gd r⟩
theorem qV(ok:cZ P w H h)(e:Rd H a (.dT b)):b.length<=bh/\(a == iE)=ai /\ ∃d,KT H b d/\h.DictOfH (tu (gB P w)) a d:=by
 obtain⟨z,y,d,r,o,s,u,n,j,i,g,f⟩:=(show bN P w H h a (.dT b)from IX ok e)
 refine⟨z,y,d,r,o,s,u,n,j,i,g,λx c=>?_,f⟩;have all:∀{l:List (List aF×V)}{m:List (List aF×ab×af)},KT H l m->∀x∈m,(tu (gB P w)).is h x.1 x.2.1:=by
  intro l m q
  induction q with
  |nil=>simp
  |@cons p q ps qs hq t ih=>
   intro x c;rcases b8.mp c with e|c
   .subst e;exact qN ok (by rw[<-hq.1];exact hq.2.1)
   .exact ih x c
 exact all r x c
theorem Fs(ok:cZ P w H h)(e:H a=aa (.dT b)):b.length<=bh/\(a == iE)=ai /\ ∃c,KT H b c/\h.DictOfH (tu (gB P w)) a c:=qV ok (.inl e)
end
def lF(H:Hp)(a:ab)(y:V)(r:Option V):Prop :=(∃c k,Rd H a (.dK c)/\y=kV k/\r=gh c k)\/∃c k b,Rd H a (.dT c)/\y=.ref b/\H b=aa (.tup (k.map kV))/\r=gh c k
def y4(H:Hp)(a:ab)(y v:V)(d:Hp):Prop :=
 (∃c k,H a=aa (.dK c)/\y=kV k/\c.length<bh/\d=upd H a (.dK (gk c k v))) \/
 ∃c k b,H a=aa (.dT c)/\y=.ref b/\H b=aa (.tup (k.map kV))/\c.length<bh/\d=upd H a (.dT (gk c k v))
theorem lF.k{k:aF}(e:H a=aa (.dK kvs)):lF H a (kV k) (gh kvs k):=.inl ⟨kvs,k,.inl e,rfl,rfl⟩
theorem y4.k{k:aF}{v:V}(e:H a=aa (.dK kvs))(b:kvs.length<bh):y4 H a (kV k) v (upd H a (.dK (gk kvs k v))):=.inl ⟨kvs,k,e,rfl,b,rfl⟩
theorem y4.t{c:List (List aF×V)}{k:List aF}{v:V}(e:H a=aa (.dT c))(f:H b=aa (.tup (k.map kV)))(d:c.length<bh):y4 H a (.ref b) v (upd H a (.dT (gk c k v))):=.inr ⟨c,k,b,e,rfl,f,d,rfl⟩
section
variable{X:Cx}{f:List (ab×Obj)}{d:St}{H:Hp}{s:ak}{a:ab}{y v:V}{u r:af}{o:Option V}{A:aZ}{E:af->ak->Prop}
theorem Inv.big(I:Inv X f d H s):iE<s.heap.objs.size:=by have h:cx<s.heap.objs.size:=(I.mod.glob.keeps I.bk).lt;exact gG (by decide) h
theorem QB(C:A.units+1<cLine)(I:Inv X f d H s)(g:lF H a y (aa v))(w:RelV y u)(h:∀j q,Inv X f d H q->RelV v j->Q j q):ao X.zz A (n6 (.ref a) u) Q E s:=by
 rcases g with⟨kvs,k,e,ey,l⟩|⟨kvs,k,b,e,ey,eb,l⟩
 .subst ey;obtain⟨z,F,B,i,n⟩:=pe I.hok e;obtain⟨j,m,c⟩:=nR.some_of (v:=v) (o:=tK B k) (by rw[l];exact i.val k);exact wpAny_getItem_of (q0 w) n.mapOf m (h j _ (I.tok _) c)
 .subst ey;cases (show u=Value.ref b from w);obtain⟨z,F,x,i,n⟩:=qV I.hok e;obtain⟨j,m,c⟩:=nR.some_of (v:=v) (o:=(atKey x k).map (·.2)) (by rw[l];exact i.val k);obtain⟨p,D,G⟩:=gU.mp m;refine wpAny_getItem_heap (zi C) (qN I.hok eb) n D ?_;rw[G];exact h j _ (I.tok _) c
theorem VJ(p:A.units+1<cLine)(I:Inv X f d H s)(g:lF H a y o)(n:RelV y u)(h:∀m,Inv X f d H m->Q (.bool o.isSome) m):ao X.zz A (dE .In u (.ref a)) Q E s:=by
 rcases g with⟨kvs,k,e,ey,l⟩|⟨kvs,k,b,e,ey,eb,l⟩
 .subst ey;obtain⟨z,i,x,c,j⟩:=pe I.hok e;refine wpAny_in_of (q0 n) i j.mapOf ?_;rw[<-(c.val k).isSome_eq,<-l];exact h _ (I.tok _)
 .subst ey;cases (show u=Value.ref b from n);obtain⟨z,i,w,c,j⟩:=qV I.hok e;refine wpAny_in_heap (zi p) (qN I.hok eb) i j ?_;have q:=(c.val k).isSome_eq;rw[DZ]at q;rw[<-q,<-l];exact h _ (I.tok _)
theorem TD(p:A.units+1<cLine)(I:Inv X f d H s)(g:lF H a y o)(n:RelV y u)(h:∀m,Inv X f d H m->Q (.bool (!o.isSome)) m):ao X.zz A (dE .NotIn u (.ref a)) Q E s:=by
 rcases g with⟨kvs,k,e,ey,l⟩|⟨kvs,k,b,e,ey,eb,l⟩
 .subst ey;obtain⟨z,i,x,c,j⟩:=pe I.hok e;refine wpAny_notIn_of (q0 n) i j.mapOf ?_;rw[<-(c.val k).isSome_eq,<-l];exact h _ (I.tok _)
 .subst ey;cases (show u=Value.ref b from n);obtain⟨z,i,w,c,j⟩:=qV I.hok e;refine wpAny_notIn_heap (zi p) (qN I.hok eb) i j ?_;have q:=(c.val k).isSome_eq;rw[DZ]at q;rw[<-q,<-l];exact h _ (I.tok _)
theorem um(I:Inv X f d H s)(c:uP (H a))(g:eG a s.heap h')(h:∃q,h'.get? a=aa q)(new:bN X.prog X.w (upd H a ob) h' a ob):Inv X f d (upd H a ob) {s with heap:=h',toks:=t'} :=I.write (x:=a) (e:=a) c (.inl rfl) (λb q i z=>(g.2 b i).trans z) h new
theorem Fv{h':ax}{b:List (aF×V)}{c:List (aF×af)}(z:b.length<=bh)(h:(a == iE)=ai)(g:KV b c)(i:h'.DictOf (gB P w) a c):bN P w j h' a (.dK b):=⟨z,h,c,g,i⟩
theorem ON{J:Hp}(N:A.units+1<cLine)(I:Inv X f d H s)(g:y4 H a y v J)(D:RelV y u)(F:RelV v r)(h:∀C,Inv X f d J C->Q () C):ao X.zz A (setItem (.ref a) u r) Q E s:=by
 rcases g with⟨kvs,k,e,ey,l,eH⟩|⟨kvs,k,b,e,ey,eb,l,eH⟩
 .subst ey eH;obtain⟨z,x,M,i,B⟩:=vk I.hok e;have n:M.length<=bh:=by rw[<-i.length];exact z
  have w:(gk kvs k v).length<=bh:=by have:=C9 kvs k v;ac_rfl
  refine wpAny_setItem_pairs (hsz:=n) (q0 D) B λG j p=>h _ ?_;have O:∃q,G.get? a=aa q:=let ⟨q,_,_,m,_⟩:=j;⟨q,m⟩
  exact um I (by rw[e];trivial) p O (Fv w x (i.put k F) j)
 .subst ey eH;cases (show u=Value.ref b from D);obtain⟨z,x,L,i,B⟩:=Fs I.hok e;have n:L.length<=bh:=by rw[<-y6 i];exact z
  have w:(gk kvs k v).length<=bh:=by have:=C9 kvs k v;ac_rfl
  refine wpAny_setItem_heap (hsz:=n) (zi N) (qN I.hok eb) B λG j p=>h _ ?_;obtain⟨q,Y,Z,m,W,T,S,_,P⟩:=j;refine um I (by rw[e];trivial) p ⟨q,m⟩ ⟨w,x,_,(i.put k eb F).keeps λc ys ec=>?_,q,Y,Z,m,W,T,S,P⟩;rw[aU (ul ec e (λz=>nomatch z))];trivial
end
section
variable{X:Cx}{d:List (ab×Obj)}{c:St}{H:Hp}{s:ak}{a:ab}{b:List (aF×V)}{k:aF}{u:af}{A:aZ}{E:af->ak->Prop}
theorem Ul(I:Inv X d c H s)(e:Rd H a (.dK b))(h:∀t g,Inv X d c H g->Q (.int b.length t) g):ao X.zz A (call (.builtin "len") [.ref a]) Q E s:=by obtain⟨z,i,l,f,j⟩:=pe I.hok e;refine call_len_dict i j (by rw[<-f.length];rw[rg]at z;lia) ?_;rw[<-f.length];exact h _ _ (I.tok _)
end
def u6(i:au):Prop:=∀a b,DQ i ai a b=operate [a,b] (n6 a b)
theorem JN{E:af->ak->Prop}{s:ak}{m:Env}{c b:au}{q:Pos}{T v:String}{Q:af->ak->Prop}(z:typeLookup (.type T) "__getitem__"=pure (aa (.builtin v))) (y:u6 b)(h:ao (ar a w) A (aS c m) (λo j=>ao (ar a w) A (aS b m) (λi d=>d.TypeIs o T/\ao (ar a w) A (n6 o i) Q E d) E j) E s):ao (ar a w) A (aS (.Subscript c b q) m) Q E s:=by
 refine Subscript_ (eU h (λo j p=>eU p (λi d f=>?_) λ_ _ x=>x) λ_ _ x=>x);obtain⟨u,f⟩:=f;unfold subscriptTail;refine aj ?_;rw[getitemInPython_of_ne u.not_modules];refine aj (rD u z ?_);have l:ao (ar a w) A (DQ b ai o i) (λr g=>ao (ar a w) A (letTemporaryGo c o r >>= λ_=>pure r) Q E g) E d:=by rw[y o i];exact wpAny_operating (eU f (λr g n=>aj (wpAny_letTemporaryGo (aq n))) λ_ _ x=>x)
 first
  |exact aq (aj l)
  |exact aj (aq (aj l))
  |exact aj l
theorem Qo{H:Hp}{s:ak}{a:ab}{y:V}{o:Option V}(I:Inv X f d H s)(g:lF H a y o):s.TypeIs (.ref a) "dict":=by
 rcases g with⟨kvs,k,e,_,_⟩|⟨kvs,k,b,e,_,_,_⟩
 .obtain⟨_,_,i,_,c⟩:=pe I.hok e;exact c.typeIs
 .obtain⟨_,_,h,_,c⟩:=qV I.hok e;exact c.typeIs
noncomputable def On(d ty:TE):TE:=λb H Q=>d b H λx f=>ty b f λy c=>∃a v,x=.ref a/\lF c a y (aa v)/\Q v c
noncomputable def Vb(ty d:TE):TE:=λb H Q=>ty b H λy f=>d b f λx c=>∃a o,x=.ref a/\lF c a y o/\Q (.bl o.isSome) c
noncomputable def Od(ty d:TE):TE:=λb H Q=>ty b H λy f=>d b f λx c=>∃a o,x=.ref a/\lF c a y o/\Q (.bl (!o.isSome)) c
noncomputable def Oa(f ty d:TE):TS:=λD b H=>d b H λv i=>f b i λx h=>ty b h λy g=>∃a c,x=.ref a/\y4 g a y v c/\D.nx b c
section
variable{X:Cx}{o i e b:au}{f d l:Pos}{c ty j:TE}
theorem LZ(C:X.A.units+1<cLine)(E:PE X o c)(F:PE X i ty)(D:u6 i):PE X (.Subscript o i f) (On c ty):=by intro p s n H Q I h;refine JN PySem.F.slot_dict_getitem.lookup D (aP (E p s n H _ I h) λu r ⟨x,N,L,z,B⟩=>aP (F p r n N _ L B) λT S ⟨y,M,q,w,a,v,G,g,A⟩=>?_);subst G;obtain rfl:u=Value.ref a:=z;exact⟨Qo q g,QB C q g w λO P J m=>⟨v,M,J,m,A⟩⟩
theorem QJ(A:X.A.units+1<cLine)(C:PE X i ty)(B:PE X o c):PC X .In i o (Vb ty c):=by intro n s m H Q I h;refine aP (C n s m H _ I h) λO p ⟨y,L,G,q,w⟩=>aP (B n p m L _ G w) λu N ⟨x,J,F,r,a,z,D,g,v⟩=>?_;subst D;obtain rfl:u=Value.ref a:=r;exact VJ A F g q λM E=>⟨.bl z.isSome,J,E,rfl,v⟩
theorem SM(A:X.A.units+1<cLine)(C:PE X i ty)(B:PE X o c):PC X .NotIn i o (Od ty c):=by intro n s m H Q I h;refine aP (C n s m H _ I h) λO p ⟨y,L,G,q,w⟩=>aP (B n p m L _ G w) λu N ⟨x,J,F,r,a,z,D,g,v⟩=>?_;subst D;obtain rfl:u=Value.ref a:=r;exact TD A F g q λM E=>⟨.bl (!z.isSome),J,E,rfl,v⟩
theorem FY(G:X.A.units+1<cLine)(L:PE X o c)(M:PE X i ty)(F:PE X b j)(J:iG b (aa (.Subscript o i d)) f.line X.env=pure ai):PS X (.Assign [.Subscript o i d] b f) (Oa c ty j):=by intro n s m H D I h;refine wpAny_Assign_Subscript (aP (F n s m H _ I h) λr q ⟨v,Y,S,A,E⟩=>aP (L n q m Y _ S E) λu p ⟨x,W,Q,z,C⟩=>aP (M n p m W _ Q C) λiv s3 ⟨y,H3,P,w,a,T,N,g,B⟩=>?_) J;subst N;obtain rfl:u=Value.ref a:=z;exact ON G P g w A λZ O=>⟨m,T,O,B⟩
end
theorem GS(h:ax)(a:iE<h.objs.size):bN P w H (h.push {cls:=.type "dict",data:=.dict #[]}) h.objs.size (.dK []) :=⟨gW _,beq_eq_false_iff_ne.mpr (fF (cr a)),[],.nil,Heap.DictOf.new h⟩
theorem BN(h:ax)(a:iE<h.objs.size):bN P w H (h.push {cls:=.type "dict",data:=.dict #[]}) h.objs.size (.dT []) :=⟨gW _,beq_eq_false_iff_ne.mpr (fF (cr a)),[],.nil,_,#[],0,bU _ rfl,⟨rfl,rfl,rfl⟩,rfl,rfl,List.nodup_nil⟩
def Si:TE:=λ_ H Q=>∀p,H p=ac->Q (.ref p) (upd H p (.dK []))
def P3:TE:=λ_ H Q=>∀p,H p=ac->Q (.ref p) (upd H p (.dT []))
section
variable{X:Cx}{b:Pos}
theorem OI:PE X (.Dict [] [] b) Si:=λd s c H Q I h=>KA ⟨.ref s.heap.objs.size,_,I.laid (a:=s.heap.objs.size) (o:=.dK []) (t':=s.toks) (λ_ _ q=>bi _ q) (a_ _) (GS s.heap I.big),rfl,h _ (I.hok.fresh (a_ _))⟩
theorem UR:PE X (.Dict [] [] b) P3:=λd s c H Q I h=>KA ⟨.ref s.heap.objs.size,_,I.laid (a:=s.heap.objs.size) (o:=.dT []) (t':=s.toks) (λ_ _ q=>bi _ q) (a_ _) (BN s.heap I.big),rfl,h _ (I.hok.fresh (a_ _))⟩
end
def x5:List (TE×TE)->St->Hp->(List (V×V)->Hp->Prop)->Prop
 |[],_,H,Q=>Q [] H
 | (c,b)::r,a,H,Q=>c a H λx h=>b a h λy g=>x5 r a g λd f=>Q ((x,y)::d) f
abbrev VV:List (V×V)->List (af×af)->Prop:=jS λp q=>RelV p.1 q.1/\RelV p.2 q.2
def sW(X:Cx)(d:Pos)(keys:List (Option au))(a:List au)(c:List (TE×TE)):Prop :=
 ∀(g:List (ab×Obj)) (s:ak) (b:St) (H:Hp) (Q:List (V×V)->Hp->Prop),Inv X g b H s->x5 c b H Q ->
  ao X.zz X.A (evalPairs (pairTrees keys a X.env d)) (λi j=>∃f h,Inv X g b h j/\VV f i/\Q f h) X.xe s
theorem JF:sW X a [] [] []:=λc s b H Q I h=>pairTrees_nil_walk ⟨[],H,I,.nil,h⟩
theorem HS{v:au}{l:List (Option au)}{g:List au}{j i:TE}{a:List (TE×TE)}(C:PE X k j)(A:PE X v i)(B:sW X b l g a):sW X b (aa k::l) (v::g) ((j,i)::a):=λf s c H Q I h=>pairTrees_cons_walk (aP (C f s c H _ I h) λu n ⟨x,L,F,p,w⟩=>aP (A f n c L _ F w) λN m ⟨y,J,E,o,r⟩=>aP (B f m c J _ E r) λM O ⟨z,G,D,d,q⟩=>⟨(x,y)::z,G,D,.cons ⟨p,o⟩ d,q⟩)
def tt(a more:List (aF×V)):List (aF×V):=more.foldl (λc b=>gk c b.1 b.2) a
theorem KV.merge:∀{more:List (aF×V)}{c:List (aF×af)}{a:List (aF×V)}{b:List (aF×af)},KV more c->KV a b->KV (tt a more) (merged b c):=by
 intro more c a b r;unfold KV at r
 induction r generalizing a b with
 |nil=>intro q;exact q
 |@cons p q ps qs h t ih=>
  intro d;have e:KV (gk a p.1 p.2) (stored b q.1 q.2):=by have:=d.put p.1 h.2;rw[<-h.1];trivial
  exact ih e
theorem IW:∀(more a:List (aF×V)),(tt a more).length<=a.length+more.length
 |[],a=>by show a.length<=a.length+0;simp
 |p::r,a=>by
  have c:=IW r (gk a p.1 p.2);have b:=C9 a p.1 p.2;show(tt (gk a p.1 p.2) r).length<=_
  grind
theorem FF:∀{d:List (aF×V)}{g:List (af×af)},VV (d.map λi=>(kV i.1,i.2)) g->∃f,Carries (gB P w) g f/\KV d f
 |[],_,r=>by rw[rC]at r;cases r;exact⟨[],True.intro,.nil⟩
 |p::d,_,r=>by
  rw[cN]at r;cases r with
  |@cons a b as bs h t=>obtain⟨f,c,q⟩:=FF (P:=P) (w:=w) t;obtain⟨l,j⟩:=b;exact⟨(p.1,j)::f,⟨q0 h.1,rfl,c⟩,.cons ⟨rfl,h.2⟩ q⟩
def Vz(b:List (TE×TE)):TE:=λf H Q=>∀p,H p=ac->x5 b f (upd H p (.dK [])) λg d=>d p=aa (.dK [])/\∃a:List (aF×V),g=a.map (λc=>(kV c.1,c.2))/\a.length<=15/\Q (.ref p) (upd d p (.dK (tt [] a)))
theorem Nm{b:List au}{d:List (TE×TE)}(h:sW X f keys b d)(y:keys.all (·.isSome)=ag)(D:keys.length=b.length)(J:keys≠[])(l:keys.length<=15):PE X (.Dict keys b f) (Vz d):=by
 intro N s n H Q I q;have C:=I.hok.fresh (a_ s.heap.objs.size);have O:=I.laid (a:=s.heap.objs.size) (o:=.dK []) (h':=s.heap.push {cls:=.type "dict",data:=.dict #[]}) (t':=s.toks) (λ_ _ q=>bi _ q) (a_ _) (GS s.heap I.big);refine wpAny_Dict_walk (knd:=gB X.prog X.w) y D J l (aP (h N _ n _ _ O (q _ C)) λS T ⟨W,Z,m,j,e,g,L,Y,x⟩=>?_);subst L;obtain⟨r,c,u⟩:=FF (P:=X.prog) (w:=X.w) j;obtain⟨z,F,p,v,M⟩:=vk m.hok e;cases v;refine⟨r,c,M,λh' i B=>⟨.ref s.heap.objs.size,_,?_,rfl,x⟩⟩;have A:(tt [] g).length<=bh:=by have G:=IW g [];rw[v3]at G;rw[rg];lia
 have E:∃q,h'.get? s.heap.objs.size=aa q:=let ⟨q,_,_,hq,_⟩:=i;⟨q,hq⟩
 exact um m (by rw[e];trivial) B E (Fv A F (u.merge .nil) i)
structure M2(X:Cx)(o:au)(m:Str)(apos:Pos)(e f:au)(cpos:Pos):Prop where
 base:ko o m X.env (aS o X.env)=aS o X.env
 few:((c8 cpos (aV [e,f] X.env)).all (λx=>!x.1)&&(rA cpos (rB [] X.env)).all (λx=>x.1.isSome)&&decide (([e,f]:List au).length+([]:List kq).length+(if([]:List kq).isEmpty then 0 else 1)<30))=ag
 line:(apos.endLine == cpos.line)=ag
 trees:c8 cpos (aV [e,f] X.env)=[(ai,aS e X.env),(ai,aS f X.env)]
def F_(H:Hp)(a:ab):Prop:=(∃b,Rd H a (.dK b))\/∃b,Rd H a (.dT b)
theorem RG{H:Hp}{s:ak}{a:ab}(I:Inv X l j H s)(d:F_ H a):s.TypeIs (.ref a) "dict"/\(∀b,Value.ref a=.ref b->∃c,s.heap.get? b=aa c/\c.dict=ac)/\(a == iE)=ai:=by
 rcases d with⟨kvs,e⟩|⟨kvs,e⟩
 .obtain⟨_,g,n,_,f⟩:=pe I.hok e;refine⟨f.typeIs,λb q=>?_,g⟩;cases q;obtain⟨c,_,_,i,h,_⟩:=f;exact⟨c,i,h.2.1⟩
 .obtain⟨_,g,m,_,f⟩:=qV I.hok e;refine⟨f.typeIs,λb q=>?_,g⟩;cases q;obtain⟨c,_,_,i,h,_⟩:=f;exact⟨c,i,h.2.1⟩
section
variable{X:Cx}{f:List (ab×Obj)}{c:St}{H:Hp}{s:ak}{a:ab}{y d:V}{u r:af}{o:Option V}{A:aZ}{E:af->ak->Prop}
theorem NZ(w:A.units+1<cLine)(I:Inv X f c H s)(g:lF H a y o)(q:RelV y u)(rd:RelV d r)(h:∀n p,Inv X f c H p->RelV (o.getD d) n->Q n p):ao X.zz A (call (.builtin "dict.get") [.ref a,u,r]) Q E s:=by
 rcases g with⟨kvs,k,e,ey,l⟩|⟨kvs,k,b,e,ey,eb,l⟩
 .subst ey;obtain⟨z,m,x,i,j⟩:=pe I.hok e;refine call_meetsIn KB j.typeIs PySem.F.entry_dict_get (PySem.F.args_dict_get_3 _ _ _) (meets_dict_get_default (gB X.prog X.w) a (q0 q) m r) ⟨_,j.mapOf,h _ _ (I.tok _) ?_⟩;rw[l];exact(i.val k).getD rd
 .subst ey;cases (show u=Value.ref b from q);obtain⟨z,m,v,i,j⟩:=qV I.hok e;refine call_meetsIn KB j.typeIs PySem.F.entry_dict_get (PySem.F.args_dict_get_3 _ _ _) (meetsH_dict_get_default (tu (gB X.prog X.w)) a b m r) ⟨zi w,k,v,qN I.hok eb,j,h _ _ (I.tok _) ?_⟩;rw[l];exact(i.val k).getD rd
end
def To(g ty f:TE):TE:=λb H Q=>g b H λx d=>∃a,x=.ref a/\F_ d a/\ty b d λy h=>f b h λz c=>∃o,lF c a y o/\Q (o.getD z) c
section
variable{X:Cx}{o e f:au}{c b:Pos}{j ty i:TE}
theorem OL(J:X.A.units+1<cLine)(L:PE X o j)(N:PE X e ty)(M:PE X f i)(m:M2 X o "get" c e f b):PE X (.Call (.Attribute o "get" c) [e,f] [] b) (To j ty i):=by intro p s l H Q I h;refine wpAny_Call_method m.base m.few m.line KC KB PySem.F.type_dict_get (aP (L p s l H _ I h) λu A ⟨x,Z,q,D,a,O,d,G⟩=>?_);subst O;obtain rfl:u=Value.ref a:=D;obtain⟨v,r,_⟩:=RG q d;refine⟨v,r,?_⟩;rw[m.trees];refine DY rfl (Ky (vW (aP (N p A l Z _ q G) λiv w ⟨y,Y,T,C,F⟩=>vW (aP (M p w l Y _ T F) λfv s3 ⟨z,W,S,B,ov,g,E⟩=>DH ?_))));exact NZ J S g C B λw' s4 P n=>⟨_,W,P,n,E⟩
end
end L2
namespace Att
open PySem PySem.W PySem.Calls PyProof.Rows
theorem Um:∀(c:List Int) (d:List af),WellAll P h d (c.map WData.int)->IntsAre d c:=by
 intro c
 induction c with
 |nil=>
  intro d w;rw[rC]at w;cases w;exact .nil
 |cons n c f=>
  intro d w;rw[cN]at w;cases w with
  |cons a b=>
   cases a;exact .cons _ _ (f _ b)
theorem VG{l:OpenLaw}(v:l.most=aa n)(j:l.row.toRowW.claim.pre args=ag) (f:WellAll P h b args):∃a m c,b=[Value.ref a]/\args=[WData.list (c.map WData.int)]/\h.get? a=aa {cls:=.type "list",data:=.seq m.toArray}/\IntsAre m c/\c.length<=n:=by
 have g:WShape.hasAll [] args [.list .int]=ag:=(pre_splitW j).1;have o:l.pre.holds [] {args:=args}=ag:=(pre_splitW j).2;obtain⟨d,r,rfl,y,x⟩:=hasAllW_cons g;obtain rfl:=hasAllW_nil x;obtain⟨A,rfl,w⟩:=hasW_list y;obtain⟨c,rfl⟩:=items_int w;have z:c.length<=n:=by
  unfold OpenLaw.pre at o;have i:(WTm.not (.lt (.lit (.int (n:Int))) (.len (.arg 0)))).holds [] {args:=[.list (c.map .int)]}=ag:=by have i:=(holds_andW o).1;rw[v]at i;trivial
  have B:=condW_of i (w_not (w_lt w_lit (w_len_list (w_arg rfl))));simp_all
 cases f with
 |cons q p=>
  cases p;cases q with
  |list u s=>exact⟨_,_,c,rfl,rfl,u,Um c _ s,z⟩
theorem Ru(l:OpenLaw)(args:List WData):l.row.toRowW.claim.post args (.bool ag) args=ag :=
 postW_of (r:=l.row.toRowW) (X:=(ag == ag))
  (show WShape.has [] (.bool ag) .bool=ag by rfl)
  (show(WTm.eq .res (.lit (.bool ag))).value [] {args:=args,res:=aa (.bool ag),after:=args}=aa (.bool (ag == ag))from w_eq_bool (w_res rfl) w_lit) rfl
theorem attach_call{l:OpenLaw}{d:DefRec}(M:l.most=aa n) (H:d.params.defaults=[])(call:∀(w:aD) (c b:ak) (s x:Str->Option af) (j:ab) (o:Obj) (v u h:af) (a:ab) (i:List af) (p:List Int),Ground q g [] XP w c s x b.heap->D w b.heap -> b.heap.get? j=aa o->o.data=.func (docDef d.name d.params d.body d.scope v u h)->b.heap.CodeRec u d.name->s d.name=aa (.ref j) -> b.heap.get? a=aa {cls:=.type "list",data:=.seq i.toArray}->IntsAre i p->p.length<=n->b.gens=#[] -> pq (ar l.prog w) tL (.call (.ref j) ⟨[.ref a],[]⟩) (λr m=>r=.ok (.ret (.bool ag))/\OldK b.heap m.heap/\m.os=b.os/\nW m.gens) b):WalkO q g XP D l.row.toRowW d [] (λf i=>PySem.call f i):=by intro w c b s x G Y j o v u h dV kV L Q Z B F P C z as E A I y O;obtain rfl:dV=.none:=Dflts.none B H;obtain rfl:kV=.none:=Dflts.noKw B;obtain⟨a,i,p,rfl,rfl,EN,EJ,X⟩:=VG M E y;refine enter_call (zd (call w c b s x j o v u h a i p G Y L (fd_plain Q) Z F EN EJ X P) λr m J=>?_);obtain⟨rfl,W,T,S⟩:=J;exact⟨.inl ⟨.bool ag,.bool ag,[],rfl,λ_=>rfl,.bool ag,Ru l _,λ_=>⟨List.Pairwise.nil,λ_ N=>(nomatch N)⟩⟩,W,T,S⟩
end Att
namespace L2
theorem Ab{a:List af}{b:List Int}(h:IntsAre a b):bE (b.map V.int) a:=by
 induction h with
 |nil=>exact .nil
 |cons n t _ g=>exact .cons ⟨t,rfl⟩ g
def CC(H:Hp):Prop:=∀b,H b=ac\/(∃o a,H b=aa (.frz o (.lst a)))\/∃q,H b=aa (.tbl q)
noncomputable def j_(K:aw):Hp:=λb=>match lT K "least_ending" with
 |some (_,P)=>if b=P then aa (.tbl "least_ending.<locals>.<lambda>")else ac
 |none=>ac
theorem qF{K:aw}(h:j_ K b=aa u):u=.tbl "least_ending.<locals>.<lambda>"/\∃c,lT K "least_ending"=aa (c,b):=by
 unfold j_ at h
 grind
theorem Ge{K:aw}(h:lT K "least_ending"=aa (c,P)):j_ K P=aa (.tbl "least_ending.<locals>.<lambda>"):=by unfold j_;rw[h];exact if_pos rfl
noncomputable def Fz(K:aw)(h:ax):Prop:=∀c P,lT K "least_ending"=aa (c,P)->zj K c P=ag/\K.lookup P=ac/\h.get? P=aa {cls:=.none,data:=.fields #[]}
theorem Rh{K:aw}{J:Str->Option af}{k:Nat}{fd:gT}{x:Str}{sp:Sp}{f:ak}{I:List af}{L:List Int}(KX:K.In f.heap) (l_:f.heap.Ns cx J) (i:f.heap.Ns pi mb) (kB:∀x:Str,x≠"__name__"->mb x=dX x) (N:f.heap.NoLimit) (hbm:∃D B,J "__builtins__"=aa (.ref D)/\D≠pi/\f.heap.get? D=aa B/\B.cls=.type "module"/\B.dict=aa pi/\B.data=.plain) (A:Fz K f.heap) (hg:f.gens=#[])(G:f.heap.get? a=aa {cls:=.type "list",data:=.seq I.toArray}) (hi:IntsAre I L) (hl:L.length<=bh) (hr:Room k tL)(F:∀p:ax,K.In p->p.Ns cx J->jf P w K J p CX k fa fd [x] sp) (Wg:∀(s:ak) (u:af),BindsTo s fd ⟨[u],[]⟩ [(x,u)])(mX:∀H:Hp,CC H->cg K H a (L.map V.int)->sp [.ref a] H (λv _=>v=.bl ag) λ_ _ _=>False)(hCX:∀H e l,CX [] H f (λ_ _ _=>False) e l->False):pq (ar P w) tL (.call (.ref fa) ⟨[.ref a],[]⟩) (λr l=>r=.ok (.ret (.bool ag))/\OldK f.heap l.heap/\l.os=f.os/\nW l.gens) f:=by
 have rv:=Ab hi;have M:=hi.length;have C:∀H:Hp,CC H->cg K H a (L.map V.int)->cZ P w H f.heap->(∀b,H b≠ac->b=a\/∃c,lT K "least_ending"=aa (c,b))->(H a≠ac->K.lookup a=ac)->xn K H ->
   pq (ar P w) tL (.call (.ref fa) ⟨[.ref a],[]⟩) (λr l=>r=.ok (.ret (.bool ag))/\OldK f.heap l.heap/\l.os=f.os/\nW l.gens) f:=by
  intro H hO hS E T hK hTH;have g:∀{b:ab}{o:Obj},f.heap.get? b=aa o->H b=ac->(nG f.heap H).get? b=aa o:=λe n=>Qs e n;have noA:∀{b:ab}{o:Obj}{W:Array tN}{X:Nat},f.heap.get? b=aa o->o.data=.dict W X->H b=ac:=λ{b o W X} e d=>by
   cases q:H b with
   |none=>rfl
   |some u=>
    rcases T b (by rw[q];simp)with j|⟨c,j⟩
    .lia
    .rw[(A c b j).2.2]at e;lia
  have y:∀{b:ab}{m:Str->Option af},f.heap.Ns b m->(nG f.heap H).Ns b m:=λ{b m} ⟨o,W,X,e,d,r⟩=>⟨o,W,X,g e (noA e d),d,r⟩
  have O:K.In (nG f.heap H):=λb o e=>g (KX b o e) (by
   cases q:H b with
   |none=>rfl
   |some u=>
    rcases T b (by rw[q];simp)with j|⟨c,j⟩
    .lia
    .rw[(A c b j).2.1]at e;cases e)
  have hM:Mod K J (nG f.heap H):=⟨O,y l_,⟨mb,y i,kB⟩,(let ⟨mc,h1,h2⟩:=N;⟨mc,y h1,h2⟩),by
   obtain⟨D,B,b1,b2,b3,b4,b5,b6⟩:=hbm;refine⟨D,B,b1,b2,g b3 ?_,b4,b5,b6⟩;cases q:H D with
   |none=>rfl
   |some u=>
    rcases T D (by rw[q];simp)with j|⟨c,j⟩
    .lia
    .rw[(A c D j).2.2]at b3;lia⟩
  have e0:xO P w K J (nG f.heap H) tL [] f H:=⟨rfl,hM,λb o e=>V6 e,rE (LQ _ _),trivial,λb i=>absurd (show b∈([]:List ab)from i) (by simp),E,.of_eq hg,hTH⟩
  refine zd ((F _ O (y l_)).run tL [] f H ⟨[.ref a],[]⟩ [.ref a] [.ref a] _ _ hr e0 (Wg f (.ref a)) (.cons rfl .nil) (mX H hO hS)) λr l h=>?_;cases r with
  |error e=>exact(hCX H e l h).elim
  |ok fl=>
   cases fl with
   |next=>trivial
   |brk=>trivial
   |cont=>trivial
   |ret u=>
    obtain⟨v,H',os,S,un,Lu,r',q⟩:=h;have q':v=.bl ag:=q;subst q';obtain rfl:u=Value.bool ag:=r';refine⟨rfl,⟨λb o e=>?_,λb o e=>un.there b o e (by simp)⟩,os,S⟩;cases q:H b with
    |none=>exact .inl (un.keep b o e q (by intro z;trivial) (by simp))
    |some u=>
     rcases hO b with z|⟨B,xs,z⟩|⟨qn,z⟩
     .lia
     .have z2:=un.frzs b B _ z;obtain⟨Q,_⟩:=E b _ z;obtain⟨e2,_⟩:=Lu b _ z2;rw[e]at Q;cases Q;exact .inl e2
     .rcases T b (by rw[q];simp)with j|⟨c,j⟩
      .subst j;obtain⟨ps,Q,_⟩:=E b _ z;lia
      .obtain⟨k1,k2,k3⟩:=A c b j;rw[k3]at e;cases e;obtain⟨oc,Y,_,_,_,_,_,_,_,f1,f2,f3,f4,_⟩:=PySem.W.codeHd_of_K KX k1;obtain⟨ps,Q,_⟩:=Lu b _ (un.tbls b _ z).1;exact .inr (.inl ⟨⟨c,oc,Y,f1,f2,f3,f4⟩,rfl,#[],ps,rfl,by rw[Q];simp⟩)
 cases hk:K.lookup a with
 |some o=>
  have e:=KX a o hk;rw[G]at e;cases e;have tH:∀b u,j_ K b=aa u->bN P w (j_ K) f.heap b u:=λb u z=>by
   obtain⟨rfl,c,e⟩:=qF z;exact⟨#[],(A c b e).2.2,trivial,λZ cv h=>by cases h⟩
  refine C (j_ K) (λb=>?_) (.inr ⟨_,I.toArray,_,hk,rfl,rfl,rfl,by rw[eJ,M];trivial,by trivial⟩) tH (λb z=>?_) (λz=>?_) λx hx c P e=>?_
  .cases q:j_ K b with
   |none=>exact .inl rfl
   |some u=>exact .inr (.inr ⟨_,congrArg aa (qF q).1⟩)
  .cases q:j_ K b with
   |none=>trivial
   |some u=>exact .inr (qF q).2
  .cases q:j_ K a with
   |none=>trivial
   |some u=>
    obtain⟨_,c,j⟩:=qF q;rw[(A c a j).2.2]at G;cases G
  .obtain rfl:x = "least_ending":=by simpa[tm]using hx
   exact Ge e
 |none=>
  have ta:∀c P,lT K "least_ending"=aa (c,P)->P≠a:=λc P e z=>by subst z;rw[(A c P e).2.2]at G;cases G
  refine C (λb=>if b=a then aa (.frz {cls:=.type "list",data:=.seq I.toArray} (.lst (L.map V.int)))else j_ K b) (λb=>?_) (.inl (.inr ⟨{cls:=.type "list",data:=.seq I.toArray},if_pos rfl⟩)) (λb u z=>?_) (λb z=>?_) (λ_=>hk) λx hx c P e=>?_
  .by_cases i:b=a
   .exact .inr (.inl ⟨_,_,if_pos i⟩)
   .cases q:j_ K b with
    |none=>exact .inl ((if_neg i).trans q)
    |some u=>exact .inr (.inr ⟨_,(if_neg i).trans (q.trans (congrArg aa (qF q).1))⟩)
  .by_cases i:b=a
   .have z':=(if_pos i).symm.trans z;cases z';subst i;exact⟨G,by rw[cy];trivial,I,_,rv,G⟩
   .obtain⟨rfl,c,e⟩:=qF ((if_neg i).symm.trans z);exact⟨#[],(A c b e).2.2,trivial,λZ cv h=>by cases h⟩
  .by_cases i:b=a
   .exact .inl i
   .cases q:j_ K b with
    |none=>exact absurd ((if_neg i).trans q) z
    |some u=>exact .inr (qF q).2
  .obtain rfl:x = "least_ending":=by simpa[tm]using hx
   exact(if_neg (ta c P e)).trans (Ge e)
theorem WH{l:PySem.W.OpenLaw}{XP:(Str->Option af)->ax->Prop}{E:aD->ax->Prop}{d:DefRec}{K:Params->aw}{CX:aD->eX}{sp:aD->Sp}{x:Str}(O:l.most=aa n) (r:n<=bh) (L:d.params.defaults=[]) (N:Room k tL)(C:∀(w:aD) (h:ax),E w h->(K w.params).In h/\Fz (K w.params) h)(F:∀(w:aD) (g:Str->Option af) (m:ab) (h:ax),(K w.params).In h->h.Ns cx g->g d.name=aa (.ref m) -> ∃z:gT,(∀(s:ak) (u:af),BindsTo s z ⟨[u],[]⟩ [(x,u)]) /\ ∀b:ax,(K w.params).In b->b.Ns cx g->jf l.prog w (K w.params) g b (CX w) k m z [x] (sp w))(M:∀(w:aD) (H:Hp) (a:ab) (j:List Int),j.length<=n->CC H->cg (K w.params) H a (j.map V.int)->sp w [.ref a] H (λv _=>v=.bl ag) λ_ _ _=>False)(y:∀(w:aD) (H:Hp) (s:ak) (e:af) (p:ak),CX w [] H s (λ_ _ _=>False) e p->False):PySem.W.WalkO q c XP E l.row.toRowW d [] (λf A=>PySem.call f A):=by refine Att.attach_call O L λw B i g mb m o pm cd X a A j G Y ho hd bj J Z EJ D P=>?_;have I:=(C w _ Y).1;obtain⟨z,Q,W⟩:=F w g m _ I G.T.g J;exact Rh I G.T.g G.T.b G.T.builtins G.T.nolimit G.T.bmain (C w _ Y).2 P Z EJ (dD D r) N W Q (λH T S=>M w H a j D T S) λH e p=>y w H i e p
noncomputable def ji(s:aR):tF:=match s with
 |.FunctionDef _ a _ _ _ _ _ _ _ _=>a
 |_=>{posonlyargs:=[],args:=[],vararg:=ac,kwonlyargs:=[],kw_defaults:=[],kwarg:=ac,defaults:=[]}
noncomputable def eT(s:aR):List aR:=match s with
 |.FunctionDef _ _ b _ _ _ _ _ _ _=>b
 |_=>[]
noncomputable def aQ(s:aR):cV:=match s with
 |.FunctionDef _ _ _ _ _ _ a _ _ _=>a
 |_=>{kind:=.function,names:=[],isGenerator:=ai,isCoroutine:=ai}
abbrev E0:XK:=λ_ _ _=>False
inductive Tt(K:aw)(x qual:Str)(st:aR)(f:ab)(fd:gT):Prop
 |mk (oc:af) (od:Option ab) (kV doc pm:af) (an:Option ab) (aE ct:af) (osl:Array (Option af)) (z0:fd=iW x qual (ji st) (eT st) (aQ st) .none kV doc pm an aE ct) (z1:K.lookup f=aa ⟨oc,od,.func fd,osl⟩) (z2:zg K aE qual=ag)
structure qr(K:aw)(x qual:Str)(st:aR)(f:ab)(fd:gT):Prop where
 ex:Tt K x qual st f fd
 kp:pr K (.ref f)=ag
section
variable{P:aM}{w:aD}{K:aw}{b:Str->Option af}{a:ax}
theorem qr.binds{g:aR}{p:gT}{j:List Str}(F:qr K x c g f p)(h:∀(kV d l:af) (n:Option ab) (o m:af) (i:List af),i.length=j.length->fH (iW x c (ji g) (eT g) (aQ g) .none kV d l n o m) ⟨i,[]⟩=pure (j.zip i)):Binds K p j []:=by obtain⟨s,r,kV,d,l,n,o,m,q,rfl,u,v⟩:=F.ex;exact .all (h kV d l n o m)
theorem I_{g:aR}{q:af}{p o:Option ab}{i:Array (Option af)}{kV h m j n:af}(l:K.lookup f=aa ⟨q,p,.func (iW x d (ji g) (eT g) (aQ g) .none kV h m o j n),i⟩)(c:zg K j d=ag) (k:pr K (.ref f)=ag):qr K x d g f (iW x d (ji g) (eT g) (aQ g) .none kV h m o j n):=⟨⟨q,p,kV,h,m,o,j,n,i,rfl,l,c⟩,k⟩
end
theorem Cp(h:n<=1000):n<bh:=pt h (by decide)
section
variable{X:Cx}
theorem pv(i:Nat)(d:(X.N[i]?=aa x)^0)(b:cO X.env.scope x^2)(c:av x^1)(f:a4 x^1):PE X (.Name x a) (yN i):=dR d b c f
theorem Oz:c_ X (.builtin "len") (λc H Q=>∃a b,c=[V.ref a]/\H a=aa (.dK b)/\Q (.int b.length) H):=by
 intro m s i H c j Q I r h;obtain⟨a,b,rfl,f,q⟩:=h;obtain⟨u,rfl,d⟩:=vals1 r;cases d;exact Ul I (.inl f) λt l g=>⟨.int b.length,H,g,⟨t,rfl⟩,q⟩
end
theorem mr{B:Prop}(h:B):if ai=ag then A else B:=∅
theorem mC{B:Prop}(h:A):if ag=ag then A else B:=∅
def Same(H a:Hp):Prop:=∀b o,H b=aa o->a b=aa o
theorem Same.refl(H:Hp):Same H H:=λ_ _ h=>h
theorem Same.trans(a:Same H f)(b:Same f d):Same H d:=λc o h=>b c o (a c o h)
theorem Same.free(e:Same H a)(h:a l=Option.none):H l=Option.none:=by
 cases q:H l with
 |none=>rfl
 |some o=>
  rw[e l o q]at h;cases h
end L2
set_option maxHeartbeats 4000000
namespace L2
inductive UZ(Y:Cx)(k:Nat)(tl:St)(tn:Nat->ax->Prop)(fp:List ab)(W:Nat->Nat->List V->Hp->Prop)(n:Nat)(s:ak):Prop
 |mk (i:Nat) (ys:List V) (σ:St) (H:Hp) (pre:St) (hp:pre.length=k+1) (e:σ=pre++tl) (I:Inv Y [] σ H s) (t:tn i s.heap) (f:∀b∈fp,H b=ac) (w:W i n ys H)
noncomputable def iO(a:Env):List (Str×ik)->List (Str×ab)->List (Str×ab)
 |[],b=>b
 | (n,k)::r,b=>if k == .free then iO a r ((n,(a.cells.lookup n).getD 0)::b)else iO a r b
theorem UE{d:Env}(b:List (Str×ik))(f:List (Str×ab))(g:∀x∈b,x.2=.free->∃c,d.cells.lookup x.1=aa c)(h:(iO d b f).lookup y=aa c):f.lookup y=aa c\/d.cells.lookup y=aa c:=by
 induction b generalizing f with
 |nil=>exact .inl h
 |cons a r i=>
  obtain⟨n,k⟩:=a;unfold iO at h;have l:∀x∈r,x.2=.free->∃c,d.cells.lookup x.1=aa c:=λx j=>g x (gr _ j);split at h
  .rename_i m;obtain⟨p,o⟩:=g (n,k) (ii ..) (~~~m)
   grind
  .exact i _ l h
theorem IV{a:Type}{v:a}{l:List (Str×a)}:((n,v)::l).lookup n=aa v:=by simp
theorem HV{a:Type}{v:a}{l:List (Str×a)}(h:∃c,l.lookup y=aa c):∃c,((n,v)::l).lookup y=aa c:=by
 grind
theorem Ca:∀(a:List (Str×ik)) (b:List (Str×ab)),(∃c,b.lookup y=aa c)->∃c,(iO d a b).lookup y=aa c
 |[],b,h=>h
 | (n,k)::r,b,h=>by
  unfold iO;split
  .exact Ca r _ (HV h)
  .exact Ca r _ h
theorem z7:∀(a:List (Str×ik)) (i:List (Str×ab)),(∃x∈a,x.1=y/\x.2=.free)->∃c,(iO g a i).lookup y=aa c
 |[],i,⟨_,h,_⟩=>by simp at h
 | (n,k)::r,i,⟨x,b,f,d⟩=>by
  unfold iO;rcases b8.mp b with e|b
  .subst e;simp only at f d;subst f d;simp only[beq_self_eq_true,if_true];exact Ca r _ ⟨_,IV⟩
  .split
   .exact z7 r _ ⟨x,b,f,d⟩
   .exact z7 r _ ⟨x,b,f,d⟩
theorem Cw{b:Env}:∀(a:List (Str×ik)) (g:List (Str×ab)),(∀x∈a,x.2=.free->∃c,b.cells.lookup x.1=aa c) -> (forIn (m:=Sem) a g λx r=>match x with | (d,f)=>if(f == NameKind.free)=ag then do let c <-cellOf b d;pure (ForInStep.yield ((d,c)::r))else pure (ForInStep.yield r))=pure (iO b a g)
 |[],g,_=>rfl
 | (n,k)::r,g,h=>by
  have j:∀x∈r,x.2=.free->∃c,b.cells.lookup x.1=aa c:=λx o=>h x (gr _ o);rw[List.forIn_cons];unfold iO;by_cases i:(k == NameKind.free)=ag
  .obtain⟨c,l⟩:=h (n,k) (ii ..) (~~~i);simp only[i,if_true];have e:cellOf b n=pure c:=by unfold cellOf;rw[l]
   rw[e];simp only[pure_bind];rw[Cw r _ j,l];rfl
  .simp only[i,if_false,pure_bind];exact Cw r _ j
theorem U8{a:cV}{b:Env}(h:∀x∈a.names,x.2=.free->∃c,b.cells.lookup x.1=aa c):zk a b=pure (iO b a.names []):=by unfold zk;have q:=Cw a.names [] h;simp only[bind_pure_comp]at q ⊢;rw[q];rfl
theorem yQ(b:n+1<=c)(a:c<n):False:=∅
theorem Ak:∀(c:List (Str×ik)) (n:Nat) (a b:List (Str×ab)),gF n c (a++b)=gF n c a++b
 |[],_,_,_=>rfl
 | (x,k)::r,n,a,b=>by
  unfold gF;split
  .exact Ak r (n+1) ((x,n)::a) b
  .exact Ak r n a b
theorem xz:∀(b:List (Str×ik)) (n:Nat) (a:List (Str×ab)),(y,c)∈gF n b a->(y,c)∈a\/(y,.cell)∈b
 |[],_,_,h=>.inl h
 | (x,k)::r,n,a,h=>by
  unfold gF at h;split at h
  .rename_i d;rcases xz r _ _ h with z|z
   all_goals grind
  .rcases xz r _ _ h with z|z
   all_goals simp_all
theorem CV:∀(b:List (Str×ik)) (n:Nat) (a:List (Str×ab)),(∃c,a.lookup y=aa c)->∃c,(gF n b a).lookup y=aa c
 |[],_,_,h=>h
 | (x,k)::r,n,a,h=>by
  unfold gF;split
  .exact CV r _ _ (HV h)
  .exact CV r _ _ h
theorem y3:∀(b:List (Str×ik)) (n:Nat) (a:List (Str×ab)),(y,.cell)∈b->∃c,(gF n b a).lookup y=aa c
 | (x,k)::r,n,a,h=>by
  unfold gF;rcases b8.mp h with e|h
  .cases e;exact CV r _ _ ⟨_,IV⟩
  .split
   .exact y3 r _ _ h
   .exact y3 r _ _ h
def mo(X:Cx)(a:cV)(C:ab):List (Str×ab):=gF (C+1) a.names (iO X.env a.names [])
theorem BY(X:Cx)(a:cV)(C:ab):mo X a C=gF (C+1) a.names []++iO X.env a.names []:=Ak a.names (C+1) [] _
theorem QU{s:ak}(j:Q (newEnv a s.heap.objs.size b (gF (s.heap.objs.size+1) a.names i) c ac .none (aa d) pi) {s with heap:=pushCells (s.heap.push {cls:=.type "dict",data:=.dict #[]}) a.names}):ao M A (newFunctionEnv a b i [] c ac .none (aa d)) Q E s:=by simp only[newFunctionEnv,Option.isSome_some,if_true];refine aj (D1 ?_);refine aj (wpAny_layCells _ (λg h f=>∅) _ _ _ _ ?_);rw[show({s with heap:=s.heap.push {cls:=.type "dict",data:=.dict #[]}}:ak).heap.objs.size=s.heap.objs.size+1 from rF ..];refine aj ?_;rw[List.forIn_nil];exact aq (aq j)
theorem GK{s:ak}(h:(y,c)∈gF (s.heap.objs.size+1) a []):(pushCells (s.heap.push {cls:=.type "dict",data:=.dict #[]}) a).IsCell c ac/\s.heap.objs.size+1<=c/\∀z,(z,c)∈gF (s.heap.objs.size+1) a []->y=z:=by have ok:=cellsFrom_ok a (s.heap.push {cls:=.type "dict",data:=.dict #[]}) (s.heap.objs.size+1) [] ⟨λ_ _ d=>(nomatch d),List.Pairwise.nil⟩ (by simp);rw[rF]at ok;exact⟨(ok.empty y c h).1,(ok.empty y c h).2,λz b=>name_of_addr ok.apart h b⟩
def bO(X:Cx)(a:cV)(b:List Str)(C:ab)(s₀:ak)(H₀:Hp)(ex:List ab)(pn:List (ab×Obj)):Cx where
 prog:=X.prog
 w:=X.w
 K:=X.K
 mg:=X.mg
 base:=X.base
 A:=X.A
 N:=b
 s₀:=s₀
 H₀:=H₀
 env:=compEnvC a (mo X a C) C X.env
 outer:=X.stack
 stack:=X.stack
 ex:=ex
 fn:=λy=>a.names.lookup y == aa .cell
 calm:=X.calm
 pn:=X.pn++pn
 xe:=λ_ _=>False
def fB(b:St)(a:List Nat):St:=a.map λi=>(b[i]?).join
structure iy(X:Cx)(scope:cV)(x:Str)(N':List Str)(cap:List Nat):Prop where
 kind:scope.kind=.function
 cells:∀y∈scope.names,y.2=.cell->scope.names.lookup y.1=aa .cell
 names:∀y∈scope.names,y.2=.local->scope.names.lookup y.1=aa .local
 loc:scope.names.lookup x=aa .local\/scope.names.lookup x=aa .cell
 free:∀y∈scope.names,y.2=.free->X.env.kindOf y.1=aa .cell\/X.env.kindOf y.1=aa .free
 nd:N'.Nodup
 hd:N'.head?=aa x
 len:N'.length=cap.length+1
 caps:∀i j y,N'[i+1]?=aa y->cap[i]?=aa j->(X.N[j]?=aa y/\scope.names.lookup y=aa .free)\/(X.N.length<=j/\scope.names.lookup y=aa .local)
theorem RB{a:List (Str×ik)}(h:a.lookup y=aa k):∃x∈a,x.1=y/\x.2=k:=⟨(y,k),lU h,rfl,rfl⟩
theorem By{a:Env}:∀{b:List (Str×ik)}{k:ik}, (b.map λ(n,k)=>if(k == NameKind.free&&a.scope.kind == .function&&a.kindOf n == aa .cell)then(n,NameKind.cell)else(n,k)).lookup x=aa k -> ∃d,b.lookup x=aa d/\(k=d\/(d=.free/\k=.cell))
 |[],_,h=>by trivial
 | (n,c)::r,k,h=>by
  change D3 x ((if(c == NameKind.free&&a.scope.kind == .function&&a.kindOf n == aa .cell)=ag then(n,NameKind.cell)else(n,c))::_)=_ at h;rw[n_];by_cases f:(c == NameKind.free&&a.scope.kind == .function&&a.kindOf n == aa .cell)=ag
  .rw[if_pos f,n_]at h;split at h
   .simp_all
   .exact By h
  .rw[if_neg f,n_]at h;split at h
   .simp_all
   .exact By h
theorem C1{a:Env}:∀{b:List (Str×ik)},b.lookup x=aa .free -> let q:=(b.map λ(n,k)=>if(k == NameKind.free&&a.scope.kind == .function&&a.kindOf n == aa .cell)then(n,NameKind.cell)else(n,k)).lookup x
  q=aa .cell\/q=aa .free
 |[],h=>by trivial
 | (n,c)::r,h=>by
  show D3 x ((if(c == NameKind.free&&a.scope.kind == .function&&a.kindOf n == aa .cell)=ag then(n,NameKind.cell)else(n,c))::_)=_\/D3 x ((if(c == NameKind.free&&a.scope.kind == .function&&a.kindOf n == aa .cell)=ag then(n,NameKind.cell)else(n,c))::_)=_;rw[n_]at h;by_cases f:(c == NameKind.free&&a.scope.kind == .function&&a.kindOf n == aa .cell)=ag
  .rw[if_pos f,n_];cases d:x == n with
   |true=>exact .inl rfl
   |false=>rw[d]at h;exact C1 h
  .rw[if_neg f,n_];cases d:x == n with
   |true=>simp_all
   |false=>rw[d]at h;exact C1 h
theorem xX{a:Env}:∀{b:List (Str×ik)},b.lookup x=aa .cell -> (b.map λ(n,k)=>if(k == NameKind.free&&a.scope.kind == .function&&a.kindOf n == aa .cell)then(n,NameKind.cell)else(n,k)).lookup x=aa .cell
 |[],h=>by trivial
 | (n,c)::r,h=>by
  show D3 x ((if(c == NameKind.free&&a.scope.kind == .function&&a.kindOf n == aa .cell)=ag then(n,NameKind.cell)else(n,c))::_)=_;rw[n_]at h;by_cases f:(c == NameKind.free&&a.scope.kind == .function&&a.kindOf n == aa .cell)=ag
  .rw[if_pos f,n_];cases d:x == n with
   |true=>rfl
   |false=>rw[d]at h;exact xX h
  .rw[if_neg f,n_];cases d:x == n with
   |true=>simp_all
   |false=>rw[d]at h;exact xX h
section
variable{s:ak}{f:cV}
theorem Inv.freeHas(I:Inv X A w H s)(B:iy X f x D g):∀y∈f.names,y.2=.free->∃c,X.env.cells.lookup y.1=aa c:=λy a e=>I.ok.has y.1 (B.free y a e)
theorem Inv.clIn(I:Inv X A w H s)(B:iy X f x D g)(h:(iO X.env f.names []).lookup y=aa c):X.env.cells.lookup y=aa c:=by
 rcases UE f.names [] (I.freeHas B) h with q|q
 all_goals trivial
theorem Inv.cbIn(I:Inv X A w H s)(B:iy X f x D g)(h:(mo X f C).lookup y=aa c):((y,c)∈gF (C+1) f.names []/\f.names.lookup y=aa .cell)\/((iO X.env f.names []).lookup y=aa c/\X.env.cells.lookup y=aa c):=by
 rw[BY,KD]at h;cases e:(gF (C+1) f.names []).lookup y with
 |none=>rw[e]at h;exact .inr ⟨h,I.clIn B h⟩
 |some a=>
  rw[e]at h;cases h;have m:=lU e;rcases xz _ _ _ m with z|z
  .cases z
  .exact .inl ⟨m,B.cells _ z rfl⟩
theorem Inv.cbOld(I:Inv X A w H s)(B:iy X f x D g)(h:(iO X.env f.names []).lookup y=aa c)(a:f.names.lookup y=aa .free):(mo X f C).lookup y=aa c:=by
 rw[BY,KD];cases e:(gF (C+1) f.names []).lookup y with
 |none=>exact h
 |some b=>
  rcases xz _ _ _ (lU e)with z|z
  .cases z
  .have:=B.cells _ z rfl;lia
theorem Inv.block(hh:E=pushCells (s.heap.push {cls:=.type "dict",data:=.dict #[]}) f.names)(I:Inv X A w H s)(B:iy X f x D g)(Z:∀b∈fp,lR X A H b)(hfo:∀b∈fp,∃o,s.heap.get? b=aa o)(l_:E.Ns s.heap.objs.size m)(F:∀b o,s.heap.get? b=aa o->E.get? b=aa o):Inv (bO X f D s.heap.objs.size s H fp A) [] (ac::fB w g) H {s with heap:=E,toks:=t'}:=by
 have P:∀x c,X.env.cells.lookup x=aa c->c<s.heap.objs.size:=λx c e=>(I.cell x c e).elim λv q=>q.lt;have C:∀{y:Str}{c:ab},(y,c)∈gF (s.heap.objs.size+1) f.names []->E.IsCell c ac/\s.heap.objs.size+1<=c/\∀z,(z,c)∈gF (s.heap.objs.size+1) f.names []->y=z:=λh=>by rw[hh];exact GK h
 have lk:∀y k,(compEnvC f (mo X f s.heap.objs.size) s.heap.objs.size X.env).kindOf y=aa k->∃Q,f.names.lookup y=aa Q/\(k=Q\/(Q=.free/\k=.cell)):=λy k h=>By h;have J:∀y,f.names.lookup y=aa .free->∃c,(iO X.env f.names []).lookup y=aa c:=λy h=>z7 f.names [] (RB h);have nfs:∀b∈gc X.stack,b≠s.heap.objs.size:=λb G e=>by
  rcases b8.mp (I.stkSub b G)with z|z
  .exact absurd I.lt ⋯
  .exact I.nofs (rE e.symm) z
 refine⟨⟨I.ok.mod,B.kind,I.ok.glob,I.ok.blt,a_ _,λy z c h1 h2=>?_,λy T=>?_,λy c h pP=>?_,I.ok.hd,I.ok.frames,.inl rfl,λb G=>?_,λb o e=>I.bs b o e,dD I.ok.bsz I.sz,λb o e G=>?_,λb G hf=>?_,I.stack,(λb G=>I.stkFree b G),I.tab⟩,rfl,I.bare,Un.kept F,⟨m,l_,λi y v e1 Y e3=>?_⟩,λy c h=>?_,I.hok.fresh (a_ _),λy c h=>?_,λp hp=>?_,I.hok.kept F,?_⟩
 .-- inj
  rcases I.cbIn B h1 with⟨a1,a2⟩|⟨a1,a2⟩ <;> rcases I.cbIn B h2 with⟨W,L⟩|⟨W,L⟩
  .exact(C a1).2.2 z W
  .exact(yQ (C a1).2.1 (P _ _ L)).elim
  .exact(yQ (C W).2.1 (P _ _ a2)).elim
  .exact I.ok.inj y z c a2 L
 .-- has
  show ∃c,(mo X f s.heap.objs.size).lookup y=aa c;have ma:f.names.lookup y=aa .free->∃c,(mo X f s.heap.objs.size).lookup y=aa c:=λq=>(J y q).imp λc hc=>I.cbOld B hc q;rcases T with T|T
  .obtain⟨Q,q,z|⟨z,_⟩⟩:=lk y _ T
   .subst z;exact y3 _ _ _ (lU q)
   .subst z;exact ma q
  .obtain⟨Q,q,z|⟨_,z⟩⟩:=lk y _ T
   .subst z;exact ma q
   trivial
 .-- cab
  have hk:f.names.lookup y=aa .cell:=by simpa using(show(f.names.lookup y == aa .cell)=ag from h)
  show s.heap.objs.size<=c;rcases I.cbIn B pP with⟨a1,a2⟩|⟨a1,a2⟩
  .have:=(C a1).2.1;ac_rfl
  .obtain⟨c',S⟩:=y3 (n:=s.heap.objs.size+1) (a:=[]) _ (lU hk);have e:(mo X f s.heap.objs.size).lookup y=aa c':=by rw[BY,KD,S];rfl
   have Y:(mo X f s.heap.objs.size).lookup y=aa c:=pP;rw[e]at Y;cases Y;have:=(C (lU S)).2.1;ac_rfl
 .-- exf
  obtain⟨f0,f1,f2,f3,f4,f5⟩:=Z b G;obtain⟨o,M⟩:=hfo b G;refine⟨λe=>absurd (bu M) (by rw[e];exact rf _),λy c h=>?_⟩;rcases I.cbIn B h with⟨a1,a2⟩|⟨a1,a2⟩
  .rintro rfl;exact yQ (C a1).2.1 (bu M)
  .exact f4 y c a2
 .-- noex
  obtain⟨f0,f1,f2,f3,f4,f5⟩:=Z b G;rcases f3 with z|z
  .exact I.ok.noex b o e z
  .exact absurd (fe (bu e) (dD I.ok.bsz z)) (rf _)
 .-- exfs
  obtain⟨f0,f1,f2,f3,f4,f5⟩:=Z b G;rcases b8.mp (I.stkSub b hf)with z|z
  all_goals lia
 .-- loc
  cases i with
  |zero=>simp at Y
  |succ i=>
   have O:(fB w g)[i]?=aa (aa v):=by trivial
   unfold fB at O;rw[cT]at O;cases hj:g[i]? with
   |none=>rw[hj]at O;trivial
   |some j=>
    rw[hj]at O;have e4:(w[j]?).join=aa v:=fG O;have e5:w[j]?=aa (aa v):=by
     cases hq:w[j]? with
     |none=>rw[hq]at e4;trivial
     |some o=>rw[hq]at e4;exact congrArg aa e4
    obtain⟨W,L⟩:=(B.caps i j y e1 hj).elim id λz=>by have:=(cW.mp e5).1;rw[I.len]at this;exact absurd this (Nat.not_lt.mpr z.1)
    obtain⟨mm,hn,hl⟩:=I.loc;have Ll:=B.free _ (lU L) rfl;have vis:cO X.env.scope y:=by
     rcases Ll with z|z
     .exact .inr (.inl z)
     .exact .inr (.inr z)
    obtain⟨u,r,l⟩:=hl j y v W e5 vis;refine⟨u,r,.inr ⟨C1 L,?_⟩⟩;rcases l with⟨l,_⟩|⟨_,c,hc,zQ⟩
    .simp_all
    .obtain⟨c',S⟩:=J y L;have e6:=I.clIn B S;rw[hc]at e6;cases e6;obtain⟨N,M,hd⟩:=zQ;exact⟨c,I.cbOld B S L,N,F c N M,hd⟩
 .rcases I.cbIn B h with⟨a1,a2⟩|⟨a1,a2⟩
  .exact⟨ac,(C a1).1⟩
  .obtain⟨v,N,M,hd⟩:=I.cell y c a2;exact⟨v,N,F c N M,hd⟩
 .rcases I.cbIn B h with⟨a1,a2⟩|⟨a1,a2⟩
  .exact I.hok.fresh (dD (tJ _) (C a1).2.1)
  .exact I.freeC y c a2
 .have fj:p∈X.pn++A:=by simpa[bO]using hp
  obtain⟨e,n,ne,nf,d⟩:=I.pin p fj;refine⟨F _ _ e,n,cr (bu e),λhf=>?_,d⟩;rcases b8.mp (I.stkSub p.1 hf)with z|z
  all_goals trivial
 .show(ac::fB w g).length=D.length;rw[B.len];simp[fB]
end
def qJ(X:Cx)(b:List au)(t:TT):Prop :=
 ∀(d:List (ab×Obj)) (s:ak) (a:St) (H:Hp) (Q:Bool->Hp->Prop),Inv X d a H s->t a H Q ->
  ao X.zz X.A (forIn b ag λc r=>if r=ag then do let ok <-nX c X.env (aS c X.env);pure (ForInStep.yield ok)else pure (ForInStep.yield r)) (TP X d a Q) X.xe s
theorem OK(J:Nat->ak->Prop)(n:∀k o,J k o->ao (ar P w) A (mJ u) (λr B=>match r with
   |none=>R (.ok .next) B
   |some v=>ao (ar P w) A (DB q u v) (λ_ G=>ao (ar P w) A (pj q d v) (λ_ F=>ao (ar P w) A (forIn l ag λc r=>if r=ag then do let ok <-nX c d (aS c d);pure (ForInStep.yield ok)else pure (ForInStep.yield r)) (λb z=>if b=ag then ao (ar P w) A (aS m d) (λy E=>ao (ar P w) A (call (.builtin "list.append") [C,y]) (λ_ D=>∃j,j<k/\J j D) (λ_ _=>False) E) (λ_ _=>False) z else ∃j,j<k/\J j z) (λ_ _=>False) F) (λ_ _=>False) G) (λ_ _=>False) B) (λ_ _=>False) o) (k:Nat) (h:J k s) :
  pq (ar P w) A (.compLoop (.ListComp m [⟨q,i,l,0⟩] g p) 0 u C d) R s:=by
 refine codeAny_loop rfl J (λj o L=>?_) k h;show ao _ A (Sem.onRaise (compTurn (.ListComp m [⟨q,i,l,0⟩] g p) 0 u C d) (λx=>do noteFrame x d;theTreesLotGoes x)) _ _ o;refine wpAny_noted ?_;rw[compTurn_list];have no:∀(S:af->ak->Prop) (a:af) (b:ak),False->S a b:=λ_ _ _ f=>f.elim;refine aj (wpAny_standAt (aj (eU (n j o L) (λr B I=>?_) (no _))));cases r with
 |none=>exact aq I
 |some v=>
  refine aj (eU I (λ_ G Q=>aj (eU Q (λ_ F O=>aj (eU O (λb z H=>?_) (no _))) (no _))) (no _));cases b with
  |true=>exact aj (aj (eU H (λy E N=>aj (eU N (λ_ D M=>aq (aq ⟨rfl,M⟩)) (no _))) (no _)))
  |false=>exact aq ⟨rfl,H⟩
def Ob:TT:=λ_ H Q=>Q ag H
theorem Po:qJ X [] Ob:=λ_ _ _ H _ I h=>wpAny_tests_nil ⟨H,I,h⟩
theorem Kd(h:PT X c t):qJ X [c] t:=λd s a H Q I b=>wpAny_tests_one (h d s a H Q I b)
def yX(q:TI)(h:V->Hp->St->Prop)(k:Nat)(r:TT)(s:TE)(d:List Nat):TE:=λg H Q=>q g H λJ p=>∀l,p l=ac->∃W:Nat->Nat->List V->Hp->Prop,(∃m,W 0 m [] (upd p l (.lst [])))/\∀i m a H,W i m a H ->
 (J.stop i H/\Q (.ref l) H)\/(J.go i H/\∀v j,J.yld i H v j->∃f,f.length=k+1/\h v j f/\r (f++(fB g d).drop k) j λb o=>if b=ag then s (f++(fB g d).drop k) o λy n=>n l=aa (.lst a)/\a.length<bh/\∃c,c<m/\W (i+1) c (a++[y]) (upd n l (.lst (a++[y]))) else ∃c,c<m/\W (i+1) c a o)
def Kc:V->Hp->St->Prop:=λv _ a=>a=[aa v]
abbrev Di(b:TI)(c:TT)(d:TE)(a:List Nat):TE:=yX b Kc 0 c d a
section
theorem Inv.unblock(I:Inv X w A H s)(E:∀b∈p,lR X w H b)(a:Inv (bO X j l s.heap.objs.size s H p w) [] r i s') (G:eG s.heap.objs.size s'.heap h):Inv X w A i {s' with heap:=h}:=by
 have k:∀b o,b≠s.heap.objs.size->s'.heap.get? b=aa o->h.get? b=aa o:=λb o f e=>(G.2 b f).trans e;have y:∀b o,s.heap.get? b=aa o->b≠s.heap.objs.size:=λb o e=>cr (bu e);have un:Un (gc X.stack) p H i s.heap h:=by
  refine⟨λb o e n f d=>k b o (y b o e) (a.base.keep b o e n f d),λb o e n f d=>?_,λb o e n d=>a.base.free b o e n d,λb o e d=>?_,a.base.tups,a.base.frzs,λb q e=>⟨(a.base.tbls b q e).1,λc o D g=>⟨k c o (λz=>by grind) ((a.base.tbls b q e).2 c o D g).1,((a.base.tbls b q e).2 c o D g).2⟩⟩⟩
  .obtain⟨F,q⟩:=a.base.slot b o e n f d;exact⟨F,k b _ (y b o e) q⟩
  .obtain⟨C,q⟩:=a.base.there b o e d;exact⟨C,k b C (y b o e) q⟩
 have B:cZ X.prog X.w i h:=λb u e=>by have J:i s.heap.objs.size=ac:=a.free;refine(a.hok b u e).stay (λc v L q=>k c v ?_ q) (λ_ q=>q) λ_ _ q=>q;lia
 refine I.call' (s':={s' with heap:=h}) (ch:=p) a.os un B a.bare λb f=>?_;obtain⟨S,Q,P,O,N,M⟩:=E b f;trivial
theorem Jl(B:iy X j x l m)(hk:k<=m.length)(hc:X.calm=ag)(hi:PI X tg G wi)(io:∀C F L ex pn,PG (bO X j l C F L ex pn) tg λv σ' H Q=>∃S,S.length=k+1/\σ'.length=l.length/\tgf v H S/\Q (S++σ'.drop (k+1)) H)(ht:∀C F L ex pn,qJ (bO X j l C F L ex pn) ifs ts) (he:∀C F L ex pn,PE (bO X j l C F L ex pn) elt te) (hs:∀x,km G X.env x=pure x) (I:Inv X w A H s) (h:yX wi tgf k ts te m A H Qp)(fin:∀{g s6:ak}{P H5:Hp}{M σ5 a f},Inv X w A P g->(∀b∈M,lR X w P b)->Inv (bO X j l g.heap.objs.size g P M w) [] σ5 H5 s6->Qp (.ref a) H5->compPost X.zz X.A X.xe use Q (.ref a) g.heap.objs.size (.ok f) s6):ao X.zz X.A (comprehension (.ListComp elt [⟨tg,G,ifs,0⟩] j pos) j X.env pos' (newList []) ai (aS G X.env) use) Q X.xe s:=by
 refine wpAny_comprehension_free (use:=use) rfl hs (U8 (I.freeHas B)) B.kind B.names (aP (hi w s A H _ I h) λv s1 h1=>aP h1 λitv E h2=>?_);obtain⟨it,M,tn,J,H2,e,I2,T,ca,f2,h2⟩:=h2;subst e;refine jW ?_;have I3:Inv X w A (upd H2 E.heap.objs.size (.lst [])) {E with heap:=E.heap.push {cls:=.type "list",data:=.seq ([]:List af).toArray},toks:=E.toks}:=I2.lnew (its:=[]) (t':=E.toks) .nil (gW _);obtain⟨W,⟨m0,w0⟩,turn⟩:=h2 E.heap.objs.size I2.fresh;generalize hs3:({E with heap:=E.heap.push {cls:=.type "list",data:=.seq ([]:List af).toArray},toks:=E.toks}:ak)=g at I3;have hs3':({E with heap:=E.heap.push {cls:=.type "list",data:=.seq ([]:List af).toArray}}:ak)=g:=hs3;generalize hH3:upd H2 E.heap.objs.size (.lst [])=P at I3 w0;have nl:∀b∈M,b≠E.heap.objs.size:=λb D e=>by obtain⟨o,ho,_⟩:=T.obj _ _ ca b D;exact absurd (bu ho) (by rw[e];simp)
 have k3:∀b o,E.heap.get? b=aa o->g.heap.get? b=aa o:=λb o e=>by rw[<-hs3];exact bi _ e
 have f3:∀b∈M,lR X w P b:=λb D=>⟨by rw[<-hH3,aU (nl b D)];exact(f2 b D).1,(f2 b D).2⟩
 have dz:tn 0 g.heap:=T.keep _ _ _ ca λb _ o e=>k3 b o e;have fo3:∀b∈M,∃o,g.heap.get? b=aa o:=λb D=>(T.obj _ _ dz b D).imp λo q=>q.1;refine QU ?_;generalize hh:pushCells (g.heap.push {cls:=.type "dict",data:=.dict #[]}) j.names=h₁;have old:∀b o,g.heap.get? b=aa o->h₁.get? b=aa o:=λb o e=>hh ▸ pushCells_keeps _ _ b o (bi _ e);have l_:h₁.Ns g.heap.objs.size (λ_=>ac):=hh ▸ (Heap.Ns.new g.heap (.type "dict")).keeps (pushCells_keeps _ _);have I4:=Inv.block (t':=g.toks) hh.symm I3 B f3 fo3 l_ old;have lA:tn 0 h₁:=T.keep _ _ _ dz λb _ o e=>old b o e;have N:∀{H':Hp},(∀b∈M,H' b=ac)->∀b∈M,lR (bO X j l g.heap.objs.size g P M w) [] H' b:=λhn b D=>by
  obtain⟨f0,f1,f2',f3',f4,f5⟩:=f3 b D;refine⟨hn b D,λe=>?_,λhf=>?_,.inl D,λy c h=>?_,λp hp=>f5 p (by simpa[bO]using hp)⟩
  .obtain⟨o,ho⟩:=fo3 b D;exact absurd (bu ho) (by rw[show b=g.heap.objs.size from e];simp)
  .rcases b8.mp (I3.stkSub b hf)with z|z
   all_goals grind
  .rcases I3.cbIn B h with⟨a1,a2⟩|⟨a1,a2⟩
   .rintro rfl;obtain⟨o,ho⟩:=fo3 _ D;exact yQ (GK a1).2.1 (bu ho)
   .exact f4 y c a2
 have Y:pq X.zz X.A (.compLoop (.ListComp elt [⟨tg,G,ifs,0⟩] j pos) 0 (.ref it) (.ref E.heap.objs.size) (compEnvC j (mo X j g.heap.objs.size) g.heap.objs.size X.env))
   (compPost X.zz X.A X.xe use Q (.ref E.heap.objs.size) g.heap.objs.size) {g with heap:=h₁,toks:=g.toks}:=by
  refine OK (UZ (bO X j l g.heap.objs.size g P M w) k ((fB A m).drop k) tn M W) ?_ m0
   ⟨0,[],_,P,(ac::fB A m).take (k+1),by simp[fB];lia,by simp,I4,lA,λb D=>(f3 b D).1,w0⟩
  rintro n s5 ⟨i,ys,σ5,H5,pre,ww,rfl,I5,i9,fr5,w5⟩;rcases turn i n ys H5 w5 with⟨stop,q⟩|⟨go,step⟩
  .refine eU (T.done (bO X j l g.heap.objs.size g P M w) rfl rfl rfl hc i [] s5 _ H5 (λ_ _=>False) I5 (N fr5) i9 stop) (λr s6 ⟨hr,I6⟩=>?_) (λ_ _ f=>f.elim);subst hr;exact fin I3 f3 I6 q
  .refine eU (T.item (bO X j l g.heap.objs.size g P M w) rfl rfl rfl hc i [] s5 _ H5 (λ_ _=>False) I5 (N fr5) i9 go) (λr s6 ⟨u,hr,h6⟩=>?_) (λ_ _ f=>f.elim);subst hr;refine eU h6 (λ_ s7 ⟨v,H7,I7,r7,y7,Z,fr7⟩=>?_) (λ_ _ f=>f.elim);have I7':=I7.pinned (N fr7) (T.obj _ _ Z);have back:∀{O:St}{H8:Hp}{s8:ak},Inv (bO X j l g.heap.objs.size g P M w) ([]++vz M s7.heap) O H8 s8->tn (i+1) s8.heap/\(∀b∈M,H8 b=ac):=λ{O H8 s8} I8=>⟨T.keep _ _ _ Z λb D o e=>(I8.pin (b,o) (lq _ (lq _ (yw D e)))).1,λb D=>by obtain⟨o,e,d⟩:=T.obj _ _ Z b D;exact(I8.pin (b,o) (lq _ (lq _ (yw D e)))).2.1⟩
   obtain⟨S,cJ,htg,step⟩:=step v H7 y7;refine aP (io _ _ _ _ _ _ s7 _ H7 v u (λO H8=>O=S++(fB A m).drop k/\H8=H7) I7' r7 ⟨S,cJ,I7'.len,htg,⋯,rfl⟩) λ_ s8 ⟨O,H8,I8,e8,e8'⟩=>?_;subst e8 e8';refine aP (ht _ _ _ _ _ _ s8 _ _ _ I8 step) λb s9 ⟨H9,I9,q9⟩=>?_;cases b with
   |false=>
    obtain⟨m',hm,w9⟩:=(show ∃m',m'<n/\W (i+1) m' ys H9 from q9)
    exact⟨m',hm,i+1,ys,_,H9,S,cJ,rfl,I9.unpinned,(back I9).1,(back I9).2,w9⟩
   |true=>refine aP (he _ _ _ _ _ _ s9 _ H9 _ I9 q9) λu10 s10 ⟨y,H10,I10,r10,hl10,hz10,m',hm,w10⟩=>?_;refine aP (HX _ s10 _ H10 (.ref E.heap.objs.size) [y] _ [u10] (λz H11=>H11=upd H10 E.heap.objs.size (.lst (ys++[y]))) I10 rfl (.cons r10 .nil) ⟨_,ys,y,rfl,rfl,hl10,hz10,rfl⟩) λ_ s11 ⟨_,H11,I11,_,e11⟩=>?_;subst e11;exact⟨m',hm,i+1,ys++[y],_,_,S,cJ,rfl,I11.unpinned,(back I11).1,(back I11).2,w10⟩
 exact codeAny_compStart_list Y (T.self _ 0 _ _ _ lA Y)
theorem Fw(B:iy X j x l m):∀C b c g f,PG (bO X j l C b c g f) (.Name x o) λv d H Q=>∃i,i.length=0+1/\d.length=l.length/\Kc v H i/\Q (i++d.drop (0+1)) H:=by
 intro C b c g f w s d H v u Q I r h;obtain⟨i,_,y,p,q⟩:=h;cases (show i=[aa v] from p);have D:Loc (bO X j l C b c g f).env.scope x:=B.loc.elim (λh=>.inl (v5 h)) (λh=>.inr (xX h));have z:(bO X j l C b c g f).fn x=ag\/(bO X j l C b c g f).env.scope.names.lookup x=aa .local:=B.loc.elim (λh=>.inr (v5 h)) (λh=>.inl (by show(j.names.lookup x == aa .cell)=ag;rw[h];rfl));have n:(bO X j l C b c g f).N[0]?=aa x:=by show l[0]?=aa x;rw[<-List.head?_eq_getElem?];exact B.hd
 refine nV B.nd n D z w s d H v u Q I r ?_;show Q (d.set 0 (aa v)) H;cases d with
 |nil=>rw[v3,B.len]at y;lia
 |cons a r=>exact q
theorem Hu(B:iy X j x l m)(E:X.calm=ag)(z:PI X (.Name x o) b wi)(v:∀C a c n g,qJ (bO X j l C a c n g) d ts) (D:∀C a c n g,PE (bO X j l C a c n g) f te) (y:(∀x,km b X.env x=pure x)^4):PE X (.ListComp f [⟨.Name x o,b,d,0⟩] j pos) (Di wi ts te m):=by intro w s A H Q I h;rw[eval_ListComp];exact Jl (use:=ac) B (gW _) E z (Fw B) v D y I h λG F p q=>by obtain⟨u,i,_⟩:=p.loc;exact⟨u,i,λJ r=>⟨.ref _,_,G.unblock F p r,rfl,q⟩⟩
end
noncomputable def Walk(J:It)(a:List V)(R:Hp->Prop):Prop :=
 ∀H,R H->∀i,(∀x,a[i]?=aa x->J.go i H/\∀y b,J.yld i H y b->b=H/\y=x)/\(i=a.length->J.stop i H)
theorem Rq{K:aw}:Walk (AD K a) b (λH=>cg K H a b):=λH h i=>⟨λx c=>⟨⟨b,x,h,c⟩,λy f z=>⟨z.1,by have:=z.2 b h;lia⟩⟩,λd=>⟨b,h,rE d.symm⟩⟩
theorem MF{K:aw}:Walk (Cd K a) b (λH=>cq K H a b):=λH h i=>⟨λx c=>⟨⟨b,x,h,c⟩,λy f z=>⟨z.1,by have:=z.2 b h;lia⟩⟩,λd=>⟨b,h,rE d.symm⟩⟩
def sI(a:Int)(n:Nat):List V:=(ce n).map λi=>V.int (a+(i:Nat))
theorem xL(a:Int)(n:Nat):(sI a n).length=n:=by simp[sI]
theorem G_{b:Int}:Walk (u9 b n) (sI b n) (λ_=>True):=λH _ i=>by
 refine⟨λx a=>?_,λc=>by rw[xL]at c;exact rE c.symm⟩;have d:i<n:=by have:=(cW.mp a).1;rw[xL]at this;trivial
 refine⟨d,λy g z=>⟨z.1,?_⟩⟩;unfold sI at a;rw[cT,zm d]at a;have f:V.int (b+(i:Nat))=x:=fG a;rw[z.2,<-f]
noncomputable def sg(c:Nat):V:=.str ⟨#[c]⟩
def vJ(z:Str):It:=⟨λi _=>i<z.cps.size,λi H x a=>a=H/\∃c,z.cps[i]?=aa c/\x=sg c,λi _=>i=z.cps.size⟩
theorem Sd:Walk (vJ z) (z.cps.toList.map sg) (λ_=>True):=λH _ i=>by
 refine⟨λx a=>?_,λd=>by show i=z.cps.size;simpa using d⟩;rw[cT]at a;cases e:z.cps.toList[i]? with
 |none=>rw[e]at a;trivial
 |some c=>
  rw[e]at a;have f:i<z.cps.size:=by have:=(cW.mp e).1;trivial
  refine⟨f,λy h w=>⟨w.1,?_⟩⟩;obtain⟨g,b,rfl⟩:=w.2;have:z.cps[i]?=aa c:= ~~~e
  rw[this]at b;cases b;exact(fG a)
section
variable{X:Cx}
theorem TW{K:aw}{z:Str}{d:ab}{f:Nat->ax->Prop} (W:∀i h,f i h->∃o n O,h.get? d=aa o/\o.cls=.type n/\o.data=.fields O /\ ["enumerate","zip","dict_itemiterator","dict_reverseitemiterator","odict_iterator","itertools.zip_longest","itertools.pairwise"].contains n=ai)(Wh:∀(A:aZ) (i:Nat) (s:ak) (Q:af->ak->Prop) (E:af->ak->Prop),f i s.heap->Q (.ref d) s->ao (ar P w) A (mK (.ref d)) Q E s)(B:∀A:aZ,A.handled=ac->Walks P w A d [d] [d] z.cps.size (SignAt z) f):nB P w K a (vJ z) [d] d f where
 mem:=by simp
 obj:=λi h g b j=>by
  grind
 keep:=λi h m g k=>by exact(B ({}:aZ) rfl).frame i h m g k
 item:=by intro X C q D y i S s N H E I p g x;subst C q D;obtain⟨M,L,f2,J,G,F⟩:=p d (by simp);refine(B X.A (I.ok.hd y)).item i s _ _ x g λv m l Y T k=>?_;have I1:Inv X S N H {s with heap:=m,toks:=l}:=I.turned (t':=l) (λb o j e=>k b o (~~~j) e) M L J G F;obtain⟨o,n,O,h1,h2,h3,Z⟩:=W _ _ T;obtain⟨c,u,e1,rfl⟩:=Y;exact⟨_,rfl,qd (s:={s with heap:=m,toks:=l}) h1 h2 h3 Z ⟨sg c,H,I1,⟨u,rfl⟩,⟨rfl,c,e1,rfl⟩,T,λb j=>(p b j).1⟩⟩
 done:=by intro X C q D y i S s N H E I p g x;subst C q D;obtain⟨M,L,f2,J,G,F⟩:=p d (by simp);have r:i=z.cps.size:=x;subst r;exact(B X.A (I.ok.hd y)).done s _ _ g λm l k=>⟨rfl,I.turned (t':=l) (λb o j e=>k b o (~~~j) e) M L J G F⟩
 self:=Wh
theorem Cn{g:TG}{n:TS}{D:kR}(B:Walk J c R)(d:Nat->St->Hp->Prop)(C:d 0 b H)(w:∀i b H,i<=c.length->d i b H->R H)(v:∀i x b H,c[i]?=aa x->d i b H->g x b H λh l=>n {D with nx:=d (i+1),ct:=d (i+1),bk:=D.nx} h l) (A:∀b H,d c.length b H->D.nx b H):∃W:Nat->Nat->St->Hp->Prop,(∃m,W 0 m b H)/\∀i m b H,W i m b H -> (J.stop i H/\D.nx b H)\/(J.go i H/\∃N:St->Hp->Prop,(∀j f,N j f->∃o,o<m/\W (i+1) o j f)/\∀x f,J.yld i H x f->g x b f λh l=>n {D with nx:=N,ct:=N,bk:=D.nx} h l):=by
 refine⟨λi m b H=>m=c.length-i/\i<=c.length/\d i b H,⟨c.length,by rfl,gW _,C⟩,?_⟩;rintro i m b H ⟨rfl,z,p⟩;have q:=B H (w i b H z p) i;by_cases F:i<c.length
 .have r:c[i]?=aa c[i]:=by simp
  obtain⟨E,s⟩:=q.1 c[i] r;refine .inr ⟨E,d (i+1),λj f u=>⟨c.length-(i+1),∅,rfl,F,u⟩,λx f y=>?_⟩;obtain⟨rfl,rfl⟩:=s x f y;exact v i _ b _ r p
 .have e:i=c.length:=∅
  subst e;exact .inl ⟨q.2 rfl,A b H p⟩
theorem Vn{b:Type}(l:List b)(f:b->Bool)(d:Nat->Bool)(c:∀i x,l[i]?=aa x->d i=f x):(ce l.length).all d=l.all f:=by
 induction l generalizing d with
 |nil=>rfl
 |cons x r g=>rw[gH,zn,rq,List.all_map,rq,c 0 x rfl];congr 1;exact g _ λi y h=>c (i+1) y (by trivial)
theorem VL{bs:List Bool}(r:bE (bs.map V.bl) b){i:Nat}(h:b.toArray[i]?=aa v):v=.bool (bs.getD i ai):=by
 have d:=r.length;rw[cy]at d;have f:i<b.length:=by have:=(tO.mp h).1;trivial
 have e:(bs.map V.bl)[i]?=aa (.bl (bs.getD i ai)):=by rw[cT,eh ⋯];simp[List.getD,eh (show i<bs.length by simp_all)]
 obtain⟨u,c,g⟩:=r.get e;have:b[i]?=aa v:= ~~~h
 rw[this]at c;cases c;trivial
theorem np{A:aZ}(h:A.handled=ac):A.in1.handled=ac:=h
theorem CK(j:X.calm=ag):c_ X (.builtin "all") (λl H Q=>∃(p:ab) (bs:List Bool),l=[.ref p]/\cg X.K H p (bs.map V.bl)/\Q (.bl (bs.all id)) H):=by
 intro O s w H l S Q I r h;obtain⟨p,bs,rfl,F,q⟩:=h;obtain⟨u,rfl,A⟩:=vals1 r;cases A;obtain⟨d,m,f,W⟩:=I.list F;have n:=m.length;rw[cy]at n;refine call_all_walk (zo f.isList ?_);have N:p≠s.heap.objs.size:=by obtain⟨o,g,_⟩:=f.isList;exact cr (bu g)
 refine⟨s.heap.objs.size,_,_,_,_,_,λi=>bs.getD i ai,rfl,zp (np (I.ok.hd j)) s.heap.objs.size p N d.toArray,⟨⟨_,bU _ rfl,rfl,rfl⟩,?_⟩,λi v T Z E' E M=>?_,λY y k=>?_⟩
 .obtain⟨o,g,j,J⟩:=f.isList;exact⟨o,bi _ g,j,J⟩
 .rw[VL m E];exact nZ M
 .have e:(ce d.toArray.size).all (λi=>bs.getD i ai)=bs.all id:=by
   rw[eJ,<-n];exact Vn bs id _ λi x D=>by simp[List.getD,D]
  rw[e];have P:Inv X O w H {s with heap:=s.heap.push {cls:=.type "list_iterator",data:=.fields #[.ref p,.int 0 0]},toks:=s.toks}:=I.kept (t':=s.toks) λb o e=>bi _ e;exact⟨.bl _,H,Inv.turned (t':=y) P (it:=s.heap.objs.size) (λb o L e=>k b o (~~~L) e) I.fresh (ln I.lt) (.inr I.sz) (λx c e z=>by obtain⟨v,B⟩:=I.cell x c e;exact absurd B.lt (by rw[z];simp)) (λC G z=>absurd (bu (I.pin C G).1) (by rw[z];simp)),rfl,q⟩
end
section
def nA(z:Str)(a b:Option Int):Str:=⟨((z.cps.toList.drop (HT.sIx z.length 0 a)).take (HT.sIx z.length z.length b-HT.sIx z.length 0 a)).toArray⟩
theorem S6(a b:Nat):sliceRange (a:Int) (b:Int) 1=(ce (b-a)).map λk=>a+k:=by
 unfold sliceRange;have e:(if(1:Int) > 0 then(if(a:Int)<(b:Int)then((b:Int)-a+1-1) / 1 else 0)else(if(a:Int) > b then((a:Int)-b-1-1) / (-1)else 0)).toNat=b-a:=by
  rw[if_pos (by decide)];split
  .simp
  .have:b-a=0:=⋯
   rw[this];rfl
 show(ce (if(1:Int) > 0 then(if(a:Int)<(b:Int)then((b:Int)-a+1-1) / 1 else 0)else(if(a:Int) > b then((a:Int)-b-1-1) / (-1)else 0)).toNat).map _=_;rw[e];refine zq λk _=>?_;lia
theorem Nz(a b:Option Int)(n:Nat):Builtin.Str.strSliceIndices a b 1 n=(ce (HT.sIx n n b-HT.sIx n 0 a)).map λk=>HT.sIx n 0 a+k:=by
 rw[<-S6];have p:(1:Int) > 0:=by decide
 cases a <;> cases b <;> (unfold Builtin.Str.strSliceIndices HT.sIx;simp only[p,if_true];congr 1 <;> (try split) <;> lia)
theorem OV{b:Type}(l:List b)(a k:Nat):((ce k).map λj=>a+j).filterMap (λi=>l[i]?)=(l.drop a).take k:=by
 induction k with
 |zero=>rfl
 |succ k c=>rw[rG,v6,List.filterMap_append,c,List.take_succ];congr 1;simp[lm];rfl
theorem OR(z:Str)(t:Tok)(l u:Option (Int×Tok)):∃m,sliceMade z t l u ac=m/\(m=.val (.str z t)/\nA z (l.map (·.1)) (u.map (·.1))=z\/m=.str (nA z (l.map (·.1)) (u.map (·.1)))):=by
 refine⟨_,rfl,?_⟩;unfold sliceMade slicePicked;have e:=Nz (l.map (·.1)) (u.map (·.1)) z.length;simp only[Option.map_none,Kw];rw[e];have d:=OV z.cps.toList (HT.sIx z.length 0 (l.map (·.1))) (HT.sIx z.length z.length (u.map (·.1))-HT.sIx z.length 0 (l.map (·.1)));have b:(((ce (HT.sIx z.length z.length (u.map (·.1))-HT.sIx z.length 0 (l.map (·.1)))).map λk=>HT.sIx z.length 0 (l.map (·.1))+k).filterMap (z.cps[·]?)).toArray=(nA z (l.map (·.1)) (u.map (·.1))).cps:=by unfold nA;rw[<-d];simp
 split
 .rename_i h;left;refine⟨rfl,?_⟩;simp only[beq_self_eq_true,Bool.true_and,cy,List.length_range,beq_iff_eq]at h;have g:HT.sIx z.length z.length (u.map (·.1))<=z.length:=HT.sIx_le _ _ (a_ _) _;have f:z.cps.toList.length=z.length:=by rfl
  have a:HT.sIx z.length 0 (l.map (·.1))=0\/z.length=0:=∅
  unfold nA;rw[h];rcases a with a|a
  .rw[a,List.drop_zero,oa ∅]
  .have:z.cps.toList=[]:=D4 ∅;rw[this];cases z;rename_i c;simp at this;subst this;rfl
 .right;rw[show(⟨(((ce (HT.sIx z.length z.length (u.map (·.1))-HT.sIx z.length 0 (l.map (·.1)))).map λk=>HT.sIx z.length 0 (l.map (·.1))+k).filterMap (z.cps[·]?)).toArray⟩:Str)=nA z (l.map (·.1)) (u.map (·.1))from by rw[b]]
def HG:V->Option Int->Option Int->Hp->VK->Prop:=λx a b H Q=>∃z,x=.str z/\z.length<=bh/\Q (.str (nA z a b)) H
theorem UT(z:Str)(a b:Option Int):(nA z a b).length<=z.length:=by unfold nA Str.length;simp;lia
theorem part_of(p:lW v o):∃q:Option (Int×Tok),v=partValue q/\q.map (·.1)=o:=by
 cases p with
 |none=>exact⟨ac,rfl,rfl⟩
 |int i t=>exact⟨aa (i,t),rfl,rfl⟩
theorem Wo:lG X HG:=by
 intro y s n H x v p o r w a Q I b g d c h;obtain⟨z,rfl,f,q⟩:=h;obtain⟨t,rfl⟩:=b;obtain⟨l,rfl,rfl⟩:=part_of d;obtain⟨u,rfl,rfl⟩:=part_of c;refine⟨"str",_,F.slot_str_getitem.lookup,typeIs_str s z t,?_⟩;obtain⟨m,j,i⟩:=OR z t l u;refine getItem_meets (typeIs_str s z t) (by rfl) F.slot_str_getitem F.entry_str_getitem (F.args_str_getitem_2 _ _) (meets_str_getitem_slice z t a l u ac (by rfl)) ⟨g,?_⟩;rw[j];rcases i with⟨rfl,e⟩|rfl
 .exact⟨.str z,H,I,⟨t,rfl⟩,by rw[e]at q;exact q⟩
 .exact⟨dD (UT z _ _) f,⟨.str _,H,I.tok _,⟨_,rfl⟩,q⟩⟩
end
section
variable{X:Cx}
def jg(K:aw)(H:Hp)(d:Nat)(x y:V)(k:Bool):Prop :=
 ∀(X:Cx),X.K=K->∀(b:List (ab×Obj)) (a:St) (s:ak) (u v:af) (A:aZ),Inv X b a H s->RelV x u->RelV y v->A.units+d<cLine->vY A s u v k
theorem NC{K:aw}{x y:V}(f:jw x=ag)(c:jw y=ag):jg K H d x y (gf x y):=λ_ _ _ _ _ _ _ _ _ b a _=>Hf b a f c
def gL(e:Nat->Bool)(n m:Nat):Bool:=(ce (min n m)).all e&&n == m
theorem VU{A:aZ}:A.in1.units=A.units+1:=rfl
theorem BE{A:aZ}(I:Inv X D p H s)(M:cg X.K H a f)(L:cg X.K H b c)(J:∀(j:Nat) x y,f[j]?=aa x->c[j]?=aa y->jg X.K H d x y (e j)) (W:A.units+(d+1)<cLine):SeqAt.RcAt A s (.ref a) (.ref b) (gL e f.length c.length)/\SeqAt.RcNeAt A s (.ref a) (.ref b) (!gL e f.length c.length):=by
 obtain⟨h,r,n,_⟩:=I.list M;obtain⟨i,q,g,_⟩:=I.list L;have G:=r.length;have Y:=q.length;have B:∀j (O:j<h.toArray.size) (N:j<i.toArray.size),vY A.in1 s h.toArray[j] i.toArray[j] (e j):=λj O N=>by
  have S:j<h.length:=by trivial
  have T:j<i.length:=by trivial
  have l:f[j]?=aa f[j]:=eh ⋯;have C:c[j]?=aa c[j]:=eh ⋯;obtain⟨u,z,F⟩:=r.get l;obtain⟨v,w,E⟩:=q.get C;have Q:h[j]=u:=by rw[eh S]at z;exact fG z
  have P:i[j]=v:=by rw[eh T]at w;exact fG w
  have:=J j f[j] c[j] l C X rfl D p s u v A.in1 I F E (by lia);simpa[Q,P]using this
 by_cases o:f.length=c.length
 .have m:h.toArray.size=i.toArray.size:=by simp;simp_all
  have l:gL e f.length c.length=(ce h.toArray.size).all e:=by unfold gL;simp_all
  rw[l];exact⟨.lists n.isList g.isList m ∅ B,.lists n.isList g.isList m ∅ B⟩
 .have l:gL e f.length c.length=ai:=by
   unfold gL;rw[beq_false_of_ne o,zr]
  have m:(h.toArray.size != i.toArray.size)=ag:=by simp;simp_all
  rw[l];exact⟨.lists_lengths n.isList g.isList m ∅,.lists_lengths n.isList g.isList m ∅⟩
theorem C4{A:aZ}(I:Inv X C n H s)(J:cq X.K H a f)(G:cq X.K H b c)(F:∀(j:Nat) x y,f[j]?=aa x->c[j]?=aa y->jg X.K H d x y (e j)) (T:A.units+(d+1)<cLine):SeqAt.RcAt A s (.ref a) (.ref b) (gL e f.length c.length)/\SeqAt.RcNeAt A s (.ref a) (.ref b) (!gL e f.length c.length):=by
 obtain⟨h,p,w,_⟩:=I.tuple J;obtain⟨g,o,i,_⟩:=I.tuple G;have m:=p.length;have N:=o.length;have z:∀j (M:j<h.toArray.size) (L:j<g.toArray.size),vY A.in1 s h.toArray[j] g.toArray[j] (e j):=λj M L=>by
  have Q:j<h.length:=by trivial
  have S:j<g.length:=by trivial
  have l:f[j]?=aa f[j]:=eh ⋯;have B:c[j]?=aa c[j]:=eh ⋯;obtain⟨u,r,E⟩:=p.get l;obtain⟨v,q,D⟩:=o.get B;have P:h[j]=u:=by rw[eh Q]at r;exact fG r
  have O:g[j]=v:=by rw[eh S]at q;exact fG q
  have:=F j f[j] c[j] l B X rfl C n s u v A.in1 I E D (by rw[VU];lia);simpa[P,O]using this
 have l:gL e f.length c.length=((ce (min h.toArray.size g.toArray.size)).all e&&h.toArray.size == g.toArray.size):=by unfold gL;rw[eJ,eJ,<-m,<-N]
 rw[l];exact⟨.tuples w i ∅ z,.tuples w i ∅ z⟩
theorem L6{K:aw}{a b:ab}{f c:List V}{e:Nat->Bool}(n:cg K H a f)(m:cg K H b c)(p:a≠b)(l:∀(j:Nat) x y,f[j]?=aa x->c[j]?=aa y->jg K H d x y (e j)):jg K H (d+1) (.ref a) (.ref b) (gL e f.length c.length):=λX o r q s u v A I h g i=>by
 subst o;cases h;cases g;exact .of_refs p (BE I n m l i).1
theorem Oq{K:aw}{a b:ab}{f c:List V}{e:Nat->Bool}(n:cq K H a f)(m:cq K H b c)(p:a≠b)(l:∀(j:Nat) x y,f[j]?=aa x->c[j]?=aa y->jg K H d x y (e j)):jg K H (d+1) (.ref a) (.ref b) (gL e f.length c.length):=λX o r q s u v A I h g i=>by
 subst o;cases h;cases g;exact .of_refs p (C4 I n m l i).1
theorem FD{K:aw}{a:ab}:jg K H d (.ref a) (.ref a) ag:=λX h i f s u v A I c b g=>by
 cases c;cases b;exact .same _
def uF(K:aw)(g:Bool):R2:=λx y H Q=>∃a b f c d e,x=.ref a/\y=.ref b/\((cg K H a f/\cg K H b c)\/(cq K H a f/\cq K H b c))/\d<=8 /\
 (∀(j:Nat) x y,f[j]?=aa x->c[j]?=aa y->jg K H d x y (e j))/\Q (.bl (if g then !gL e f.length c.length else gL e f.length c.length)) H
theorem Mw(n:X.A.units+64<cLine):cj X (dE .Eq) (uF X.K ai):=by
 intro p s j H x y v u Q I g f h;obtain⟨a,b,m,l,d,e,rfl,rfl,i,o,c,q⟩:=h;cases g;cases f;rcases i with⟨h1,h2⟩|⟨h1,h2⟩
 .exact(BE I h1 h2 c ∅).1 _ _ _ _ ⟨.bl _,H,I,rfl,q⟩
 .exact(C4 I h1 h2 c ∅).1 _ _ _ _ ⟨.bl _,H,I,rfl,q⟩
theorem SH(n:X.A.units+64<cLine):cj X (dE .NotEq) (uF X.K ag):=by
 intro p s j H x y v u Q I g f h;obtain⟨a,b,m,l,d,e,rfl,rfl,i,o,c,q⟩:=h;cases g;cases f;rcases i with⟨h1,h2⟩|⟨h1,h2⟩
 .exact(BE I h1 h2 c ∅).2 _ _ _ _ ⟨.bl _,H,I,rfl,q⟩
 .exact(C4 I h1 h2 c ∅).2 _ _ _ _ ⟨.bl _,H,I,rfl,q⟩
end
noncomputable abbrev Tx:=List Nat
noncomputable def tS(l:Tx):Str:=⟨l.toArray⟩
def tV(l:Tx):V:=.str (tS l)
def bz(a:List Tx):List V:=a.map tV
theorem jx(l:Tx):(tS l).cps.toList=l:=by rfl
theorem mx(l:Tx):(tS l).length=l.length:=by rfl
theorem sO(z:Str):tS z.cps.toList=z:=by rfl
theorem qx(h:tS a=tS b):a=b:=by rw[<-jx a,h,jx]
theorem qR(a:List Tx):(bz a).length=a.length:=cy _
def iD(a b:Tx):Bool:=decide (a<=b)
noncomputable def ins{a:Type}(b:a->a->Bool)(x:a):List a->List a
 |[]=>[x]
 |y::r=>if b x y then x::y::r else y::ins b x r
def sX{a:Type}(b:a->a->Bool)(l:List a):List a:=l.foldr (ins b) []
theorem Wu{a:Type}{b:a->a->Bool}{x:a}:∀{l:List a},(ins b x l).Perm (x::l)
 |[]=>.refl _
 |y::r=>by
  unfold ins;split
  .exact .refl _
  .exact(Wu.cons y).trans (.swap _ _ _)
theorem so{a:Type}{le:a->a->Bool}:∀(l:List a),(sX le l).Perm l
 |[]=>.refl _
 |x::r=>Wu.trans ((so r).cons x)
theorem E7{f:Type}{d:f->f->Bool}(j:∀a b c,d a b=ag->d b c=ag->d a c=ag)(n:∀a b,(d a b||d b a)=ag){x:f}:∀{l:List f},l.Pairwise (λa b=>d a b=ag)->(ins d x l).Pairwise (λa b=>d a b=ag)
 |[],_=>List.pairwise_singleton _ _
 |y::r,h=>by
  have i:=zt.mp h;unfold ins;split
  .next q=>exact zt.mpr ⟨λz g=>(b8.mp g).elim (λe=>e ▸ q) λm=>j _ _ _ q (i.1 z m),h⟩
  .next q=>
   have o:d y x=ag:=by have:=n x y;simp_all
   exact zt.mpr ⟨λz g=>(b8.mp (Wu.mem_iff.mp g)).elim (λe=>e ▸ o) (i.1 z),E7 j n i.2⟩
theorem vU{d:Type}{le:d->d->Bool}(f:∀a b c,le a b=ag->le b c=ag->le a c=ag)(g:∀a b,(le a b||le b a)=ag):∀(l:List d),(sX le l).Pairwise (λa b=>le a b=ag)
 |[]=>.nil
 |_::r=>E7 f g (vU f g r)
def b_(a:List Tx):List Tx:=sX iD a
theorem G4(a b c:Tx)(f:iD a b=ag)(d:iD b c=ag):iD a c=ag:=by
 simp only[iD,decide_eq_true_eq]at *
 grind
theorem OP(a b:Tx):(iD a b||iD b a)=ag:=by
 simp only[iD,zu,decide_eq_true_eq]
 grind
theorem SL(d:iD a b=ag)(c:iD b a=ag):a=b:=by
 simp only[iD,decide_eq_true_eq]at *
 grind
theorem nt(a:List Tx):(b_ a).Perm a:=so _
theorem TY(c:List Tx):(b_ c).Pairwise (λa b=>iD a b=ag):=vU G4 OP _
theorem IS(a:List Tx):(b_ a).length=a.length:=(nt a).length_eq
theorem Jb{d:List Tx}(g:d.Perm c)(f:d.Pairwise (λa b=>iD a b=ag)):d=b_ c :=D5 (le:=λa b=>iD a b=ag) (λ_ _ _ _ i h=>SL i h) f (TY c) (g.trans (nt c).symm)
theorem G3:∀(p:Str) (l:List Str),risingS p l=ag->(p::l).Pairwise (λa b=>iD a.cps.toList b.cps.toList=ag)
 |p,[],_=>List.pairwise_singleton _ _
 |p,x::r,h=>by
  have d:(!ltCps x.cps.toList p.cps.toList&&risingS x r)=ag:=h;rw[iX,ltCps_eq]at d;have q:=G3 x r d.2;have f:iD p.cps.toList x.cps.toList=ag:=by
   simp only[iD,decide_eq_true_eq]
   grind
  refine zt.mpr ⟨λy c=>?_,q⟩;rcases b8.mp c with rfl|c
  .trivial
  .exact G4 _ _ _ f (List.rel_of_pairwise_cons q c)
theorem JX(h:sortedS c=ag):(c.map λz=>z.cps.toList).Pairwise (λa b=>iD a b=ag):=by
 rw[pw];cases c with
 |nil=>simp
 |cons x r=>exact G3 x r h
theorem p_{a:List Tx}{b:List af}(r:bE (bz a) b):bR b (a.map tS):=by
 induction a generalizing b with
 |nil=>cases r;exact .nil
 |cons l a g=>
  cases r with
  |cons e r=>obtain⟨t,rfl⟩:=e;exact .cons _ t (g r)
theorem Ij{b:List Str}{a:List af}(h:bR a b):bE (bz (b.map λz=>z.cps.toList)) a:=by
 induction h with
 |nil=>exact .nil
 |cons y t _ g=>exact .cons ⟨t,by rw[sO]⟩ g
section
variable{A:aZ}
theorem Bj(x:ao (ar P w) A.in1 (tP v) (λd s1=>∃ss:List Str,bR d ss/\d.length<64/\∀(h:ax) (out:Array af) (f:List Str) (e:Nat),(∀b o,s1.heap.get? b=aa o->h.get? b=aa o) -> h.get? s1.heap.objs.size=aa (dY "list" out e)->bR out.toList f->f.Perm ss->sortedS f=ag->Q (.ref s1.heap.objs.size) {s1 with heap:=h}) E s):ao (ar P w) A (call (.builtin "sorted") [v]) Q E s:=by refine KF kind_sorted plain_sorted entry_sorted (args_sorted1 _) ?_;unfold KG;refine aj (m:=checkCount "sorted" 1 1 _) (aq ?_);refine aj (aP x λd s1 ⟨ss,l,p,i⟩=>?_);refine aj (zv ?_);have g:(s1.heap.push (dY "list" d.toArray 0)).get? s1.heap.objs.size=aa (dY "list" d.toArray 0):=bU _ rfl;refine aj (d_ (jm slot_list_sort ⟨_,g,rfl⟩ entry_list_sort (list_sort_treeK strKind_oneLt g l.keysOf (λa b c e=>keyKind_strs (by rw[<-e];trivial)) p λy r q=>⟨_,rfl,?_⟩) (args_list_sort _)));obtain⟨f,C,B,z⟩:=sorted_out_str l r q;obtain⟨e,u⟩:=sortedHeap_at (out:=(arrOf y).map (·.2)) g;refine aq ⟨_,rfl,i _ _ f e (λb o j=>?_) u C B z⟩;have n:b<s1.heap.objs.size:=bu j;rw[sortedHeap_old (cr n) (by rw[kr];exact v7 n)];exact bi _ j
end
section
theorem Inv.sorted{a:List Tx}{d:ax}(I:Inv X g f H s1)(i:ss=a.map tS)(p:a.length<64)(k:∀b o,s1.heap.get? b=aa o->d.get? b=aa o) (q:d.get? s1.heap.objs.size=aa (dY "list" out e)) (n:bR out.toList c) (m:c.Perm ss) (l:sortedS c=ag):Inv X g f (upd H s1.heap.objs.size (.lst (bz (b_ a)))) {s1 with heap:=d}:=by
 have j:c.map (λz=>z.cps.toList)=b_ a:=by
  refine Jb ?_ (JX l);have:=m.map λz=>z.cps.toList;rw[i,fg]at this;have r:(a.map ((λz:Str=>z.cps.toList) ∘ tS))=a:=by simp[rH,jx]
  simp_all
 have h:bE (bz (b_ a)) out.toList:=by rw[<-j];exact Ij n
 refine I.laid (t':=s1.toks) k (a_ _) ⟨?_,out.toList,e,h,?_⟩
 .rw[qR,IS];exact ig (Cp ∅)
 trivial
theorem sx:c_ X (.builtin "sorted") (λv H Q=>∃(p:ab) (d:List Tx),v=[.ref p]/\(cg X.K H p (bz d)\/cq X.K H p (bz d))/\d.length<64/\∀l,H l=ac->Q (.ref l) (upd H l (.lst (bz (b_ d))))):=by
 intro G s x H v N Q I r h;obtain⟨p,d,rfl,f,C,q⟩:=h;obtain⟨u,rfl,y⟩:=vals1 r;cases y;have b:∀(T:String) (o:Obj) (a:List af) (n:Nat),(T = "list"\/T = "tuple")->s.heap.get? p=aa o->o.cls=.type T->o.data=.seq a.toArray n->bE (bz d) a ->
   ao X.zz X.A (call (.builtin "sorted") [Value.ref p]) (EP X G x Q) X.xe s:=λT o a n F j i g c=>by
  have E:=c.length;rw[qR]at E;have m:=Cp (n:=a.length) ∅;refine Bj (wpAny_collect_seq p F j i g (λO B=>?_) ∅);have w:=I.kept (t':=s.toks) B;refine⟨_,p_ c,⋯,λP A S e k j M L J=>?_⟩;exact⟨.ref _,_,Inv.sorted w rfl C k j M L J,rfl,q _ w.fresh⟩
 rcases f with f|f
 .obtain⟨a,c,z,D⟩:=I.list f;obtain⟨o,e,i,n,g⟩:=z.isList;exact b "list" o a n (.inl rfl) e i g c
 .obtain⟨a,c,⟨o,e,i,n,g⟩,D⟩:=I.tuple f;exact b "tuple" o a n (.inr rfl) e i g c
theorem Qc(z:Tx)(n:Nat):Txt.mul (tS z) (n:Int)=tS (fJ n z).flatten:=by
 unfold Txt.mul;cases n with
 |zero=>rfl
 |succ n=>
  rw[if_neg ∅];split
  .rename_i h;simp only[zu,beq_iff_eq]at h;rcases h with h|h
   .have:n=0:=∅
    subst this;simp
   .rw[mx]at h;simp_all
  .unfold tS;congr 1;have b:∀(k:Nat) (a:Array Nat),(fJ k z.toArray).foldl (·++·) a=a++(fJ k z).flatten.toArray:=by
    intro k
    induction k with
    |zero=>simp
    |succ k c=>grind
   simp_all
theorem RW:cj X (gR .Mult) (λx y H Q=>∃(z:Tx) (n:Nat),x=tV z/\y=.int n/\n<=100/\z.length<=100/\Q (tV (fJ n z).flatten) H):=by
 intro r s j H x y v u Q I c b h;obtain⟨z,n,rfl,rfl,f,d,q⟩:=h;obtain⟨t,rfl⟩:=c;obtain⟨m,rfl⟩:=b;refine SB.mul ?_ λl k=>?_
 .have o:z.length*n<=10000:=dD (Nat.mul_le_mul d f) (by simp);refine⟨by lia,λi _=>?_,λi _=>?_⟩
  .rw[mx];intro g;have p:(2^63-1:Int) / n ≥ (2^63-1) / 100:=by
    have a:(0:Int)<n:=∅
    apply (Int.le_ediv_iff_mul_le a).mpr;lia
   lia
  .rw[mx,mO];unfold Builtin.Str.tooLong;apply decide_eq_false;have:10000<bh:=by trivial
   lia
 .rw[Qc];exact⟨tV _,H,I.tok _,⟨_,rfl⟩,q⟩
end
theorem Qh(t:b9)(j:Nat):(t.put j).1.led=t.led/\(t.put j).1.plain=t.plain:=⟨rfl,rfl⟩
theorem Mb(t:b9)(n:Nat):(t.orStandIn n).led=t.led/\((t.orStandIn n).plain=t.plain\/(t.orStandIn n).plain=ai):=by
 unfold SetTable.orStandIn;split
 .simp
 .exact⟨rfl,.inr rfl⟩
theorem Nv(t:b9)(c:Array (Int×af))(h:Int)(x:af):(layNew t c h x).2.1.led=t.led/\((layNew t c h x).2.1.plain=t.plain\/(layNew t c h x).2.1.plain=ai):=by
 unfold layNew;split
 .rename_i a b _;have f:=Qh t a;have d:=Mb (t.put a).1 (pA c (t.put a).2 (h,x)).size;ac_rfl
 .exact⟨rfl,.inr rfl⟩
theorem RA(t:b9)(c:Array (Int×af))(a:Nat)(d:t.plain=ai):(tQ t c a).2.1.led=t.led/\(tQ t c a).2.1.plain=ai:=by
 unfold tQ;split
 .rename_i t' b e;have q:t'.led=t.led/\t'.plain=t.plain:=by
   unfold SetTable.relaid v8 at e;cases q:v9 (lY a-1) (c.map (·.1))with
   |none=>rw[q]at e;cases e
   |some f=>rw[q]at e;cases e;simp
  dsimp only;split
  .exact⟨q.1,q.2.trans d⟩
  trivial
 trivial
noncomputable def cR(w:aD):Bool:=w.params.followText "set-order"
inductive Tq(P:aM)(w:aD)(h:ax)(a:ab)(ks:List Str):Prop
 |mk (es:Array (Int×af)) (ep:Nat) (t:b9) (ss:List Str) (e:h.get? a=aa {cls:=.type "set",dict:=ac,data:=.set es ep t}) (hS:bR (es.toList.map (·.2)) ss) (hp:ss.Perm ks) (fk:ElemsOf (cn P w) es.toList) (hsz:es.size<4090) (hf:t.fits es.size=ag) (hl:t.led=(!cR w)) (hq:ks≠[]->t.plain=ai)
structure bB(P:aM)(w:aD)(h:ax)(a:ab)(ks:List Str):Prop where
 ex:Tq P w h a ks
theorem bB.at{h':ax}(S:bB P w h a b)(k:∀o,h.get? a=aa o->h'.get? a=aa o):bB P w h' a b:=by obtain⟨es,ep,t,ss,e,l,j,i,g,f,d,c⟩:=S.ex;exact⟨es,ep,t,ss,k _ e,l,j,i,g,f,d,c⟩
theorem yt:∀{a:List af}{b:List Str},bR a b->∀x,x∈b↔∃t,Value.str x t∈a
 |_,_,.nil,x=>by simp
 |_,_,.cons y t h,x=>by
  rw[b8,yt h x]
  grind
theorem uH:∀{a b:List af},a.Perm b->∀{c:List Str},bR b c->∃d,bR a d/\d.Perm c:=by intro a b p c h;refine⟨a.map strOf,strsAre_map a λv f=>h.all v (p.mem_iff.mp f),?_⟩;have:=p.map strOf;rwa[h.strs]at this
section
variable{s:ak}
noncomputable def iP(a:List Str)(x:Str):List Str:=if x∈a then a else a++[x]
theorem bB.put{h:ax}(e:h.get? a=aa {cls:=.type "set",dict:=ac,data:=.set c b t}):(h.update a (zw es' t')).get? a=aa {cls:=.type "set",dict:=ac,data:=.set es' (b+1) t'}:=by have:=n8 (zw es' t') e (by rfl);trivial
theorem AC(S:bB P w s.heap a n)(hn:n.length<4000)(h:∀l b,eG a s.heap l->bB P w l a (iP n x)->Q b {s with heap:=l}):ao (ar P w) A (tR a (.str x g) ((cn P w).hash x)) Q E s:=by
 obtain⟨m,ep,t,ss,M,N,hp,fk,hsz,hf,fM,cp⟩:=S.ex;have isD:∀y t',(cn P w).is x (.str y t')=decide (y=x):=λy t'=>by rfl
 have mU:(cn P w).is x (.str x g)=ag:=by rw[isD];simp
 have hb:m.size<scanBound:=gG hsz (by decide);unfold tR setAddHashedIn;refine d_ (aj (fX M rfl hf ?_));dsimp only;rw[byScan_of (knd:=cn P w) (x:=.str x g) rfl hb fk];simp only[if_true];unfold setAddByScan;refine aj (aj (lu (aj (KH mU M rfl hf fk ?_))));have D:x∈n↔∃e∈m.toList,(cn P w).is x e.2=ag:=by
  rw[<-hp.mem_iff,yt N x];constructor
  .grind
  .rintro⟨e,he,q⟩;obtain⟨y,t',ey⟩:=N.all e.2 (cX.mpr ⟨e,he,rfl⟩)
   grind
 have klen:n.length=m.size:=by
  have T:=hp.length_eq;have O:ss.length=m.size:=by rw[<-N.strs];simp
  simp_all
 cases hr:List.findIdx? (λe=>(cn P w).is x e.2) m.toList with
 |some j=>dsimp only;obtain⟨hj,wI,_⟩:=D6.mp hr;have hx:x∈n:=D.mpr ⟨_,rJ hj,wI⟩;refine aq (aq ?_);exact h s.heap _ (pB a s.heap) (by unfold iP;rw[if_pos hx];exact S)
 |none=>
  dsimp only;have hx:¬x∈n:=λhm=>by
   grind
  have G:∀(b:Bool) {i:ak}{Q':Unit->ak->Prop},Q' () i->ao (ar P w) A (match b with|ag=>rule "set.scan.the-table-gave-way" |ai=>pure ()) Q' E i :=
   λb i Q' hq=>by cases b <;> first|exact aq hq|exact lu hq
  have B:=layNew_perm t m ((cn P w).hash x) (.str x g);have H:=layNew_fits t m ((cn P w).hash x) (.str x g);have X:=Nv t m ((cn P w).hash x) (.str x g);generalize hL:layNew t m ((cn P w).hash x) (.str x g)=L at B H X ⊢;obtain⟨c,Z,f,gave⟩:=L;dsimp only at B H X ⊢;rw[KI]at B;have u:ElemsOf (cn P w) c.toList:=(fk.push mU rfl).perm B;have EQ:c.size=m.size+1:=by have:=B.length_eq;simpa using this
  have hS1:∃C,bR (c.toList.map (·.2)) C/\C.Perm (iP n x):=by
   have p1:=B.map (λe:Int×af=>e.2);rw[v6]at p1;have q1:bR (m.toList.map (·.2)++[Value.str x g]) (ss++[x]):=by
    have gen:∀{Y:List af}{W:List Str},bR Y W->bR (Y++[Value.str x g]) (W++[x]):=by
     intro Y W hh
     induction hh with
     |nil=>exact .cons x g .nil
     |cons y t _ ih=>exact .cons y t ih
    exact gen N
   obtain⟨C,J,I⟩:=uH p1 q1;refine⟨C,J,I.trans ?_⟩;unfold iP;rw[if_neg hx];exact hp.append_right _
  obtain⟨C,J,I⟩:=hS1;have b7:iP n x≠[]:=by unfold iP;simp_all
  have p:∀d:b9,d.fits c.size=ag->d.led=(!cR w)->d.plain=ai->ao (ar P w) A (do
    storeSet a c d
    if(!f&&d.tooFull)=ag then do
      (match (tQ d c (og c.size)).2.2 with|ag=>rule "set.scan.the-table-gave-way" |ai=>pure ())
      storeSet a (tQ d c (og c.size)).1 (tQ d c (og c.size)).2.1
      pure (aa ag)
     else pure (aa ag)) (λr s'=>∃l,r=aa ag/\s'={s with heap:=l}/\eG a s.heap l/\bB P w l a (iP n x)) E s:=by
   intro d oF g7 fi;refine aj (pC M rfl ?_ (rK (gG (show c.size<4090 by lia) (by decide))));have o1:=bB.put (es':=c) (t':=d) M;have jb:=iI s.heap a (zw c d);split
   .have F:=relayAll_perm d c (og c.size);have v:=relayAll_fits d c (og c.size);have o:=RA d c (og c.size) fi;generalize hRl:tQ d c (og c.size)=Rl at F v o ⊢;obtain⟨z,t3,gave2⟩:=Rl;dsimp only at F v o ⊢;have hsz2:z.size=c.size:=by have:=F.length_eq;trivial
    refine aj (G _ ?_);refine aj (pC o1 rfl ?_ (rK (gG (show z.size<4090 by lia) (by decide))));obtain⟨eP,u1,u2⟩:=uH (F.map (λe:Int×af=>e.2)) J;refine aq ⟨_,rfl,rfl,jb.trans (iI _ a _),⟨z,_,t3,eP,bB.put o1,u1,u2.trans I,u.perm F,∅,v,o.1.trans g7,λ_=>o.2⟩⟩
   .exact aq ⟨_,rfl,rfl,jb,⟨c,_,d,C,o1,J,I,u,∅,oF,g7,λ_=>fi⟩⟩
  have Lm:Z.led=(!cR w):=X.1.trans fM;refine aj (G _ ?_);split
  .refine aj ?_;rw[hashByValue_scannable 8 (x:=.str x g) rfl];refine aq ?_;have hk:plainKind (.str x g)=ai:=rfl;rw[hk];simp only[fh,if_false];refine aP (p {Z with plain:=ai} (SetTable.fits_plain_off H) Lm rfl) λr s' ⟨l,T,O,e3,e4⟩=>?_;subst T O;exact aq (h l _ e3 e4)
  .rename_i ER;refine aj (aq ?_);simp only[if_true];refine aP (p Z H Lm (~~~ER)) λr s' ⟨l,T,O,e3,e4⟩=>?_;subst T O;exact aq (h l _ e3 e4)
end
def met(val:Nat->Str)(i:Nat):List Str:=((ce i).map val).foldl iP []
theorem IJ(val:Nat->Str)(i:Nat):met val (i+1)=iP (met val i) (val i):=by unfold met;rw[rG,v6,v_];rfl
theorem Hi(val:Nat->Str):∀{j:Nat},i<=j->(met val i).length<=(met val j).length
 |0,h=>⋯
 |j+1,h=>by
  by_cases e:i=j+1
  .subst e;simp
  .refine dD (Hi val (j:=j) ∅) ?_;rw[IJ];unfold iP;split
   all_goals simp
section
variable{P:aM}{w:aD}{A:aZ}{R:Result->ak->Prop}{I:ab}{c a:List ab}{G:Array GenState->Array GenState->Prop}{n:Nat}{d:Nat->af->Prop}{St:Nat->ak->Prop}
theorem GT(W:WalksS P w A.in1 I c a G n d St)(S:ab)(C:S∉c){J:Nat->ax->Prop}(H:∀i h j,J i h->(∀b o,b∉a->h.get? b=aa o->j.get? b=aa o)->J i j)(N:∀(i:Nat) (v:af) (s:ak) (E:af->ak->Prop) (Q:Bool->ak->Prop),i<n->d i v->J i s.heap->(∀j r b,s.toks<=r->eG S s.heap j->J (i+1) j->Q b {s with heap:=j,toks:=r})->ao (ar P w) A.in1 (setAdd S v) Q E s):∀(k i:Nat) (s:ak),n-i=k->i<=n->St i s->J i s.heap -> (∀f,Moved (S::a) G s f->J n f.heap->R (.ok (.ret .none)) f)->pq (ar P w) A (.builtin "set.update.loop" ⟨[.ref S,.ref I],[]⟩) R s:=by
 have Y:S∉a:=λh=>C (W.sub _ h);have F:∀b∈a,b∈S::a:=λb g=>gr _ g;intro k
 induction k with
 |zero=>
  intro i s T X x y z;obtain rfl:i=n:=∅
  refine pD V9 ?_;rw[rL KJ _];show ao _ A.in1 (mJ (.ref I) >>= _) _ _ s;refine aj (W.done s _ _ x λf p=>?_);show ao _ A.in1 (ret Value.none) _ _ f;exact aq (z f (p.mono F) (H _ _ _ y λb o g e=>p.heap b o g e))
 |succ k O=>
  intro i s T X x y z;have B:i<n:=∅
  refine pD V9 ?_;rw[rL KJ _];show ao _ A.in1 (mJ (.ref I) >>= _) _ _ s;refine aj (W.item i s _ _ B x λv f Z l p=>?_);show ao _ A.in1 (kl [v] (setAdd S v) >>= _) _ _ f;refine aj (d_ (N i v f _ _ B Z (H _ _ _ y λb o g e=>p.heap b o g e) λj r b D L M=>?_));refine aq ⟨rM KJ _,O (i+1) _ ∅ B (W.frame _ f _ _ l D λb g o e=>?_) M λu m q=>?_⟩
  .rw[L.2 b (λh:b=S=>C ⋯)];exact e
  .refine z u (Moved.trans W.gtrans ((p.mono F).then_heap D λb o g e=>?_) m) q;rw[L.2 b (λh:b=S=>g ⋯)];exact e
end
section
variable{s:ak}
theorem PF(a:af) (h:bB P w (s.heap.push {cls:=.type "set",dict:=ac,data:=.set #[] 0 (.fresh 0 0 (!cR w))}) s.heap.objs.size [] -> Q (.ref s.heap.objs.size) {s with heap:=s.heap.push {cls:=.type "set",dict:=ac,data:=.set #[] 0 (.fresh 0 0 (!cR w))}}):pq (ar P w) A (.call (.builtin "set.__new__") ⟨[.type "set",a],[]⟩) (wants Q E) s:=by
 refine codeAny_of_tree ?_;show ao _ A.in1 (do checkBuiltinCall "set.__new__" ⟨[.type "set",a],[]⟩;again (.builtin "set.__new__" ⟨[.type "set",a],[]⟩)) _ _ s;refine aj (iY (PySem.F.newCall_set_1 a) (aq ⟨rM F.plain_set_new _,pD F.entry_set_new ?_⟩));rw[rL F.plain_set_new _];unfold Builtin.«set.__new__» Builtin.Frozenset.newClass;have i:=zx;obtain⟨j,g,d,c,f⟩:=s;dsimp only
 wp_walk
 refine lv (aq ?_);dsimp only;simp only[newObj];refine aj (D1 (aq ?_));refine aq (h ⟨#[],0,_,[],bU _ rfl,.nil,mP _,λe b=>by simp at b,by decide,rfl,rfl,λh=>absurd rfl h⟩)
end
end L2
set_option maxHeartbeats 8000000
namespace L2
theorem L8:entryFor table "set.__iter__"=aa Builtin.«frozenset.__iter__»:=D7 (id':="frozenset.__iter__") (by kernel_rfl) rfl (by decide +kernel) (by kernel_rfl)
theorem GG:Slot "set_iterator" "__next__" "set_iterator.__next__" :=
 .of (owner:="set_iterator") (n:="__next__") (by rw[typeLookup_type,builtinLookup_eq_fast];kernel_rfl) (by decide +kernel) (by decide +kernel) (by decide +kernel) (by first|exact .inl (by decide +kernel)|exact .inr (by decide +kernel)) (by rw[isSubtype_type];kernel_rfl)
theorem P6:entryFor table "set_iterator.__next__"=aa Builtin.«set_iterator.__next__»:=entryFor_of_fast (by kernel_rfl)
theorem Ra(a:af):argsOk "set_iterator.__next__" ⟨[a],[]⟩:=by unfold argsOk;kernel_rfl
theorem E4:Slot "set_iterator" "__iter__" "set_iterator.__iter__" :=
 .of (owner:="set_iterator") (n:="__iter__") (by rw[typeLookup_type,builtinLookup_eq_fast];kernel_rfl) (by decide +kernel) (by decide +kernel) (by decide +kernel) (by first|exact .inl (by decide +kernel)|exact .inr (by decide +kernel)) (by rw[isSubtype_type];kernel_rfl)
theorem Q6:entryFor table "set_iterator.__iter__"=aa Builtin.«dict_keyiterator.__iter__»:=D7 (id':="dict_keyiterator.__iter__") (by kernel_rfl) rfl (by decide +kernel) (by kernel_rfl)
theorem LK(a:af):argsOk "set_iterator.__iter__" ⟨[a],[]⟩:=by unfold argsOk;kernel_rfl
noncomputable def kL(first:af)(i:Nat)(a:ab)(n b:Nat):Obj:={cls:=.type "set_iterator",data:=.fields #[first,.int i 0,.ref a,.int n 0,.int b 0]}
section
variable{A:aZ}{s:ak}
theorem xf(h:s.heap.get? I=aa (kL first i a n d))(c:Q (.ref I) s):ao (ar P w) A (mK (.ref I)) Q E s:=by
 have b:s.TypeIs (.ref I) "set_iterator":=⟨_,h,rfl⟩
 refine KL b E4 (jm E4 b Q6 ?_ (LK _));show ao _ _ (ret (.ref I)) _ _ s;exact aq ⟨_,rfl,"set_iterator",_,b,GG.lookup,c⟩
theorem qz(n:s.heap.get? a=aa {cls:=.type "set",dict:=ac,data:=.set f g t})(m:t.fits f.size=ag)(l:s.heap.get? I=aa (kL first i a f.size g))(h:ao (ar P w) A.in1 (if let .int slot _:=first then do
    match <-oh a slot.toNat (i:Int).toNat (g:Int).toNat with
    |some (x,next)=>do
     lZ (.ref I) 0 (df next)
     lZ (.ref I) 1 (df ((i:Int)+1))
     ret x
    |none=>do lZ (.ref I) 2 .none;wa (<-rN (.type "StopIteration") [])
   else do
    let aa places <-zy first|l0 "internal:set_iterator"
    match places[(i:Int).toNat]? with
    |some (.int d _)=>do
     let x <-setNextDrawn a d.toNat (g:Int).toNat
     lZ (.ref I) 1 (df ((i:Int)+1))
     ret x
    |some _=>l0 "internal:set_iterator"
    |none=>do lZ (.ref I) 0 (df 0);lZ (.ref I) 2 .none;wa (<-rN (.type "StopIteration") []))
   (λc b=>∃r,c=.done (.ret r)/\Q (aa r) b) (λe b=>ao (ar P w) A (do if <-isInstance e (.type "StopIteration")then pure ac else throw e) Q E b) s) :
  ao (ar P w) A (mJ (.ref I)) Q E s:=by
 have j:s.TypeIs (.ref I) "set_iterator":=⟨_,l,rfl⟩
 unfold mJ;refine aj (D8 (tG (name:=mN "__next__") j GG (jm GG j P6 ?_ (Ra _))));unfold Builtin.«set_iterator.__next__» slotArgs;refine aj (aq ?_);refine aj (wpAny_fieldsOf l rfl ?_);show ao _ _ (setEntries a >>= _) _ _ s;refine aj (D9 n rfl m ?_);have u:(((f.size:Nat):Int) != ((f.size:Nat):Int))=ai:=by simp
 rw[u];simp only[fh,if_false];refine eU ?_ (λc b q=>?_) (λe b q=>q) (Q:=λc b=>∃r,c=.done (.ret r)/\Q (aa r) b) (E:=λe b=>ao (ar P w) A (do if <-isInstance e (.type "StopIteration")then pure ac else throw e) Q E b)
 .exact h
 .obtain⟨r,p,o⟩:=q;exact⟨r,p,aq o⟩
end
theorem CN{a:Type}:∀{l:List a}{i:Nat} (h:i<l.length),(l[i]::l.eraseIdx i).Perm l
 |[],i,h=>by simp at h
 |x::r,0,h=>by rfl
 |x::r,i+1,h=>by have q:=CN (l:=r) (i:=i) (~~~h);simp only[List.getElem_cons_succ,D_];exact(List.Perm.swap x _ _).trans (List.Perm.cons x q)
theorem G5(next:Nat->Nat):∀(c k:Nat) (a:List d) (b:Array d),c=a.length->(pickOrder.go next c k a b).toList.Perm (b.toList++a)
 |0,k,a,b,h=>by have:a=[]:=D4 h.symm;subst this;simp[pickOrder.go]
 |c+1,k,a,b,h=>by
  have f:next k % a.length<a.length:=oj _ ∅
  unfold pickOrder.go;rw[eh f];dsimp only;have g:=G5 next c (k+1) (a.eraseIdx (next k % a.length)) (b.push a[next k % a.length]) (by grind)
  refine g.trans ?_;rw[KI,KM];exact List.Perm.append_left _ (CN f)
theorem Bb(next:Nat->Nat)(a:Array b):(zz next a).toList.Perm a.toList:=by
 have:=G5 next a.size 0 a.toList #[] (by rfl)
 trivial
section
variable{A:aZ}{s:ak}
theorem Sx(b:n≠0)(h:∀k d,k<n->Q k {s with drawn:=d}):ao (ar P w) A (choose a n) Q E s:=λc p hΓ=>by unfold choose;rw[Sem.wp_choose];refine⟨b,?_⟩;exact h _ _ (oj _ (Nat.pos_of_ne_zero b))
theorem GY:∀(n:Nat) (a:List c) (s:ak) (Q:List c->ak->Prop),n=a.length->(∀b d,b.Perm a->Q b {s with drawn:=d})->ao (ar P w) A (drawOrder n a) Q E s
 |0,[],s,Q,_,h=>by unfold drawOrder;exact aq (h [] s.drawn (mP _))
 |0,x::a,s,Q,hn,h=>by simp at hn
 |n+1,[],s,Q,hn,h=>by simp at hn
 |n+1,x::a,s,Q,hn,h=>by unfold drawOrder;refine aj (Sx (by simp) λk d f=>?_);rw[eh f];dsimp only;refine aj (GY n ((x::a).eraseIdx k) _ _ (by grind) λb i g=>?_);refine aq (h _ i ?_);exact(List.Perm.cons _ g).trans (CN f)
theorem xq{Q:Option af->ak->Prop}{R:Fin->ak->Prop}(f:A.handled=ac)(g:∀c,(∀b o,s.heap.get? b=aa o->c.get? b=aa o)->Q ac {s with heap:=c}):ao (ar P w) A.in1 (do wa (<-rN (.type "StopIteration") [])) R (λe d=>ao (ar P w) A (do if <-isInstance e (.type "StopIteration")then pure ac else throw e) Q E d) s:=by refine aj ?_;simp only[rN,newTuple];refine aj (jW ?_ (by size_fits));refine aj (m:=zA _ _) (iY (a:=Value.none) (by trivial) ?_);refine jW ?_ (by size_fits);simp only[wa];refine aj (wpAny_handled ?_);rw[show A.in1.handled=ac from f];refine aj (aq (wpAny_throw ?_));refine aj (rO (T:="StopIteration") (b:=ag) ⟨_,bU _ rfl,rfl⟩ isSubtype_stop ?_);exact aq (g _ λb o e=>bi _ (bi _ e))
theorem Cf(c:s.heap.get? I=aa (kL first i a n f))(h:∀b,eG I s.heap b->b.get? I=aa (kL d i a n f)->Q () {s with heap:=b}):ao (ar P w) A (lZ (.ref I) 0 d) Q E s:=by refine om c rfl (by simp) (h _ (iI ..) ?_);rw[n8 _ c (by rfl)];rfl
theorem A9(c:s.heap.get? I=aa (kL first i a n d))(h:∀b,eG I s.heap b->b.get? I=aa (kL first (i+1) a n d)->Q () {s with heap:=b}):ao (ar P w) A (lZ (.ref I) 1 (df ((i:Int)+1))) Q E s:=by refine om c rfl (by simp) (h _ (iI ..) ?_);rw[n8 _ c (by rfl)];rfl
theorem xT(c:s.heap.get? I=aa (kL first i a n d))(h:∀b,eG I s.heap b->(∃o,b.get? I=aa o)->Q () {s with heap:=b}):ao (ar P w) A (lZ (.ref I) 2 .none) Q E s:=by refine om c rfl (by simp) (h _ (iI ..) ⟨_,n8 _ c (by rfl)⟩)
noncomputable abbrev qL(a:Array (Int×af))(b:Nat)(t:b9):Obj:={cls:=.type "set",dict:=ac,data:=.set a b t}
theorem R1{d:Array (Int×af)}{f:Nat}{t:b9}(y:a≠I)(n:t.fits d.size=ag)(g:cR w=ag)(B:A.handled=ac):Walks P w A I [I,a] [I] d.size (λi v=>((zz (w.params.setOrder a f) d).toList.map (·.2))[i]?=aa v) (λi h=>h.get? I=aa (kL (df 0) i a d.size f)/\h.get? a=aa (qL d f t)):=by
 have hsz:(zz (w.params.setOrder a f) d).size=d.size:=by have:=(Bb (w.params.setOrder a f) d).length_eq;trivial
 have j:∀(s:ak) (i:Nat) (Q:Option (af×Nat)->ak->Prop) (E:af->ak->Prop),s.heap.get? a=aa (qL d f t) ->
   Q (((zz (w.params.setOrder a f) d)[i]?).map λe=>(e.2,0)) s->ao (ar P w) A.in1 (oh a (0:Int).toNat (i:Int).toNat (f:Int).toNat) Q E s:=λs i Q E r F=>by
  unfold oh;refine aj (fX r rfl n ?_);unfold oq;refine aj (aj (lv (aq ?_)));show ao _ _ (if cR w=ag then _ else _) _ _ s;rw[if_pos g];simp only[mO,bne_self_eq_false,fh,if_false];unfold setWalk;refine aj (aj (fX r rfl n ?_));unfold oq;refine aj (aj (lv (aq ?_)));show ao _ _ (if cR w=ag then _ else _) _ _ s;rw[if_pos g];refine aj (lv (aq (aq ?_)));trivial
 refine⟨λb g=>⋯,λi h H c k=>⟨k I (by simp) _ c.1,k a (by simp) _ c.2⟩,λi s Q E G c l=>?_,λs Q E c l=>?_,λi s Q E c l=>xf c.1 l⟩
 .refine qz c.2 n c.1 ?_;refine aj (j s i _ _ c.2 ?_);have x:i<(zz (w.params.setOrder a f) d).size:=⋯
  rw[jY x];dsimp only[mQ];refine aj (Cf c.1 λq m D=>?_);refine aj (A9 (s:={s with heap:=q}) D λp u C=>?_);refine aq ⟨_,rfl,l _ p s.toks ?_ ⟨C,?_⟩ λb o g e=>?_⟩
  .rw[cT];simp[jY x]
  .exact(u.2 a y).trans ((m.2 a y).trans c.2)
  .exact(u.2 b (~~~g)).trans ((m.2 b (~~~g)).trans e)
 .refine qz c.2 n c.1 ?_;refine aj (j s d.size _ _ c.2 ?_);rw[Array.getElem?_eq_none ∅];dsimp only[Option.map_none];refine aj (xT c.1 λq m _=>?_);exact xq (s:={s with heap:=q}) B λp z=>l p s.toks λb o g e=>z b o ((m.2 b (~~~g)).trans e)
theorem VX{f:Array (Int×af)}{J:Nat}{t:b9}{c:List Nat}(b7:a≠I)(hT:T≠I)(B:t.fits f.size=ag)(G:c.Perm (ce f.size))(Z:A.handled=ac):Walks P w A I [I,a,T] [I] f.size (λi v=>(c.filterMap λj=>(f[j]?).map (·.2))[i]?=aa v) (λi h=>h.get? I=aa (kL (.ref T) i a f.size J)/\h.get? a=aa (qL f J t)/\h.get? T=aa {cls:=.type "tuple",data:=.seq (c.map λ(k:Nat)=>df k).toArray}):=by
 have M:c.length=f.size:= ~~~G.length_eq
 have n:∀j∈c,j<f.size:=λj z=>by simpa using G.mem_iff.mp z
 have fm:∀(l:List Nat),(∀j∈l,j<f.size)->∀(i j:Nat),l[i]?=aa j->∃e:Int×af,f[j]?=aa e/\(l.filterMap λj=>(f[j]?).map (·.2))[i]?=aa e.2:=by
  intro l
  induction l with
  |nil=>intro _ i j h;simp at h
  |cons x r S=>
   intro H i j h;have W:x<f.size:=H x (ii ..);have D:f[x]?=aa f[x]:=jY W;cases i with
   |zero=>simp at h;subst h;exact⟨_,D,by rw[lm,D];rfl⟩
   |succ i=>obtain⟨e,y,F⟩:=S (λj z=>H j (gr _ z)) i j (by trivial);exact⟨e,y,by rw[lm,D];trivial⟩
 have g:∀(s:ak) (Q:Option (Array af)->ak->Prop) (E:af->ak->Prop),s.heap.get? T=aa {cls:=.type "tuple",data:=.seq (c.map λ(k:Nat)=>df k).toArray}->Q (aa (c.map λ(k:Nat)=>df k).toArray) s->ao (ar P w) A.in1 (zy (.ref T)) Q E s:=λs Q E X Y=>by exact pF X rfl Y
 refine⟨λb m=>by simp at m;simp[m],λi h h' d k=>⟨k I (by simp) _ d.1,k a (by simp) _ d.2.1,k T (by simp) _ d.2.2⟩,λi s Q E hi d p=>?_,λs Q E d p=>?_,λi s Q E d p=>xf d.1 p⟩
 .refine qz d.2.1 B d.1 ?_;refine aj (g s _ _ d.2.2 ?_);have L:i<c.length:=⋯
  have q:((c.map λ(k:Nat)=>df k).toArray)[(i:Int).toNat]?=aa (df (c[i]:Nat)):=by simp[L]
  dsimp only;rw[q];obtain⟨e,y,F⟩:=fm c n i c[i] (eh L);show ao _ _ (setNextDrawn a _ _ >>= _) _ _ s;refine aj ?_;unfold setNextDrawn;refine aj (fX d.2.1 rfl B ?_);simp only[mO,bne_self_eq_false,fh,if_false];rw[y];refine aq ?_;refine aj (A9 d.1 λC u e2=>?_);refine aq ⟨_,rfl,p _ C s.toks F ⟨e2,(u.2 a b7).trans d.2.1,(u.2 T hT).trans d.2.2⟩ λb o m e=>(u.2 b (~~~m)).trans e⟩
 .refine qz d.2.1 B d.1 ?_;refine aj (g s _ _ d.2.2 ?_);have q:((c.map λ(k:Nat)=>df k).toArray)[(f.size:Int).toNat]?=ac:=by simp[M]
  dsimp only;rw[q];refine aj (Cf d.1 λh1 O q=>?_);refine aj (xT (s:={s with heap:=h1}) q λC u _=>?_);exact xq (s:={s with heap:=C}) Z λh3 N=>p h3 s.toks λb o m e=>N b o ((u.2 b (~~~m)).trans ((O.2 b (~~~m)).trans e))
theorem M_(j k:Nat):jn #[j] k=if j<k then 1 else 0:=by unfold jn;simp only[eJ,gH,v3];rfl
theorem Ny{g:Array (Int×af)}{n:Nat}{t:b9}(L:a≠I)(u:t.fits g.size=ag)(f:cR w=ai)(W:t.led=ag)(m:g.size=1)(S:A.handled=ac):Walks P w A I [I,a] [I] 1 (λi v=>(g.toList.map (·.2))[i]?=aa v) (λi h=>h.get? I=aa (kL (df (if i=0 then 0 else((t.place.getD 0 0:Nat):Int)+1)) i a g.size n)/\h.get? a=aa (qL g n t)):=by
 have M:t.place.size=1:=by simp only[pG,iX,beq_iff_eq]at u;simp_all
 obtain⟨j,D⟩:=Array.size_eq_one_iff.mp M;have G:((t.place.getD 0 0:Nat):Int)=(j:Int):=by rw[D];rfl
 obtain⟨e,F⟩:=Array.size_eq_one_iff.mp m;have l:∀(s:ak) (d:Nat) (i:Nat) (Q:Option (af×Nat)->ak->Prop) (E:af->ak->Prop),s.heap.get? a=aa (qL g n t) ->
   Q (if j<d then ac else aa (e.2,j+1)) s->ao (ar P w) A.in1 (oh a d i n) Q E s:=λs d i Q E T r=>by
  unfold oh;refine aj (fX T rfl u ?_);unfold oq;refine aj (aj (lv (aq ?_)));show ao _ _ (if cR w=ag then _ else _) _ _ s;rw[if_neg (by rw[f];simp)];refine fK (λy=>absurd (show(!t.plain&&decide (g.size > 1))=ag from y) (by rw[m];simp)) (λ_=>?_);refine aj ?_;refine eU (Q:=λ_ C=>C=s) (E:=E) ?_ (λ_ C O=>?_) (λ_ _ x=>x)
  .refine fK (λy=>absurd (show(!t.led&&!g.isEmpty)=ag from y) (by rw[W];simp)) (λ_=>aq rfl)
  .subst O;rw[D,M_,F];by_cases J:j<d
   .rw[if_pos J]at r ⊢;exact aq r
   .rw[if_neg J]at r ⊢;exact aq r
 refine⟨λb f=>by simp at f;simp[f],λi h Z c k=>⟨k I (by simp) _ c.1,k a (by simp) _ c.2⟩,λi s Q E Y c p=>?_,λs Q E c p=>?_,λi s Q E c p=>xf c.1 p⟩
 .obtain rfl:i=0:=⋯
  refine qz c.2 u c.1 ?_;show ao _ _ (oh a (0:Int).toNat ((0:Nat):Int).toNat (n:Int).toNat >>= _) _ _ s;simp only[mO,Int.toNat_zero];refine aj (l s 0 0 _ _ c.2 ?_);rw[if_neg (l9 j)];dsimp only;refine aj (Cf c.1 λm q B=>?_);refine aj (A9 (s:={s with heap:=m}) B λz H X=>?_);refine aq ⟨_,rfl,p _ z s.toks ?_ ⟨?_,?_⟩ λb o f e=>?_⟩
  .rw[F];rfl
  .rw[X,if_neg (by decide),G];rfl
  .exact(H.2 a L).trans ((q.2 a L).trans c.2)
  .exact(H.2 b (~~~f)).trans ((q.2 b (~~~f)).trans e)
 .refine qz c.2 u c.1 ?_;rw[if_neg (by simp),G];show ao _ _ (oh a ((j:Int)+1).toNat ((1:Nat):Int).toNat (n:Int).toNat >>= _) _ _ s;have B:((j:Int)+1).toNat=j+1:=by rfl
  rw[B,mO,mO];refine aj (l s (j+1) 1 _ _ c.2 ?_);rw[if_pos (KO j)];dsimp only;refine aj (xT c.1 λm q _=>?_);exact xq (s:={s with heap:=m}) S λz N=>p z s.toks λb o f e=>N b o ((q.2 b (~~~f)).trans e)
theorem yk:∀{a:List af}{b:List Str} (i:Nat) (v:af),bR a b->a[i]?=aa v->∃t,v=.str (b.getD i iU) t
 |_,_,i,v,.nil,h=>by trivial
 |_,_,0,v,.cons y t _,h=>by grind
 |_,_,i+1,v,.cons y t hr,h=>by simp only[List.getElem?_cons_succ]at h;obtain⟨c,e⟩:=yk i v hr h;exact⟨c,by trivial⟩
theorem S8{h:ax}(x:h.IsTuple l a):(h.push o).IsTuple l a:=let ⟨ob,e,r⟩:=x;⟨ob,bi _ e,r⟩
set_option maxRecDepth 100000 in
theorem Dk(hh:A.handled=ac)(z:s.heap.IsList l a\/s.heap.IsTuple l a){J:Nat->ax->Prop}(hJ:∀i h d,J i h->(∀b o,b<=s.heap.objs.size->h.get? b=aa o->d.get? b=aa o)->J i d) (W:J 0 (s.heap.push {cls:=.type "set",dict:=ac,data:=.set #[] 0 (.fresh 0 0 (!cR w))}))(mV:∀(i:Nat) (v:af) (f:ak) (E:af->ak->Prop) (Q:Bool->ak->Prop),i<a.size->a[i]?=aa v->J i f.heap->(∀d j b,f.toks<=j->eG s.heap.objs.size f.heap d->J (i+1) d->Q b {f with heap:=d,toks:=j})->ao (ar P w) A.in1.in1.in1 (setAdd s.heap.objs.size v) Q E f)(h:∀(d:ax) (j:Nat),J a.size d->(∀b o,b<s.heap.objs.size->s.heap.get? b=aa o->d.get? b=aa o)->Q (.ref s.heap.objs.size) {s with heap:=d,toks:=j}):ao (ar P w) A (call (.type "set") [.ref l]) Q E s:=by
 obtain⟨c,tl,hmro⟩:=F.called_set.mro;have N:=F.called_set.made;have kw:=F.called_set.sub;refine wpAny_call (codeAny_of_tree ?_);show ao _ _ (callAny (.type "set") _) _ _ _;refine aq ⟨Code.quiet_builtin _ (by decide +kernel),pD F.entry_type_call ?_⟩;rw[Around.under_plain (weight_type_call_type "set" [.ref l] []) rfl];have h1:=F.called_set.notType;have h2:=F.called_set.canCreate;have hct:=PySem.F.typeCall_set_1 (.ref l)
 repeat any_goals (first|assumption|wp_step)
 refine zd (PF (P:=P) (w:=w) (.ref l) (E:=E) (Q:=λm f=>m=.ref s.heap.objs.size/\f={s with heap:=s.heap.push {cls:=.type "set",dict:=ac,data:=.set #[] 0 (.fresh 0 0 (!cR w))}}/\True) λS0=>⟨rfl,rfl,trivial⟩) λr f M=>?_;cases r with
 |error e=>exact M
 |ok fl=>
  cases fl with
  |ret m=>
   obtain⟨rfl,rfl,S0⟩:=M;have hS:=bU (h:=s.heap) (o:=({cls:=.type "set",dict:=ac,data:=.set #[] 0 (.fresh 0 0 (!cR w))}:Obj));have S:(s.heap.push {cls:=.type "set",dict:=ac,data:=.set #[] 0 (.fresh 0 0 (!cR w))}).get? s.heap.objs.size=aa {cls:=.type "set",dict:=ac,data:=.set #[] 0 (.fresh 0 0 (!cR w))}:=bU _ rfl;have hT:Shared.TypeIs {s with heap:=s.heap.push {cls:=.type "set",dict:=ac,data:=.set #[] 0 (.fresh 0 0 (!cR w))}} (.ref s.heap.objs.size) "set":=⟨_,S,rfl⟩
   have hli:=F.called_set.init.lookup;have hbi:=F.called_set.init.bind (.ref s.heap.objs.size)
   repeat any_goals (first|assumption|wp_step)
   refine zd (codeAny_call_builtin (R:=wants (λr Z=>r=.none/\∃d j,Z={s with heap:=d,toks:=j}/\J a.size d /\ (∀b o,b<s.heap.objs.size->s.heap.get? b=aa o->d.get? b=aa o)) E) F.called_set.init.plain F.entry_set_init (check_set_init_1 hT ?_)) λr2 Z C=>?_
   .rcases z with z|z
    all_goals
     obtain⟨⟨ocls,H,I,u⟩,pQ,pP,x,pS⟩:=z;simp only at pP pS;subst pP;subst pS;have q:=bi ({cls:=.type "set",dict:=ac,data:=.set #[] 0 (.fresh 0 0 (!cR w))}:Obj) pQ;have hsls:=PySem.F.sub_list_set;have hslf:=PySem.F.sub_list_frozenset;have b7:(Value.type "list" == Value.type "dict")=ai:=by decide
     have hsl2:=PySem.F.sub_tuple_set;have hsl3:=PySem.F.sub_tuple_frozenset;have hn2:(Value.type "tuple" == Value.type "dict")=ai:=by decide
     unfold Builtin.«set.__init__» noKeywords Builtin.Frozenset.updateFrom;generalize T:mK=PI
     wp_walk
     subst T
     first|refine zo ⟨_,q,rfl,x,rfl⟩ (aj (wpAny_runValue ?_))|refine tT ⟨_,q,rfl,x,rfl⟩ (aj (wpAny_runValue ?_))
     have n:l<s.heap.objs.size:=bu pQ;have p:A.in1.in1.in1.handled=ac:=by simp[hh]
     have g:(s.heap.push {cls:=.type "set",dict:=ac,data:=.set #[] 0 (.fresh 0 0 (!cR w))}).objs.size=s.heap.objs.size+1:=rF ..;have Lv:l≠(s.heap.push {cls:=.type "set",dict:=ac,data:=.set #[] 0 (.fresh 0 0 (!cR w))}).objs.size:=by rw[g];exact cr (v7 n)
     have Y:s.heap.objs.size∉[(s.heap.push {cls:=.type "set",dict:=ac,data:=.set #[] 0 (.fresh 0 0 (!cR w))}).objs.size,l]:=by rw[g];simp only[b8,pH,fL,or_false,not_or];exact⟨cr (KO _),ln n⟩
     first|refine GT (J:=J) (zp p _ l Lv a).toS s.heap.objs.size Y ?_ ?_ (a.size-0) 0 _ ∅ (gW _) ⟨⟨_,bU _ rfl,rfl,rfl⟩,Heap.IsList.push ⟨_,q,rfl,x,rfl⟩ _⟩ ?_ ?_|refine GT (J:=J) (Walks.tuple p _ l Lv a).toS s.heap.objs.size Y ?_ ?_ (a.size-0) 0 _ ∅ (gW _) ⟨⟨_,bU _ rfl,rfl,rfl⟩,S8 ⟨_,q,rfl,x,rfl⟩⟩ ?_ ?_
     .exact λi h d O k=>hJ i h d O λb o B e=>k b o (by rw[g];simp only[pH];exact cr (Nat.lt_succ_of_le B)) e
     .exact λi v f E Q hi hv O hq=>mV i v f E Q hi hv O hq
     .exact hJ 0 _ _ W λb o _ e=>bi _ e
     intro s' y L;obtain⟨d,g',d',D,G⟩:=s';obtain rfl:g'=s.gens:=y.gens;obtain rfl:d'=s.drawn:=y.drawn;obtain rfl:G=s.os:=y.os;show ao _ _ _ _ _ _;refine aq ?_;show ao _ _ (ret Value.none) _ _ _;refine aq ⟨rfl,d,D,rfl,L,λb o B e=>y.heap b o ?_ (bi _ (bi _ e))⟩;rw[g];simp only[b8,pH,fL,or_false,not_or];exact⟨cr B,cr (v7 B)⟩
   .cases r2 with
    |error e=>exact C
    |ok X=>
     cases X with
     |ret r=>
      obtain⟨rfl,d,j,rfl,L,mZ⟩:=C
      repeat any_goals (first|assumption|wp_step)
      exact h _ _ L mZ
     |_=>exact C.elim
  |_=>exact M.elim
theorem HB{Q:af->ak->Prop}(u:A.handled=ac)(p:s.heap.IsList l a\/s.heap.IsTuple l a)(r:bR a.toList c)(y:(met (λi=>c.getD i iU) a.size).length<4000)(h:∀(d:ax) (j:Nat),bB P w d s.heap.objs.size (met (λi=>c.getD i iU) a.size)->(∀b o,b<s.heap.objs.size->s.heap.get? b=aa o->d.get? b=aa o)->Q (.ref s.heap.objs.size) {s with heap:=d,toks:=j}):ao (ar P w) A (call (.type "set") [.ref l]) Q E s:=by
 refine Dk u p (J:=λi h=>bB P w h s.heap.objs.size (met (λi=>c.getD i iU) i)) (λi h d S k=>S.at λo e=>k _ o (a_ _) e)
  ⟨#[],0,_,[],bU _ rfl,.nil,mP _,λe x=>by simp at x,by decide,rfl,rfl,λh=>absurd rfl h⟩ (λi v f E Q n B S q=>?_) h
 obtain⟨t,rfl⟩:=yk i v r ⋯;unfold setAdd;refine d_ ?_;have m:(cn P w).is (c.getD i iU) (.str (c.getD i iU) t)=ag:=by show re _ (.str _ t)=ag;simp[re]
 refine aj ((cn P w).pyHash (k:=c.getD i iU) m ?_);refine AC (s:={f with toks:=f.toks+1}) S (pt (Hi _ (ig n)) y) λd b z g=>?_;rw[<-IJ (λi=>c.getD i iU)]at g;exact q d _ b (tJ _) z g
end
theorem JC(h:n<=4096):n<bh:=pt h (by decide)
theorem Te:typeLookup (.type "set") "__len__"=pure (aa (.builtin "set.__len__")):=F.slot_set_len.lookup
section
variable{P:aM}{w:aD}{A:aZ}{s:ak}
def qu(w:aD)(h:ax)(a:ab)(b:Array (Int×af)):Prop:=∃(c:Nat) (t:b9),h.get? a=aa {cls:=.type "set",dict:=ac,data:=.set b c t}/\b.size<4090/\t.fits b.size=ag/\t.led=(!cR w)/\(b.size≠0->t.plain=ai)
theorem qu.at{h':ax}(S:qu w h a es)(k:∀o,h.get? a=aa o->h'.get? a=aa o):qu w h' a es:=by obtain⟨ep,t,e,r⟩:=S;exact⟨ep,t,k _ e,r⟩
theorem bB.e(S:bB P w h a b):∃es ss,qu w h a es/\bR (es.toList.map (·.2)) ss/\ss.Perm b:=by
 obtain⟨es,ep,t,ss,f,d,c,m,hsz,g,j,l⟩:=S.ex;refine⟨es,ss,⟨ep,t,f,hsz,g,j,λi=>l λz=>i ?_⟩,d,c⟩;have o:=c.length_eq;have n:ss.length=es.size:=by rw[<-d.strs];simp
 simp_all
structure Ii(P:aM)(w:aD)(s s':ak)(a I:ab)(es:Array (Int×af))(fp:List ab)(n:Nat)(Pv:Nat->af->Prop)(St:Nat->ax->Prop):Prop where
 wk:∀A:aZ,A.handled=ac->Walks P w A I fp [I] n Pv St
 st:St 0 s'.heap
 old:∀b o,s.heap.get? b=aa o->s'.heap.get? b=aa o
 new:s.heap.objs.size<=I
 lt:∀b∈fp,b<s'.heap.objs.size
 rest:s'={s with heap:=s'.heap,drawn:=s'.drawn}
 ord:∀aL:Array af,ItemsOf Pv aL n->aL.toList.Perm (es.toList.map (·.2))
 len:n<4090
 fps:∀b∈fp,b=a\/s.heap.objs.size<=b
theorem yh{l:List af}(b:l.length=n)(h:ItemsOf (λi v=>l[i]?=aa v) a n):a.toList=l:=by
 refine zB λi=>?_;by_cases c:i<n
 .have:i<a.size:=by rw[h.1];trivial
  have q:=h.2 i a[i] (jY this);rw[q];simp
 .rw[mR (by rw[iF,h.1];ac_rfl),mR ⋯]
theorem NQ{d:Array (Int×af)}{t:b9}(M:a≠I)(r:t.fits d.size=ag)(l:cR w=ai)(n:d.size=0)(F:A.handled=ac):Walks P w A I [I,a] [I] 0 (λi v=>(d.toList.map (·.2))[i]?=aa v) (λi h=>h.get? I=aa (kL (df 0) 0 a d.size g)/\h.get? a=aa (qL d g t)):=by
 have u:d=#[]:=Array.eq_empty_of_size_eq_zero n;have j:∀(s:ak) (f:Nat) (i:Nat) (Q:Option (af×Nat)->ak->Prop) (E:af->ak->Prop),s.heap.get? a=aa (qL d g t) ->
   Q ac s->ao (ar P w) A.in1 (oh a f i g) Q E s:=λs f i Q E G C=>by
  unfold oh;refine aj (fX G rfl r ?_);unfold oq;refine aj (aj (lv (aq ?_)));show ao _ _ (if cR w=ag then _ else _) _ _ s;rw[if_neg (by rw[l];simp)];refine fK (λp=>absurd (show(!t.plain&&decide (d.size > 1))=ag from p) (by rw[n];simp)) (λ_=>?_);refine aj ?_;refine eU (Q:=λ_ q=>q=s) (E:=E) ?_ (λ_ q B=>?_) (λ_ _ x=>x)
  .refine fK (λp=>absurd (show(!t.led&&!d.isEmpty)=ag from p) (by rw[u];simp)) (λ_=>aq rfl)
  .subst B;rw[u];have J:∀k:Nat,(#[]:Array (Int×af))[k]?=ac:=λk=>by rfl
   dsimp only;rw[J];exact aq C
 refine⟨λb l=>by grind,λi h L c k=>⟨k I (by simp) _ c.1,k a (by simp) _ c.2⟩,λi s Q E D c m=>absurd D (l9 i),λs Q E c m=>?_,λi s Q E c m=>xf c.1 m⟩;refine qz c.2 r c.1 ?_;show ao _ _ (oh a (0:Int).toNat ((0:Nat):Int).toNat (g:Int).toNat >>= _) _ _ s;simp only[mO,Int.toNat_zero];refine aj (j s 0 0 _ _ c.2 ?_);dsimp only;refine aj (xT c.1 λn z _=>?_);exact xq (s:={s with heap:=n}) F λH y=>m H s.toks λb o l e=>y b o ((z.2 b (~~~l)).trans e)
theorem Qj(S:qu w s.heap a c)(h:∀x I B n C St,Ii P w s x a I c B n C St->Q (.ref I) x):ao (ar P w) A (mK (.ref a)) Q E s:=by
 obtain⟨L,t,l,hsz,p,fM,cp⟩:=S;have O:s.TypeIs (.ref a) "set":=⟨_,l,rfl⟩
 have qA:=bu l;refine KL O F.slot_set_iter (jm F.slot_set_iter O L8 ?_ (F.args_set_iter_1 _));unfold Builtin.«frozenset.__iter__» Builtin.Frozenset.slot0 slotArgs Builtin.Frozenset.addrOf KQ;refine aj (aq ?_);refine aj (aj (D9 l rfl p (aq ?_)));unfold setDrawn;refine aj (aj (fX l rfl p ?_));unfold oq;refine aj (aj (lv (aq ?_)));refine aq ?_;have i:∀(first:af) (u:ak) (B:List ab) (n:Nat) (C:Nat->af->Prop) (St:Nat->ax->Prop),u.heap.get? a=aa {cls:=.type "set",dict:=ac,data:=.set c L t} ->
   Ii P w s {u with heap:=u.heap.push (kL first 0 a c.size L)} a u.heap.objs.size c B n C St ->
   ao (ar P w) A.in1 (do
    let e <-setEpoch a
    let f <-newFields "set_iterator" [first,df 0,Value.ref a,df (c.size:Nat),df (e:Nat)]
    ret f) (λi x=>∃v,i=Fin.done (Flow.ret v)/\∃X r,x.TypeIs v X/\typeLookup (Value.type X) (mN "__next__")=pure (aa r)/\Q v x) E u:=λfirst u B n C St Z W=>by
  refine aj (tU Z rfl p ?_);refine aj (jW ?_);exact aq ⟨_,rfl,"set_iterator",_,⟨_,bU _ rfl,rfl⟩,GG.lookup,h _ _ B n C St W⟩
 refine fK (λH=>?_) (λH=>?_)
 .have Y:(!cR w&&(!t.plain&&decide (c.size > 1)))=ag:=H;refine aj (GY c.size (ce c.size) s _ (by simp) λD d G=>?_);refine aj (wpAny_newTuple ?_ (hsz:=by rw[cy,G.length_eq,List.length_range];exact ig (JC ∅)));refine i _ _ _ _ _ _ (bi _ l) ⟨λN q=>VX (T:=s.heap.objs.size) (cr (by rw[kr];exact v7 qA)) (cr (by simp)) p G q,⟨bU _ rfl,?_,?_⟩,?_,?_,?_,rfl,?_,hsz,?_⟩
  .exact bi _ (bi _ l)
  .exact bi _ (bU _ rfl)
  .exact λb o e=>bi _ (bi _ e)
  .simp
  .intro b g;simp only[b8,fL,or_false]at g;rw[kr,kr];rcases g with rfl|rfl|rfl
   .simp
   all_goals lia
  .intro M m;have e0:(D.filterMap λj=>(c[j]?).map (·.2))=(D.filterMap λj=>c[j]?).map (·.2):=by rw[Ea]
   have y:(D.filterMap λj=>c[j]?).Perm c.toList:=by have:=G.filterMap λj=>c[j]?;rwa[filterMap_getElem?_range]at this
   rw[e0]at m;rw[yh (by rw[cy,y.length_eq];rfl) m];exact y.map _
  simp
 .have Y:¬(!cR w&&(!t.plain&&decide (c.size > 1)))=ag:=H;refine aj (aq ?_);cases g:cR w with
  |true=>
   refine i _ _ _ _ _ _ l ⟨λN q=>R1 (cr qA) p g q,⟨bU _ rfl,bi _ l⟩,λb o e=>bi _ e,a_ _,?_,rfl,?_,hsz,λb g=>?_⟩
   .intro b g;simp only[b8,fL,or_false]at g;rw[kr];lia
   .intro M m;have y:=Bb (w.params.setOrder a L) c;rw[yh (by rw[cy,y.length_eq];rfl) m];exact y.map _
   grind
  |false=>
   have J:c.size=1\/c.size=0:=by lia
   rcases J with z|z
   .refine i _ _ _ _ _ _ l ⟨λN q=>Ny (cr qA) p g ⋯ z q,⟨bU _ rfl,bi _ l⟩,λb o e=>bi _ e,a_ _,?_,rfl,?_,by simp,λb g=>?_⟩
    .intro b g;simp only[b8,fL,or_false]at g;rw[kr];lia
    .intro M m;rw[yh (by simp[z]) m]
    grind
   .refine i _ _ _ _ _ _ l ⟨λN q=>NQ (cr qA) p g z q,⟨bU _ rfl,bi _ l⟩,λb o e=>bi _ e,a_ _,?_,rfl,?_,by simp,λb g=>?_⟩
    .intro b g;simp only[b8,fL,or_false]at g;rw[kr];lia
    .intro M m;rw[yh (by simp[z]) m]
    grind
theorem Ai(H:A.handled=ac)(S:qu w s.heap a m)(h:∀(d:ak) (B:List af),B.Perm (m.toList.map (·.2))->(∀b o,s.heap.get? b=aa o->d.heap.get? b=aa o)->d.gens=s.gens->d.os=s.os->Q B d):ao (ar P w) A (tP (.ref a)) Q E s:=by
 obtain⟨J,t,G,X,_⟩:=id S;have qA:=bu G;unfold tP;refine aj (wpAny_runValue (pD F.entry_proto_collect ?_));rw[rL F.plain_proto_collect _];show ao _ A.in1 (newList [] >>= λl=>again (.builtin "list.__iadd__" ⟨[l,.ref a],[]⟩)) _ _ s;refine aj (jW ?_);refine aq ⟨rM F.plain_list_iadd _,pD F.entry_list_iadd ?_⟩;rw[rL F.plain_list_iadd _];show ao _ A.in1 (Builtin.List.listExtendWith (.ref s.heap.objs.size) (.ref a) (.ref s.heap.objs.size)) _ _ _;unfold Builtin.List.listExtendWith;have j:∀r:ak,r.heap.get? a=aa {cls:=.type "set",dict:=ac,data:=.set m J t}->r.TypeIs (.ref a) "set":=λr e=>⟨_,e,rfl⟩
 have C:(s.heap.push {cls:=.type "list",data:=.seq ([]:List af).toArray}).get? a=aa {cls:=.type "set",dict:=ac,data:=.set m J t}:=bi _ G;refine aj (tI (j _ C) ?_);have Z:Builtin.List.listSameRef (.ref s.heap.objs.size) (.ref a)=ai:=by have:¬(s.heap.objs.size=a):=ln qA;simp[Builtin.List.listSameRef,this]
 rw[if_neg (by rw[Z];decide)];refine aj (Qj (S.at λo e=>bi _ e) λp I fp n Pv St W=>?_);have y:=W.old a _ C;refine aj (d_ ?_);unfold Builtin.List.listLengthHint;refine aj (rD (j _ y) Te ?_)
 wp_delta
 refine aj (rO (T:="set") (b:=ag) (j _ y) (by rw[isSubtype_type];rfl) ?_);show ao _ A.in1 (typeOf (Value.ref a) >>= _) _ _ _;refine aj (tI (T:="set") (j _ y) ?_);refine aq ?_;rw[if_pos (by rfl)];refine aj (lu ?_);have Y:(s.heap.push {cls:=.type "list",data:=.seq ([]:List af).toArray}).get? s.heap.objs.size=aa {cls:=.type "list",data:=.seq ([]:List af).toArray}:=bU _ rfl;have i:=W.old _ _ Y;unfold Builtin.List.listTouch;refine aj (aj (Eb i rfl ?_ (by simp) (by simp)));have g:=zC i (λa:Array af=>a.push Value.none);refine Eb g rfl ?_ (by trivial) (by simp);have x:=zC g (λa:Array af=>a.pop);have M:s.heap.objs.size∉fp:=λz=>by
  rcases W.fps _ z with q|q
  .simp_all
  .rw[kr]at q;lia
 have D:∀b o,b≠s.heap.objs.size->p.heap.get? b=aa o->(((p.heap.update s.heap.objs.size (iH λa=>a.push Value.none)).update s.heap.objs.size (iH λa=>a.pop))).get? b=aa o:=λb o f e=>by rw[KR _ _ _ _ f,KR _ _ _ _ f];exact e
 have O:St 0 (((p.heap.update s.heap.objs.size (iH λa=>a.push Value.none)).update s.heap.objs.size (iH λa=>a.pop))):=(W.wk A.in1 H).frame 0 _ _ W.st λb f o e=>D b o (λz=>M (z ▸ f)) e;refine aq ⟨rM F.plain_extend_loop _,codeAny_extend_loopS (W.wk A.in1 H).toS (ig (JC (by have:=W.len;lia))) _ M _ n 0 _ _ _ rfl (gW _) O x (ItemsOf.nil _) λd c c' u v N=>?_⟩;show ao _ A (load s.heap.objs.size >>= _) _ _ d;refine aj (wpAny_load v ?_);refine aq (h d c.toList (W.ord c N) (λb o e=>?_) ?_ ?_)
 .have L:=bu e;refine u.heap b o (λf=>?_) (D b o (cr L) (W.old b o (bi _ e)));rcases b8.mp f with z|z
  .simp_all
  .rw[pH.mp z]at L;have:=W.new;rw[kr]at this;lia
 .rw[u.gens,W.rest]
 .rw[u.os,W.rest]
theorem HA(q:A.handled=ac)(S:bB P w s.heap a f)(h:∀(c:ak) (d:List af) (ss:List Str),bR d ss->ss.Perm f->d.length<4090->(∀b o,s.heap.get? b=aa o->c.heap.get? b=aa o)->c.gens=s.gens->c.os=s.os->Q d c):ao (ar P w) A (tP (.ref a)) Q E s:=by
 obtain⟨u,ss,S,r,p⟩:=S.e;have n:u.size<4090:=by obtain⟨_,_,_,z,_⟩:=S;exact z
 refine Ai q S λc d pv m l j=>?_;obtain⟨v,i,g⟩:=uH pv r;exact h c d v i (g.trans p) (by have:=pv.length_eq;simp_all) m l j
theorem Qb(g:A.handled=ac)(S:bB P w s.heap a f)(i:f≠[])(h:∀(c:ak) (d:List af) (ss:List Str),bR d ss->ss.Perm f->d.length<4090->(∀b o,s.heap.get? b=aa o->c.heap.get? b=aa o)->c.gens=s.gens->c.os=s.os->Q d c):ao (ar P w) A (tP (.ref a)) Q E s:=HA g S h
end
noncomputable def bP(b:List Tx):List Tx:=b.foldl (λa x=>if x∈a then a else a++[x]) []
theorem xy(b:List Tx):met (λi=>(b.map tS).getD i iU) b.length=(bP b).map tS:=by
 have f:∀(l:List Tx) (a:List Tx),(l.map tS).foldl iP (a.map tS)=(l.foldl (λd x=>if x∈d then d else d++[x]) a).map tS:=by
  intro l
  induction l with
  |nil=>intro a;rfl
  |cons x r g=>
   intro a;rw[cN,ot,ot];have:iP (a.map tS) (tS x)=(if x∈a then a else a++[x]).map tS:=by
    unfold iP;have m:tS x∈a.map tS↔x∈a:=by rw[cX];exact⟨λ⟨y,j,e⟩=>by rw[<-qx e];trivial,λh=>⟨x,h,rfl⟩⟩
    grind
   rw[this,g]
 have e:(ce b.length).map (λi=>(b.map tS).getD i iU)=b.map tS:=by
  refine zB λi=>?_;rw[cT];by_cases c:i<b.length
  .rw[zm c];simp[c]
  .rw[mR (~~~c),mR (~~~c)];rfl
 unfold met;rw[e];exact f b []
theorem Rn(l b:List Tx):(b.Nodup->(l.foldl (λa x=>if x∈a then a else a++[x]) b).Nodup)/\∀x,x∈l.foldl (λa x=>if x∈a then a else a++[x]) b↔x∈b\/x∈l:=by
 induction l generalizing b with
 |nil=>simp
 |cons y r c=>
  rw[ot]
  grind
theorem sL(l:List Tx)(x:Tx):x∈bP l↔x∈l:=by rw[bP,(Rn l []).2 x];simp
theorem SY(l:List Tx):(bP l).length<=l.length:=by
 have b:∀(l c:List Tx),(l.foldl (λa x=>if x∈a then a else a++[x]) c).length<=c.length+l.length:=by
  intro l
  induction l with
  |nil=>simp
  |cons x r d=>intro c;rw[ot];refine dD (d _) ?_;split <;> simp <;> lia
 simpa[bP]using b l []
section
variable{X:Cx}
def cY(X:Cx)(a:ab)(b:List Tx):HO:=.ext λh=>bB X.prog X.w h a (b.map tS)
theorem uN(z:X.calm=ag):c_ X (.type "set") (λf H Q=>∃(p:ab) (c:List Tx),f=[.ref p]/\cg X.K H p (bz c)/\(bP c).length<4000/\∀a,H a=ac->Q (.ref a) (upd H a (cY X a (bP c)))):=by
 intro N s C H f D Q I r h;obtain⟨p,c,rfl,x,A,q⟩:=h;obtain⟨u,rfl,l⟩:=vals1 r;cases l;obtain⟨d,g,v,F⟩:=I.list x;have y:=g.length;rw[qR]at y;refine HB (P:=X.prog) (w:=X.w) (I.ok.hd z) (.inl v.isList) (by simpa using p_ g) (by rw[eJ,show d.length=c.length by ac_rfl,xy,cy];trivial) λB j S k=>?_;have i:bB X.prog X.w B s.heap.objs.size ((bP c).map tS):=by
  have e:d.toArray.size=c.length:=∅
  rw[e,xy]at S;exact S
 refine⟨.ref s.heap.objs.size,_,I.laid (t':=j) (o:=cY X s.heap.objs.size (bP c)) (λb o e=>k b o (bu e) e) (a_ _) ?_,rfl,q _ I.fresh⟩;obtain⟨L,M,t,E,e,_⟩:=i.ex;exact⟨i,⟨_,e⟩,λJ G n m=>n.at m⟩
theorem MO(A:X.calm=ag):c_ X (.builtin "sorted") (λc H Q=>∃(p:ab) (a:List Tx),c=[.ref p]/\H p=aa (cY X p a)/\a≠[]/\a.length<64/\∀l,H l=ac->Q (.ref l) (upd H l (.lst (bz (b_ a))))):=by
 intro J s j H c M Q I r h;obtain⟨p,a,rfl,y,T,x,q⟩:=h;obtain⟨u,rfl,n⟩:=vals1 r;cases n;obtain⟨S,_,_⟩:=(show bN X.prog X.w H s.heap p (cY X p a)from I.hok p _ y)
 refine Bj (Qb (np (I.ok.hd A)) S ⋯ λm L ss g f Y k D C=>?_);obtain⟨d,g',d',t',v⟩:=m;obtain rfl:g'=s.gens:=D;obtain rfl:v=s.os:=C;have i:Inv X J j H {s with heap:=d,drawn:=d',toks:=t'}:=by have:=Inv.call (ch:=[]) I (g':=s.gens) (d':=d') (t':=t') (Un.kept (fs:=gc X.stack) (ex:=[]) k) (I.hok.kept k) I.bare (λb B=>absurd B (by simp));trivial
 refine⟨ss,g,by have P:=g.length;have O:=f.length_eq;simp_all,λN o W e w z G F E=>?_⟩;exact⟨.ref _,_,Inv.sorted (s1:={s with heap:=d,drawn:=d',toks:=t'}) (ss:=a.map tS) i rfl x w z G (F.trans f) E,rfl,q _ i.fresh⟩
end
structure bw(K:aw)(mg:Str->Option af)(x:Str)(st:aR):Prop where
 ex:∃f fd,mg x=aa (.ref f)/\qr K x x st f fd
theorem ID(h:H p=ac):Same H (upd H p o):=λb u q=>by rw[aU (kg q h)];exact q
theorem IG{xs:List a}(b:0<=k)(h:k.toNat<xs.length):fu xs k=aa xs[k.toNat]:=by
 have e:((k.toNat:Nat):Int)=k:=∅
 have q:=Tn (xs:=xs) (j:=k.toNat) (v:=xs[k.toNat]) (by simp);rwa[e]at q
noncomputable def A3(N:List Str)(d a:cV)(x:Str)(c:List Str)(b:List Nat):Bool :=
 decide (a.kind=.function)&&a.names.all (λy=>(decide (y.2≠.cell)||decide (a.names.lookup y.1=aa .cell))&&(decide (y.2≠.local)||decide (a.names.lookup y.1=aa .local))&&(decide (y.2≠.free)||decide (d.names.lookup y.1=aa .cell)||decide (d.names.lookup y.1=aa .free)))
 && (decide (a.names.lookup x=aa .local)||decide (a.names.lookup x=aa .cell))&&decide c.Nodup&&decide (c.head?=aa x)&&decide (c.length=b.length+1)&&(b.zip c.tail).all λp=>(decide (N[p.1]?=aa p.2)&&decide (a.names.lookup p.2=aa .free))||(decide (N.length<=p.1)&&decide (a.names.lookup p.2=aa .local))
theorem iy.of{X:Cx}(N:List Str)(c:cV)(l:X.N=N)(f:X.env.scope=c)(h:A3 N c a x N' cap=ag):iy X a x N' cap:=by
 subst l f;simp only[A3,iX,decide_eq_true_eq,tW,zu]at h;obtain⟨⟨⟨⟨⟨⟨r,d⟩,q⟩,p⟩,o⟩,n⟩,m⟩:=h;refine⟨r,λy b e=>(d y b).1.1.elim (λz=>absurd e z) λz=>z,λy b e=>?_,q,λy b e=>?_,p,o,n,λi j y u s=>?_⟩
 .grind
 .rcases(d y b).2 with(z|z)|z
  .trivial
  .exact .inl z
  .exact .inr z
 .have g:(j,y)∈cap.zip N'.tail:=by
   refine KS.mpr ⟨i,?_⟩;rw[zD];refine⟨s,?_⟩;rw[<-List.drop_one,List.getElem?_drop,Nat.add_comm];trivial
  exact m _ g
end L2
namespace Pu
open L2
abbrev St:=L2.St
inductive PV where
 |non|bl (b:Bool)|int (i:Int)|str (x:Tx)|tup (xs:List PV)|lst (xs:List PV)|raw (v:V)|exc (c:af)
noncomputable def qw(a:ab)(c:af):HO:=.ext λh=>∃o b,h.get? a=aa o/\o.cls=c/\o.data=.fields b/\o.dict=ac
noncomputable def ck:Nat:=1000000
theorem kP:ck<=bh:=by trivial
def eA:HO->Prop
 |.lst _=>True
 |.dK _=>True
 |.dT _=>True
 |.dN _=>True
 |.ins _ _ _=>True
 |.own _=>True
 |_=>False
mutual
def aT(K:aw)(H:Hp)(F:ab->Prop):PV->V->Prop
 |.non,v=>v=.non
 |.bl b,v=>v=.bl b
 |.int i,v=>v=.int i
 |.str x,v=>v=tV x/\x.length<=ck
 |.tup f,v=>∃a d,v=.ref a/\H a=aa (.tup d)/\bd K H F f d
 |.lst f,v=>∃a d,v=.ref a/\Rd H a (.lst d)/\F a/\bd K H F f d
 |.raw u,v=>v=u
 |.exc c,v=>∃a,v=.ref a/\H a=aa (qw a c)
def bd(K:aw)(H:Hp)(F:ab->Prop):List PV->List V->Prop
 |[],a=>a=[]
 |x::b,a=>∃v r,a=v::r/\aT K H F x v/\bd K H F b r
end
section
variable{K:aw}{H H':Hp}{F b:ab->Prop}
mutual
theorem aT.mono(i:∀a,F a->b a)(g:∀a c,F a->Rd H a (.lst c)->Rd H' a (.lst c))(f:∀a o,H a=aa o->¬eA o->H' a=aa o):∀(x:PV) (v:V),aT K H F x v->aT K H' b x v
 |.non,_,h=>h
 |.bl _,_,h=>h
 |.int _,_,h=>h
 |.str _,_,h=>h
 |.raw _,_,h=>h
 |.exc _,_,⟨a,e,h⟩=>⟨a,e,f a _ h id⟩
 |.tup c,_,⟨a,d,e,l,j⟩=>⟨a,d,e,f a _ l id,bd.mono i g f c d j⟩
 |.lst c,_,⟨a,d,e,l,m,j⟩=>⟨a,d,e,g a d m l,i a m,bd.mono i g f c d j⟩
theorem bd.mono(i:∀a,F a->b a)(g:∀a c,F a->Rd H a (.lst c)->Rd H' a (.lst c))(f:∀a o,H a=aa o->¬eA o->H' a=aa o):∀(c:List PV) (d:List V),bd K H F c d->bd K H' b c d
 |[],_,h=>h
 |x::c,_,⟨v,r,e,l,j⟩=>⟨v,r,e,aT.mono i g f x v l,bd.mono i g f c r j⟩
end
theorem bd.len:∀{a:List PV}{vs:List V},bd K H F a vs->vs.length=a.length
 |[],_,h=>by rw[show _=[] from h];rfl
 |_::_,_,⟨_,_,e,_,b⟩=>by rw[e,gH,gH,bd.len b]
theorem bd.get:∀{c:List PV}{d:List V}{i:Nat}{x:PV},bd K H F c d->c[i]?=aa x->∃v,d[i]?=aa v/\aT K H F x v
 |[],_,_,_,_,e=>by trivial
 |x::c,_,0,y,⟨v,r,e,h1,_⟩,q=>by simp at q;subst q;subst e;exact⟨v,rfl,h1⟩
 |x::c,_,i+1,y,⟨v,r,e,_,h2⟩,q=>by obtain⟨w,a,b⟩:=bd.get (i:=i) (x:=y) h2 (by trivial);subst e;exact⟨w,by trivial,b⟩
theorem bd.back:∀{c:List PV}{d:List V}{i:Nat}{v:V},bd K H F c d->d[i]?=aa v->∃x,c[i]?=aa x/\aT K H F x v
 |[],_,_,_,h,e=>by rw[show _=[] from h]at e;trivial
 |x::c,_,0,y,⟨v,r,e,h1,_⟩,q=>by subst e;simp at q;subst q;exact⟨x,rfl,h1⟩
 |x::c,_,i+1,y,⟨v,r,e,_,h2⟩,q=>by subst e;obtain⟨w,a,b⟩:=bd.back (i:=i) (v:=y) h2 (by trivial);exact⟨w,by trivial,b⟩
theorem bd.app:∀{a b:List PV}{d c:List V},bd K H F a d->bd K H F b c->bd K H F (a++b) (d++c)
 |[],_,_,_,h,g=>by rw[show _=[] from h];exact g
 |x::a,_,_,_,⟨v,r,e,i,f⟩,g=>by subst e;exact⟨v,_,rfl,i,bd.app f g⟩
theorem bd.one(h:aT K H F x v):bd K H F [x] [v]:=⟨v,[],rfl,h,rfl⟩
theorem bd.drop:∀(n:Nat) {a:List PV}{b:List V},bd K H F a b->bd K H F (a.drop n) (b.drop n)
 |0,_,_,h=>h
 |_+1,[],_,h=>by rw[show _=[] from h];rfl
 |n+1,_::_,_,⟨_,_,e,_,h2⟩=>by subst e;exact bd.drop n h2
theorem bd.take:∀(n:Nat) {a:List PV}{b:List V},bd K H F a b->bd K H F (a.take n) (b.take n)
 |0,_,_,_=>by rfl
 |_+1,[],_,h=>by rw[show _=[] from h];rfl
 |n+1,_::_,_,⟨v,_,e,h1,h2⟩=>by subst e;exact⟨v,_,rfl,h1,bd.take n h2⟩
theorem bd.set(c:aT K H F x v):∀(n:Nat) {a:List PV}{b:List V},bd K H F a b->bd K H F (a.set n x) (b.set n v)
 |_,[],_,h=>by rw[show _=[] from h];rfl
 |0,_::_,_,⟨_,r,e,_,h2⟩=>by subst e;exact⟨v,r,rfl,c,h2⟩
 |n+1,_::_,_,⟨w,_,e,h1,h2⟩=>by subst e;exact⟨w,_,rfl,h1,bd.set c n h2⟩
end
structure bI(O O' F F':ab->Prop)(H H':Hp):Prop where
 fro:∀a,F a->F' a
 keep:∀b o,H b=aa o->¬O b->H' b=aa o
 there:∀b o,H b=aa o->∃o',H' b=aa o'
 fnew:∀a,F' a->F a\/H a=ac\/O a
 onew:∀a,O' a->O a\/H a=ac
theorem bI.refl(O F:ab->Prop)(H:Hp):bI O O F F H H:=⟨λ_ h=>h,λ_ _ h _=>h,λ_ o h=>⟨o,h⟩,λ_ h=>.inl h,λ_ h=>.inl h⟩
theorem bI.trans(g:bI O i F m H d)(k:bI i f m l d j):bI O f F l H j where
 fro:=λa h=>k.fro a (g.fro a h)
 keep:=λb o h n=>k.keep b o (g.keep b o h n) λz=>(g.onew b z).elim n λq=>by lia
 there:=λb o h=>let ⟨o',c⟩:=g.there b o h;k.there b o' c
 fnew:=λa h=>by
  have back:d a=ac->H a=ac\/O a:=λz=>by
   cases q:H a with
   |none=>simp
   |some o=>obtain⟨o',c⟩:=g.there a o q;lia
  rcases k.fnew a h with z|z|z
  .exact g.fnew a z
  .exact .inr (back z)
  .exact .inr ((g.onew a z).symm)
 onew:=λa h=>by
  rcases k.onew a h with z|z
  .exact g.onew a z
  .cases q:H a with
   |none=>exact .inr rfl
   |some o=>obtain⟨o',c⟩:=g.there a o q;lia
def ny(O F:ab->Prop)(H:Hp):Prop:=∀b,O b->¬F b/\∃o,H b=aa o/\eA o
section
variable{K:aw}{O c F b:ab->Prop}{H H':Hp}
theorem bI.imm(g:bI O c F b H H')(f:ny O F H)(h:H a=aa o)(n:¬eA o):H' a=aa o :=g.keep _ _ h λz=>by obtain⟨_,d,j,i⟩:=f a z;lia
theorem bI.lst(g:bI O c F b H H')(f:ny O F H)(i:F a)(h:Rd H a (.lst d)):Rd H' a (.lst d):=by
 have no:¬O a:=λz=>(f a z).1 i;rcases h with h|⟨o,h⟩
 .exact .inl (g.keep _ _ h no)
 .exact .inr ⟨o,g.keep _ _ h no⟩
theorem aT.grow(g:bI O c F b H H')(f:ny O F H)(h:aT K H F x v):aT K H' b x v:=aT.mono g.fro (λ_ _ a q=>g.lst f a q) (λ_ _ q n=>g.imm f q n) x v h
theorem bd.grow(g:bI O c F b H H')(f:ny O F H)(h:bd K H F x v):bd K H' b x v:=bd.mono g.fro (λ_ _ a q=>g.lst f a q) (λ_ _ q n=>g.imm f q n) x v h
end
theorem _root_.L2.Same.rd(e:Same H b)(h:Rd H a u):Rd b a u:=h.elim (λz=>.inl (e _ _ z)) λ⟨o,z⟩=>.inr ⟨o,e _ _ z⟩
structure Al(F F':ab->Prop)(H H':Hp):Prop where
 fro:∀a,F a->F' a
 same:Same H H'
 fnew:∀a,F' a->F a\/(H a=ac/\∃o,H' a=aa o)
theorem Al.refl(F:ab->Prop)(H:Hp):Al F F H H:=⟨λ_ h=>h,Same.refl H,λ_ h=>.inl h⟩
theorem Al.grow(a:Al F d H c):bI O O F d H c :=⟨a.fro,λb o h _=>a.same b o h,λb o h=>⟨o,a.same b o h⟩,λb h=>(a.fnew b h).imp id λz=>.inl z.1,λ_ h=>.inl h⟩
theorem Al.rep{K:aw}{H b:Hp}(a:Al F c H b){x:PV}{v:V}(h:aT K H F x v):aT K b c x v:=aT.mono a.fro (λ_ _ _ q=>a.same.rd q) (λ_ _ q _=>a.same _ _ q) x v h
theorem Al.reps{K:aw}{H b:Hp}(a:Al F c H b){x:List PV}{v:List V}(h:bd K H F x v):bd K b c x v:=bd.mono a.fro (λ_ _ _ q=>a.same.rd q) (λ_ _ q _=>a.same _ _ q) x v h
theorem Al.trans(a:Al F i H f)(b:Al i g f d):Al F g H d :=
 ⟨λc h=>b.fro c (a.fro c h),a.same.trans b.same,λc h=>by
  rcases b.fnew c h with z|⟨z,w⟩
  .rcases a.fnew c z with y|⟨y,o,q⟩
   .exact .inl y
   .exact .inr ⟨y,o,b.same _ _ q⟩
  .exact .inr ⟨a.same.free z,w⟩⟩
theorem Al.new(h:H l=ac):Al F (λa=>F a\/a=l) H (upd H l o) :=⟨λ_ h=>.inl h,ID h,λa z=>z.imp id λe=>by subst e;exact⟨h,o,upd_same⟩⟩
theorem Al.new0(h:H l=ac):Al F F H (upd H l o):=⟨λ_ h=>h,ID h,λa z=>.inl z⟩
inductive PO where
 |lst (xs:List PV)|dK (kvs:List (aF×PV))|lls (g8:List (List PV))|ins (C:ab) (fs:List (Str×PV))|dT (kvs:List (List aF×PV))|dN (kvs:List ((Tx×List Tx)×PV))|inl (C:ab) (fs:List (Str×PV)) (y:Str) (xs:List PV)|dL (kvs:List (aF×List PV))
def ki:PO->Bool
 |.lls _=>ai
 |.dL _=>ai
 |.inl ..=>ai
 |_=>ag
set_option genInjectivity true in
inductive Slot where
 |none|val (v:PV)|own (o:PO)
noncomputable abbrev ah:=List Slot
def gQ(K:aw)(H:Hp)(F:ab->Prop)(a:List (aF×PV))(b:List (aF×V)):Prop:=jS (λ(p:aF×PV) (q:aF×V)=>p.1=q.1/\aT K H F p.2 q.2) a b
def uU(K:aw)(H:Hp)(F:ab->Prop)(fs:List (Str×PV))(a:List (Str×V)):Prop:=jS (λ(p:Str×PV) (q:Str×V)=>p.1=q.1/\aT K H F p.2 q.2) fs a
def jz(K:aw)(H:Hp)(F:ab->Prop)(a:List (List aF×PV))(b:List (List aF×V)):Prop:=jS (λ(p:List aF×PV) (q:List aF×V)=>p.1=q.1/\aT K H F p.2 q.2) a b
def nS(k:Tx×List Tx):Str×List Str:=(tS k.1,k.2.map tS)
def mF(K:aw)(H:Hp)(F:ab->Prop)(a:List ((Tx×List Tx)×PV))(b:List ((Str×List Str)×V)):Prop:=jS (λ(p:(Tx×List Tx)×PV) (q:(Str×List Str)×V)=>nS p.1=q.1/\aT K H F p.2 q.2) a b
noncomputable def vP(K:aw)(H:Hp)(F:ab->Prop)(d:List (List PV))(f:List ab):Prop:=jS (λ(c:List PV) (b:ab)=>∃a,H b=aa (.lst a)/\bd K H F c a) d f
def eR(K:aw)(H:Hp)(F:ab->Prop)(l:PO)(a:ab)(S:ab->Prop):Prop :=
 match l with
 |.lst i=>(∃h,H a=aa (.lst h)/\bd K H F i h)/\∀b,S b↔b=a
 |.dK d=>(∃f,H a=aa (.dK f)/\gQ K H F d f)/\∀b,S b↔b=a
 |.lls m=>∃g,H a=aa (.lst (g.map .ref))/\vP K H F m g/\g.Nodup/\a∉g/\∀b,S b↔b=a\/b∈g
 |.dL d=>∃g:List ab,H a=aa (.dK ((d.map (·.1)).zip (g.map V.ref)))/\vP K H F (d.map (·.2)) g/\g.Nodup/\a∉g/\∀b,S b↔b=a\/b∈g
 |.ins C fs=>(∃j f,H a=aa (.ins C j f)/\uU K H F fs f)/\∀b,S b↔b=a
 |.dT d=>(∃f,H a=aa (.dT f)/\jz K H F d f)/\∀b,S b↔b=a
 |.dN d=>(∃f,H a=aa (.dN f)/\mF K H F d f)/\∀b,S b↔b=a
 |.inl C fs y i=>∃j f b h,H a=aa (.ins C j (f++[(y,.ref b)]))/\uU K H F fs f/\fs.lookup y=ac/\H b=aa (.lst h)/\bd K H F i h/\a≠b/\∀c,S c↔c=a\/c=b
structure aY(K:aw)(F:ab->Prop)(S:Nat->ab->Prop)(ε:ah)(σ:St)(H:Hp):Prop where
 len:ε.length=σ.length
 ex:∀a,F a->∃o,H a=aa o
 val:∀(i:Nat) (pv:PV),ε[i]?=aa (.val pv)->∃v,σ[i]?=aa (aa v)/\aT K H F pv v
 own:∀(i:Nat) (po:PO),ε[i]?=aa (.own po)->∃a,σ[i]?=aa (aa (.ref a))/\eR K H F po a (S i)
 foot:∀(i:Nat) (b:ab),S i b->(∃po,ε[i]?=aa (.own po))/\¬F b/\∃o,H b=aa o/\eA o
 dist:∀(i j:Nat) (b:ab),S i b->S j b->i=j
noncomputable def U(S:Nat->ab->Prop)(b:ab):Prop:=∃i,S i b
section
variable{K:aw}{F d:ab->Prop}{S:Nat->ab->Prop}{g:ah}{f:St}{H H':Hp}
theorem aY.fit(r:aY K F S g f H):ny (U S) F H:=λb ⟨i,h⟩=>(r.foot i b h).2
theorem gQ.mono(i:∀x v,aT K H F x v->aT K H' d x v)(h:gQ K H F a b):gQ K H' d a b:=by
 unfold gQ at h ⊢
 induction h with
 |nil=>exact .nil
 |cons r _ c=>exact .cons ⟨r.1,i _ _ r.2⟩ c
theorem uU.mono(c:∀x v,aT K H F x v->aT K H' d x v)(h:uU K H F fs a):uU K H' d fs a:=by
 unfold uU at h ⊢
 induction h with
 |nil=>exact .nil
 |cons r _ b=>exact .cons ⟨r.1,c _ _ r.2⟩ b
theorem jz.mono(i:∀x v,aT K H F x v->aT K H' d x v)(h:jz K H F a b):jz K H' d a b:=by
 unfold jz at h ⊢
 induction h with
 |nil=>exact .nil
 |cons r _ c=>exact .cons ⟨r.1,i _ _ r.2⟩ c
theorem mF.mono(i:∀x v,aT K H F x v->aT K H' d x v)(h:mF K H F a b):mF K H' d a b:=by
 unfold mF at h ⊢
 induction h with
 |nil=>exact .nil
 |cons r _ c=>exact .cons ⟨r.1,i _ _ r.2⟩ c
theorem vP.mono(l:∀x v,bd K H F x v->bd K H' d x v)(c:∀b o,b∈a->H b=aa o->H' b=aa o)(h:vP K H F i a):vP K H' d i a:=by
 unfold vP at h ⊢
 induction h with
 |nil=>exact .nil
 |cons r _ m=>obtain⟨j,q,p⟩:=r;exact .cons ⟨j,c _ _ (by simp) q,l _ _ p⟩ (m λb o n=>c b o (by simp[n]))
theorem eR.mono(l:∀x v,aT K H F x v->aT K H' d x v)(m:∀x v,bd K H F x v->bd K H' d x v)(c:∀b o,Sa b->H b=aa o->H' b=aa o)(h:eR K H F po a Sa):eR K H' d po a Sa:=by
 cases po with
 |lst B=>obtain⟨⟨p,e,q⟩,w⟩:=h;exact⟨⟨p,c a _ ((w a).mpr rfl) e,m _ _ q⟩,w⟩
 |dK j=>obtain⟨⟨i,e,q⟩,w⟩:=h;exact⟨⟨i,c a _ ((w a).mpr rfl) e,q.mono l⟩,w⟩
 |lls I=>obtain⟨A,e,q,s,r,w⟩:=h;exact⟨A,c a _ ((w a).mpr (.inl rfl)) e,q.mono m λb o u=>c b o ((w b).mpr (.inr u)),s,r,w⟩
 |dL j=>obtain⟨A,e,q,s,r,w⟩:=h;exact⟨A,c a _ ((w a).mpr (.inl rfl)) e,q.mono m λb o u=>c b o ((w b).mpr (.inr u)),s,r,w⟩
 |ins C fs=>obtain⟨⟨z,i,e,q⟩,w⟩:=h;exact⟨⟨z,i,c a _ ((w a).mpr rfl) e,q.mono l⟩,w⟩
 |dT j=>obtain⟨⟨i,e,q⟩,w⟩:=h;exact⟨⟨i,c a _ ((w a).mpr rfl) e,q.mono l⟩,w⟩
 |dN j=>obtain⟨⟨i,e,q⟩,w⟩:=h;exact⟨⟨i,c a _ ((w a).mpr rfl) e,q.mono l⟩,w⟩
 |inl C fs y B=>obtain⟨z,i,b,p,e,q,n,G,D,E,w⟩:=h;exact⟨z,i,b,p,c a _ ((w a).mpr (.inl rfl)) e,q.mono l,n,c b _ ((w b).mpr (.inr rfl)) G,m _ _ D,E,w⟩
theorem aY.al(r:aY K F S g f H)(a:Al F d H H'):aY K d S g f H' where
 len:=r.len
 ex:=λb h=>(a.fnew b h).elim (λz=>let ⟨o,q⟩:=r.ex b z;⟨o,a.same _ _ q⟩) λz=>z.2
 val:=λi pv e=>let ⟨v,j,l⟩:=r.val i pv e;⟨v,j,a.rep l⟩
 own:=λi m e=>let ⟨b,j,l⟩:=r.own i m e;⟨b,j,l.mono (λ_ _ q=>a.rep q) (λ_ _ q=>a.reps q) λc o _ q=>a.same _ _ q⟩
 foot:=λi b h=>by
  obtain⟨j,l,o,p,n⟩:=r.foot i b h;refine⟨j,λz=>?_,o,a.same _ _ p,n⟩;rcases a.fnew b z with y|⟨y,_⟩
  all_goals lia
 dist:=r.dist
end
inductive R(α:Type) where
 |ok (a:α) (ε:ah)|er (c:af) (ε:ah)|no
abbrev ad(α:Type):=ah->R α
noncomputable def R.bind{d b:Type}(r:R d)(k:d->ah->R b):R b:=match r with
 |.ok a ε=>k a ε
 |.er c ε=>.er c ε
 |.no=>.no
noncomputable def aW{b:Type}(o:Option b)(ε:ah):R b:=match o with
 |some a=>.ok a ε
 |none=>.no
@[simp] theorem R.bind_ok(a:b)(ε:ah)(k:b->ah->R c):(R.ok a ε).bind k=k a ε:=rfl
@[simp] theorem R.bind_er(c:af)(a:ah)(k:b->ah->R d):(R.er c a:R b).bind k=.er c a:=rfl
@[simp] theorem R.bind_no(k:a->ah->R b):(R.no:R a).bind k=.no:=rfl
@[simp] theorem cA(a:c)(b:ah):aW (aa a) b=.ok a b:=rfl
@[simp] theorem WA(a:ah):aW (ac:Option b) a=.no:=rfl
def Ok(K:aw)(E:XK)(h:St)(F:ab->Prop)(S:Nat->ab->Prop)(H:Hp){i:Type}(r:R i)(C:i->ah->(ab->Prop)->(Nat->ab->Prop)->Hp->Prop):Prop:=match r with
 |.ok a b=>∀g f d,aY K g f b h d->bI (U S) (U f) F g H d->C a b g f d
 |.er c b=>∀x g f d,aY K g f b h d->bI (U S) (U f) F g H d->E c x d
 |.no=>False
section
variable{K:aw}{E:XK}{b:St}{F:ab->Prop}{S:Nat->ab->Prop}{H:Hp}{d i:Type}{C C':d->ah->(ab->Prop)->(Nat->ab->Prop)->Hp->Prop}{D:i->ah->(ab->Prop)->(Nat->ab->Prop)->Hp->Prop}
theorem Ok.imp(h:Ok K E b F S H r C)(f:∀a j n l m,aY K n l j b m->bI (U S) (U l) F n H m->C a j n l m->C' a j n l m):Ok K E b F S H r C':=by
 cases r with
 |ok a j=>exact λn l m r g=>f a j n l m r g (h n l m r g)
 |er c j=>exact h
 |no=>exact h
theorem Ok.from(h:Ok K E b F S H r D)(g:bI (U S) (U o) F q H p):Ok K E b q o p r D:=by
 cases r with
 |ok a f=>exact λn l m j g'=>h n l m j (g.trans g')
 |er c f=>exact λx n l m j g'=>h x n l m j (g.trans g')
 |no=>exact h
theorem Ok.bind{r:R d}(h:Ok K E b F S H (r.bind k) D):Ok K E b F S H r (λa f n l m=>Ok K E b n l m (k a f) D):=by
 cases r with
 |ok a j=>exact λq o p r g=>Ok.from h g
 |er c j=>exact h
 |no=>exact h
end
structure Bx(p:Prop):Prop where
 run:p
def ix(X:Cx)(e:au):TE:=λa H Q=>Bx (∀b s,Inv X b a H s->ao X.zz X.A (aS e X.env) (EP X b a Q) X.xe s)
def Ah(X:Cx)(e:au):TT:=λa H Q=>Bx (∀b s,Inv X b a H s->ao X.zz X.A (nX e X.env (aS e X.env)) (TP X b a Q) X.xe s)
def wpS(X:Cx)(c:aR):TS:=λD b H=>Bx (∀a s,Inv X a b H s->ao X.zz X.A (exec c X.env) (SP X a D) X.xe s)
def nE(X:Cx)(c:List aR):TS:=λD b H=>Bx (∀a s,Inv X a b H s->ao X.zz X.A (execs c X.env) (SP X a D) X.xe s)
section
variable{X:Cx}{b:aR}
theorem bL:PE X e (ix X e):=λc s _ _ _ I h=>h.run c s I
theorem mz:PT X e (Ah X e):=λc s _ _ _ I h=>h.run c s I
theorem xM:PS X b (wpS X b):=λc s _ _ _ I h=>h.run c s I
theorem nL:k_ X a (nE X a):=λc s _ _ _ I h=>h.run c s I
theorem bT(h:PE X e t)(q:t c H Q):ix X e c H Q:=⟨λd s I=>h d s c H Q I q⟩
theorem qX(h:PT X e t)(q:t c H Q):Ah X e c H Q:=⟨λd s I=>h d s c H Q I q⟩
theorem eY(h:PS X b t)(q:t D c H):wpS X b D c H:=⟨λd s I=>h d s c H D I q⟩
theorem vq(h:k_ X a t)(q:t D c H):nE X a D c H:=⟨λd s I=>h d s c H D I q⟩
end
def DE(X:Cx)(E:XK)(e:au)(d:ad PV):Prop :=
 ∀F S b a H Q,aY X.K F S b a H->Ok X.K E a F S H (d b) (λpv _ f _ c=>∀v,aT X.K c f pv v->Q v c)->ix X e a H Q
def DN(X:Cx)(E:XK)(e:au)(d:ad PO):Prop :=
 ∀F S g c H Q,aY X.K F S g c H->Ok X.K E c F S H (d g) (λj _ i l f=>∀a h,eR X.K f i j a h->(∀b,h b->H b=ac/\¬i b/\¬U l b/\∃o,f b=aa o/\eA o)->Q (.ref a) f)->ix X e c H Q
def DT(X:Cx)(E:XK)(e:au)(d:ad Bool):Prop :=
 ∀F S c a H Q,aY X.K F S c a H->Ok X.K E a F S H (d c) (λb _ _ _ f=>Q b f)->Ah X e a H Q
open L2
section
variable{X:Cx}{E:XK}{a b c:au}{m db A:ad PV}{pos:Pos}
def dC(pv:PV):ad PV:=λε=>.ok pv ε
theorem aA{i j pos}:DE X E (.Constant (.int i) j pos) (dC (.int i)):=λF S f d H Q r h=>bT JP (h F S H r (bI.refl ..) _ rfl)
theorem lI{i j pos}:DE X E (.Constant (.bool i) j pos) (dC (.bl i)):=λF S f d H Q r h=>bT RL (h F S H r (bI.refl ..) _ rfl)
theorem Aa{j pos}:DE X E (.Constant .none j pos) (dC .non):=λF S f d H Q r h=>bT R4 (h F S H r (bI.refl ..) _ rfl)
theorem kZ(l:Tx){j pos}(d:x=tS l:=by decide +kernel)(i:(l.length<=ck)^1):DE X E (.Constant (.str x) j pos) (dC (.str l)):=λF S g f H Q r h=>bT QF (h F S H r (bI.refl ..) _ (by rw[d];trivial))
noncomputable def dV(i:Nat):ad PV:=λε=>match ε[i]? with
 |some (.val pv)=>.ok pv ε
 |_=>.no
theorem am(i:Nat)(g:(X.N[i]?=aa x)^0)(d:cO X.env.scope x^2)(f:av x^1)(n:a4 x^1):DE X E (.Name x pos) (dV i):=λF S q o H Q r h=>by
 unfold dV at h;split at h
 .rename_i p e;obtain⟨v,l,j⟩:=r.val i p e;exact bT (dR g d f n) ⟨v,l,h F S H r (bI.refl ..) v j⟩
 .exact h.elim
theorem nO(h:∃t,X.mg x=aa (.int i t))(d:Gl X x^0)(f:av x^1):DE X E (.Name x pos) (dC (.int i)):=λF S j g H Q r q=>by obtain⟨t,e⟩:=h;exact bT (B3 (v:=.int i) d e ⟨t,rfl⟩ f) (q F S H r (bI.refl ..) _ rfl)
theorem o9(h:∃t,X.mg x=aa (.str (tS l) t))(f:Gl X x^0)(d:(l.length<=ck)^1)(g:av x^1):DE X E (.Name x pos) (dC (.str l)):=λF S j i H Q r q=>by obtain⟨t,e⟩:=h;exact bT (B3 (v:=tV l) f e ⟨t,rfl⟩ g) (q F S H r (bI.refl ..) _ ⟨rfl,d⟩)
def aY.frz{K:aw}{F:ab->Prop}{S:Nat->ab->Prop}{p:ah}{u:St}{H:Hp}{i:Nat}{s:List PV}(r:aY K F S p u H)(e:p[i]?=aa (.own (.lst s))):∃a y J,aY K y J (p.set i (.val (.lst s))) u H/\bI (U S) (U J) F y H H/\u[i]?=aa (aa (.ref a))/\aT K H y (.lst s) (.ref a):=by
 obtain⟨a,I,⟨L,D,M⟩,G⟩:=r.own i _ e;have C:i<p.length:=(cW.mp e).1;have g:∀b,F b->F b\/b=a:=λb h=>.inl h;have mono:∀x v,aT K H F x v->aT K H (λb=>F b\/b=a) x v:=aT.mono g (λ_ _ _ q=>q) (λ_ _ q _=>q);have d:∀x v,bd K H F x v->bd K H (λb=>F b\/b=a) x v:=bd.mono g (λ_ _ _ q=>q) (λ_ _ q _=>q);have B:aT K H (λb=>F b\/b=a) (.lst s) (.ref a):=⟨a,L,rfl,.inl D,.inr rfl,d _ _ M⟩
 refine⟨a,λb=>F b\/b=a,λj b=>S j b/\j≠i,⟨by rw[kn];exact r.len,λb h=>?_,λj pv q=>?_,λj po q=>?_,λj b h=>?_,λj k b O N=>r.dist j k b O.1 N.1⟩,?_,I,B⟩
 .rcases h with h|rfl
  .exact r.ex b h
  .exact⟨_,D⟩
 .by_cases f:i=j
  .subst f;rw[iT C]at q;cases q;exact⟨_,I,B⟩
  .rw[ff f]at q;obtain⟨v,n,l⟩:=r.val j pv q;exact⟨v,n,mono _ _ l⟩
 .by_cases f:i=j
  .subst f;rw[iT C]at q;cases q
  .rw[ff f]at q;obtain⟨v,n,l⟩:=r.own j po q;refine⟨v,n,?_⟩;have w:=l.mono (H':=H) mono d λ_ _ _ z=>z;have P:(λb=>S j b/\j≠i)=S j:=by funext b;simp[fF f]
   rw[P];exact w
 .obtain⟨⟨po,n⟩,l,w⟩:=r.foot j b h.1;refine⟨⟨po,by rw[ff (fF h.2)];exact n⟩,λz=>?_,w⟩;rcases z with z|rfl
  .exact l z
  .exact h.2 (r.dist j i b h.1 ((G b).mpr rfl))
 .refine⟨λ_ h=>.inl h,λb o h _=>h,λb o h=>⟨o,h⟩,λb h=>?_,λb ⟨j,h⟩=>.inl ⟨j,h.1⟩⟩;rcases h with h|rfl
  .exact .inl h
  .exact .inr (.inr ⟨i,(G b).mpr rfl⟩)
noncomputable def dM(i:Nat):ad PV:=λd=>match d[i]? with
 |some (.own (.lst f))=>.ok (.lst f) (d.set i (.val (.lst f)))
 |_=>.no
theorem Dc(i:Nat)(l:(X.N[i]?=aa x)^0)(f:cO X.env.scope x^2)(j:av x^1)(q:a4 x^1):DE X E (.Name x pos) (dM i):=λF S w v H Q r h=>by
 unfold dM at h;split at h
 .rename_i p e;obtain⟨a,u,s,d,g,o,n⟩:=r.frz e;exact bT (dR l f j q) ⟨_,o,h u s H d g _ n⟩
 .exact h.elim
def P2(K:aw)(r:R2)(f:PV->PV->Option PV):Prop:=∀(F:ab->Prop) (H:Hp) (x y:PV) (v u:V) (Q:VK) (pv:PV),aT K H F x v->aT K H F y u->f x y=aa pv->(∀w g d,Al F g H d->aT K d g pv w->Q w d)->r v u H Q
def d2(f:PV->PV->Option PV)(m db:ad PV):ad PV:=λε=>(m ε).bind λx g=>(db g).bind λy d=>aW (f x y) d
theorem yM(I:P2 X.K r f)(L:DE X E a m)(J:DE X E b db)(D:aY X.K F S j d H)(h:Ok X.K E d F S H (d2 f m db j) (λpv _ q _ g=>∀v,aT X.K g q pv v->Q v g)):ix X a d H λx p=>ix X b d p λy o=>r x y o Q:=by
 refine L F S j d H _ D ((Ok.bind h).imp λx i W P p s Y M v B=>?_);refine J W P i d p _ s ((Ok.bind M).imp λy z T O o G N n u C=>?_);cases e:f x y with
 |none=>rw[e]at n;trivial
 |some pv=>rw[e]at n;exact I T o x y v u Q pv (B.grow N s.fit) C e λw q g al l=>n q O g (G.al al) al.grow w l
theorem bH(j:cj X (gR d) r)(i:P2 X.K r f)(n:DE X E a m)(l:DE X E b db):DE X E (.BinOp a d b pos) (d2 f m db):=λF S p o H Q g h=>bT (zY j bL bL) (yM i n l g h)
theorem s0(j:cj X (dE d) r)(i:P2 X.K r f)(o:DE X E a m)(n:DE X E b db)(l:nY d b=ai):DE X E (.Compare a [d] [b] pos) (d2 f m db):=λF S q p H Q g h=>bT (Tr j bL bL l) (yM i o n g h)
def su:PV->Option Bool
 |.bl b=>aa b
 |_=>ac
def dB(d:ad PV):ad Bool:=λε=>(d ε).bind λx f=>aW (su x) f
theorem JK{K:aw}{x:PV}{v:V}{k:Bool}(h:aT K H F x v)(e:su x=aa k):v=.bl k:=by
 cases x <;> simp[su]at e;subst e;exact h
theorem qe{Q:Bool->Hp->Prop}(h:Ok X.K E i F S H (dB d j) (λk _ _ _ f=>Q k f)):Ok X.K E i F S H (d j) (λpv _ s _ f=>∀v,aT X.K f s pv v->∃k,v=.bl k/\Q k f):=by
 refine(Ok.bind h).imp λx l r p q o u g v n=>?_;cases e:su x with
 |none=>rw[e]at g;trivial
 |some k=>rw[e]at g;exact⟨k,JK n e,g r p q o (bI.refl ..)⟩
theorem cK(j:cj X (dE d) r)(i:P2 X.K r f)(o:DE X E a m)(n:DE X E b db)(l:nY d b=ai):DT X E (.Compare a [d] [b] pos) (dB (d2 f m db)):=λF S s q H Q g h=>qX (Pf j bL bL l) (yM (Q:=λx p=>∃k,x=.bl k/\Q k p) i o n g (qe h))
theorem lj(n:DE X E e d)(l:(∀f,nX e X.env f=(do let v <-f;standAt e.pos;kl [v] (truthy v)))^4):DT X E e (dB d):=λF S i g H Q j h=>qX (TL bL l) (n F S i g H _ j (qe h))
def oW(f g:PV->PV->Option PV)(m db A:ad PV):ad PV:=λj=>(m j).bind λx i=>(db i).bind λy d=>(aW ((f x y).bind su) d).bind λk d=>
 match k with
 |true=>(A d).bind λz h=>aW (g y z) h
 |false=>.ok (.bl ai) d
theorem Jy(hp:P2 X.K r f)(fj:P2 X.K P g)(ha:DE X E a m)(hb:DE X E b db)(hc:DE X E c A)(rl:aY X.K F S s i H)(h:Ok X.K E i F S H (oW f g m db A s) (λpv _ l _ d=>∀v,aT X.K d l pv v->Q v d)):AM r P (ix X a) (ix X b) (ix X c) i H Q:=by
 refine ha F S s i H _ rl ((Ok.bind h).imp λx q F1 S1 H1 O g1 h1 v rv=>?_);refine hb F1 S1 q i H1 _ O ((Ok.bind h1).imp λy n W M T r2 g2 j u N=>?_);cases e:f x y with
 |none=>rw[e]at j;trivial
 |some pv=>
  rw[e]at j;refine hp W T x y v u _ pv (rv.grow g2 O.fit) N e λw l d al C=>?_;cases L:su pv with
  |none=>rw[iZ,L]at j;trivial
  |some k=>
   rw[iZ,L]at j;refine⟨k,JK C L,?_⟩;have G:=r2.al al;cases k with
   |false=>exact mr (Ok.from j al.grow l M d G (bI.refl ..) _ rfl)
   |true=>
    have h3:Ok X.K E i W M T ((A n).bind λz p=>aW (g y z) p) (λpv _ l _ d=>∀v,aT X.K d l pv v->Q v d):=j;refine mC (hc l M n i d _ G ((Ok.bind (Ok.from h3 al.grow)).imp λz Y F4 S4 H4 r4 g4 I u4 D=>?_));cases J:g y z with
    |none=>rw[J]at I;trivial
    |some pz=>rw[J]at I;exact fj F4 H4 y z u u4 Q pz ((al.rep N).grow g4 G.fit) D J λZ F5 H5 o B=>I F5 S4 H5 (r4.al o) o.grow Z B
theorem JW(o:cj X (dE i) r)(w:cj X (dE d) j)(n:P2 X.K r f)(v:P2 X.K j g)(u:DE X E a m)(s:DE X E b db)(q:DE X E c A)(p:(lastMarks [i,d] [b,c]=ai)^7):DE X E (.Compare a [i,d] [b,c] pos) (oW f g m db A):=λF S y x H Q l h=>bT (RZ o w bL bL bL p) (Jy n v u s q l h)
theorem AF(o:cj X (dE i) r)(w:cj X (dE d) j)(n:P2 X.K r f)(v:P2 X.K j g)(u:DE X E a m)(s:DE X E b db)(q:DE X E c A)(p:(lastMarks [i,d] [b,c]=ai)^7):DT X E (.Compare a [i,d] [b,c] pos) (dB (oW f g m db A)):=λF S B z H Q l h=>qX (SI o w bL bL bL p) (Jy (Q:=λx y=>∃k,x=.bl k/\Q k y) n v u s q l (qe h))
variable{n B:ad Bool}{rest:List au}
def DW(X:Cx)(E:XK)(e:au)(d:ad Bool):Prop:=∀F S g f H Q,aY X.K F S g f H->Ok X.K E f F S H (d g) (λb _ _ _ i=>Q b i)->∀(h:Sem af) ae s,Inv X ae f H s->ao X.zz X.A (nX e X.env h) (TP X ae f Q) X.xe s
def Ow(X:Cx)(e:au):TT:=λd H Q=>∀(f:Sem af) ae s,Inv X ae d H s->ao X.zz X.A (nX e X.env f) (TP X ae d Q) X.xe s
theorem JB:PW X e (Ow X e):=λd f s _ _ _ I h=>h d f s I
theorem DW.dt(h:DW X E e d):DT X E e d:=λF S ε f H Q g q=>⟨λi s I=>h F S ε f H Q g q _ i s I⟩
def FR(n B:ad Bool):ad Bool:=λf=>(n f).bind λk d=>match k with
 |true=>B d
 |false=>.ok ai d
def nn(n B:ad Bool):ad Bool:=λf=>(n f).bind λk d=>match k with
 |true=>.ok ag d
 |false=>B d
def jd(n:ad Bool):ad Bool:=λf=>(n f).bind λk d=>.ok (!k) d
theorem Mp(h:DT X E a n):DW X E (.BoolOp .And [a] pos) n:=λF S f d H Q g q i j s I=>RK mz i j s d H Q I (h F S f d H Q g q)
theorem ur(h:DT X E a n):DW X E (.BoolOp .Or [a] pos) n:=λF S f d H Q g q i j s I=>Qk mz i j s d H Q I (h F S f d H Q g q)
theorem PN(u:DT X E a n)(r:DW X E (.BoolOp .And (b::rest) pos) B):DW X E (.BoolOp .And (a::b::rest) pos) (FR n B):=λF S o d H Q p q v w s I=>by
 refine P9 mz JB v w s d H Q I (u F S o d H _ p ((Ok.bind q).imp λk f l i j g x h=>?_));cases k with
 |true=>exact mC (r l i f d j Q g h)
 |false=>exact mr (h l i j g (bI.refl ..))
theorem uw(u:DT X E a n)(r:DW X E (.BoolOp .Or (b::rest) pos) B):DW X E (.BoolOp .Or (a::b::rest) pos) (nn n B):=λF S o d H Q p q v w s I=>by
 refine RY mz JB v w s d H Q I (u F S o d H _ p ((Ok.bind q).imp λk f l i j g x h=>?_));cases k with
 |true=>exact mC (h l i j g (bI.refl ..))
 |false=>exact mr (r l i f d j Q g h)
theorem ka(j:DT X E a n):DT X E (.UnaryOp .Not a pos) (jd n):=λF S g d H Q h q=>qX (N1 mz) (j F S g d H _ h ((Ok.bind q).imp λk f r o p i s l=>l r o p i (bI.refl ..)))
def nr(m db:ad PV):ad PV:=λf=>(dB m f).bind λk d=>match k with
 |true=>db d
 |false=>.ok (.bl ai) d
def WC(m db:ad PV):ad PV:=λf=>(dB m f).bind λk d=>match k with
 |true=>.ok (.bl ag) d
 |false=>db d
def Jz(m:ad PV):ad PV:=λf=>(dB m f).bind λk d=>.ok (.bl (!k)) d
theorem JA{k:Bool->ah->R q}{P:Bool->Hp->Prop}(h:Ok X.K E o F S H ((dB d p).bind k) D) (f:∀c g l j i,aY X.K l j g o i->bI (U S) (U j) F l H i->Ok X.K E o l j i (k c g) D->P c i):Ok X.K E o F S H (d p) (λpv _ y _ r=>∀v,aT X.K r y pv v->∃c,v=.bl c/\P c r):=by have u:=(Ok.bind h).imp (C':=λc g l j i=>P c i) λc g l j i s x w=>f c g l j i s x w;exact qe u
theorem sv{op}(h:DE X E a d):DE X E (.BoolOp op [a] pos) d:=λF S g f H Q i q=>bT (O3 bL) (h F S g f H Q i q)
theorem o7(s:DE X E a m)(r:DE X E (.BoolOp .And (b::rest) pos) db):DE X E (.BoolOp .And (a::b::rest) pos) (nr m db):=λF S o f H Q p q=>by
 refine bT (L7 bL bL) (s F S o f H _ p (JA q λk d l i j g u h=>?_));cases k with
 |true=>exact mC (r l i d f j Q g h)
 |false=>exact mr (h l i j g (bI.refl ..) _ rfl)
theorem TB(j:DE X E a m):DE X E (.UnaryOp .Not a pos) (Jz m):=λF S g d H Q h q=>bT (Uc bL) (j F S g d H _ h (JA q λk f r o p i s l=>l r o p i (bI.refl ..) _ rfl))
def bS{f:Type}(t:ad Bool)(m db:ad f):ad f:=λε=>(t ε).bind λk d=>match k with
 |true=>m d
 |false=>db d
theorem RD(r:DT X E c n)(u:DE X E a m)(s:DE X E b db):DE X E (.IfExp c a b pos) (bS n m db):=λF S o f H Q p q=>by
 refine bT (Hk mz bL bL) (r F S o f H _ p ((Ok.bind q).imp λk d l i j g v h=>?_));cases k with
 |true=>exact mC (u l i d f j Q g h)
 |false=>exact mr (s l i d f j Q g h)
def P1(K:aw)(r:V->Hp->VK->Prop)(f:PV->Option PV):Prop:=∀(F:ab->Prop) (H:Hp) (x:PV) (v:V) (Q:VK) (pv:PV),aT K H F x v->f x=aa pv->(∀w g d,Al F g H d->aT K d g pv w->Q w d)->r v H Q
def d1(f:PV->Option PV)(m:ad PV):ad PV:=λε=>(m ε).bind λx d=>aW (f x) d
theorem R_(z:P1 X.K r f)(C:DE X E a m)(u:aY X.K F S i d H)(h:Ok X.K E d F S H (d1 f m i) (λpv _ p _ g=>∀v,aT X.K g p pv v->Q v g)):ix X a d H λx o=>r x o Q:=by
 refine C F S i d H _ u ((Ok.bind h).imp λx q G D o y I l v s=>?_);cases e:f x with
 |none=>rw[e]at l;trivial
 |some pv=>rw[e]at l;exact z G o x v Q pv s e λw p g al j=>l p D g (y.al al) al.grow w j
theorem kT(j:yY X (unaryOp d) r)(i:P1 X.K r f)(l:DE X E a m):DE X E (.UnaryOp d a pos) (d1 f m):=λF S p o H Q g h=>bT (T1 j bL) (R_ i l g h)
end
def qb(X:Cx)(d:List au):TA:=λb H Q=>Bx (∀a c s,Inv X c b H s->ao X.zz X.A (spliced (c8 a (aV d X.env))) (AP X c b Q) X.xe s)
def DA(X:Cx)(E:XK)(h:List au)(d:ad (List PV)):Prop :=
 ∀F S c a H Q,aY X.K F S c a H->Ok X.K E a F S H (d c) (λb _ i _ g=>∀f,bd X.K g i b f->Q f g)->qb X h a H Q
section
variable{X:Cx}{E:XK}{a b c e:au}{es:List au}{D d:ad PV}{j:ad (List PV)}{pos:Pos}
theorem eC:PA X es (qb X es):=λpos f s _ _ _ I h=>h.run pos f s I
theorem qp(h:PA X es t)(q:t f H Q):qb X es f H Q:=⟨λpos g s I=>h pos g s f H Q I q⟩
def az:ad (List PV):=λε=>.ok [] ε
def ap(d:ad PV)(j:ad (List PV)):ad (List PV):=λε=>(d ε).bind λx g=>(j g).bind λh f=>.ok (x::h) f
theorem aH:DA X E [] az:=λF S i g H Q f h=>qp gM (h F S H f (bI.refl ..) _ rfl)
theorem QE(u:DE X E e d)(s:DA X E es j)(r:(aV (e::es) X.env=(ai,aS e X.env)::aV es X.env)^0):DA X E (e::es) (ap d j):=λF S m g H Q p h=>by refine qp (fU bL eC r) (u F S m g H _ p ((Ok.bind h).imp λx f M G J i O y v o=>?_));refine s M G f g J _ i ((Ok.bind y).imp λN l L C I q z w n A=>?_);exact w L C I q (bI.refl ..) _ ⟨v,n,rfl,o.grow z i.fit,A⟩
theorem aY.more{K:aw}{N:ab->Prop}{S:Nat->ab->Prop}{n:ah}{m:St}{H:Hp}(r:aY K F S n m H)(p:∀b,N b->¬U S b/\∃o,H b=aa o):aY K (λb=>F b\/N b) S n m H:=by
 have mono:∀x v,aT K H F x v->aT K H (λb=>F b\/N b) x v:=aT.mono (λ_ h=>.inl h) (λ_ _ _ q=>q) (λ_ _ q _=>q);have f:∀x v,bd K H F x v->bd K H (λb=>F b\/N b) x v:=bd.mono (λ_ h=>.inl h) (λ_ _ _ q=>q) (λ_ _ q _=>q);refine⟨r.len,λb h=>h.elim (r.ex b) λz=>(p b z).2,λi pv e=>?_,λi s e=>?_,λi b h=>?_,r.dist⟩
 .obtain⟨v,l,g⟩:=r.val i pv e;exact⟨v,l,mono _ _ g⟩
 .obtain⟨v,l,g⟩:=r.own i s e;exact⟨v,l,g.mono mono f λ_ _ _ z=>z⟩
 .obtain⟨l,g,u⟩:=r.foot i b h;exact⟨l,λz=>z.elim g λw=>(p b w).1 ⟨i,h⟩,u⟩
def AL:PO->Option PV
 |.lst f=>aa (.lst f)
 |_=>ac
def dF(d:ad PO):ad PV:=λε=>(d ε).bind λg f=>aW (AL g) f
theorem DN.de{d:ad PO}(h:DN X E e d):DE X E e (dF d):=λF S ε r H Q A q=>by
 unfold dF at q;refine h F S ε r H Q A ?_;cases i:d ε with
 |no=>rw[i]at q;trivial
 |er c u=>rw[i]at q;exact q
 |ok I s=>
  rw[i]at q;intro W l m G g a p J n;cases I with
  |dK f=>exact q.elim
  |lls P=>exact q.elim
  |dL P=>exact q.elim
  |ins C fs=>exact q.elim
  |dT f=>exact q.elim
  |dN f=>trivial
  |inl C fs y v=>exact q.elim
  |lst v=>
   have O:∀b,p b->¬U l b/\∃o,m b=aa o:=λb z=>let ⟨_,_,x3,o,x4,_⟩:=n b z;⟨x3,o,x4⟩
   obtain⟨⟨x,M,L⟩,N⟩:=J;have T:bI (U S) (U l) F (λb=>W b\/p b) H m:=⟨λb z=>.inl (g.fro b z),g.keep,g.there,λb z=>z.elim (g.fnew b) λw=>.inr (.inl (n b w).1),g.onew⟩
   exact q _ l m (G.more O) T _ ⟨a,x,rfl,.inl M,.inr ((N a).mpr rfl),bd.mono (λ_ z=>.inl z) (λ_ _ _ z=>z) (λ_ _ z _=>z) _ _ L⟩
noncomputable def eE(f:List PV):Option PV:=if f.length<=1000 then aa (.tup f)else ac
noncomputable def cB(f:List PV):Option PO:=if f.length<=1000 then aa (.lst f)else ac
def dL{h:Type}(f:List PV->Option h)(j:ad (List PV)):ad h:=λε=>(j ε).bind λi g=>aW (f i) g
def PL(K:aw)(r:List V->Hp->VK->Prop)(f:List PV->Option PV):Prop:=∀(F:ab->Prop) (H:Hp) (h:List PV) (i:List V) (Q:VK) (pv:PV),bd K H F h i->f h=aa pv->(∀w l g,Al F l H g->aT K g l pv w->Q w g)->r i H Q
def kc(K:aw)(r:List V->Hp->VK->Prop)(f:List PV->Option PO):Prop:=∀(F:ab->Prop) (H:Hp) (i:List PV) (l:List V) (Q:VK) (m:PO),(∀a,F a->∃o,H a=aa o)->bd K H F i l->f i=aa m ->
 (∀a h g n,Al F h H g->eR K g h m a n->(∀b,n b->H b=ac/\¬h b/\∃o,g b=aa o/\eA o)->Q (.ref a) g)->r l H Q
theorem Cc(z:PL X.K r f)(A:DA X E es j)(x:aY X.K F S m g H)(h:Ok X.K E g F S H (dL f j m) (λpv _ q _ l=>∀v,aT X.K l q pv v->Q v l)):qb X es g H λi p=>r i p Q:=by
 refine A F S m g H _ x ((Ok.bind h).imp λi s I G p y J o u C=>?_);cases e:f i with
 |none=>rw[e]at o;trivial
 |some pv=>rw[e]at o;exact z I p i u Q pv C e λw q l al n=>o q G l (y.al al) al.grow w n
theorem jv{l:ab->Prop}{H f:Hp}(g:bI O i F l H f){b:ab}(h:f b=ac):H b=ac:=by
 cases q:H b with
 |none=>rfl
 |some o=>obtain⟨o',e⟩:=g.there b o q;lia
theorem qE(N:kc X.K r f)(O:DA X E es j)(L:aY X.K F S q l H)(h:Ok X.K E l F S H (dL f j q) (λu _ p Z g=>∀a n,eR X.K g p u a n->(∀b,n b->H b=ac/\¬p b/\¬U Z b/\∃o,g b=aa o/\eA o)->Q (.ref a) g)):qb X es l H λm x=>r m x Q:=by
 refine O F S q l H _ L ((Ok.bind h).imp λm y F1 Y x s P v J W=>?_);cases e:f m with
 |none=>rw[e]at v;trivial
 |some u=>rw[e]at v;refine N F1 x m J Q u s.ex W e λa p g n al M T=>v p Y g (s.al al) al.grow a n M λb z=>?_;obtain⟨I,G,o,C,A⟩:=T b z;refine⟨jv P I,G,λ⟨i,w⟩=>?_,o,C,A⟩;obtain⟨_,_,o',w1,_⟩:=s.foot i b w;lia
theorem Bo(h:n<=1000):n<=bh:=ig (Cp h)
theorem Pq{K:aw}:PL K (λf H Q=>f.length<=bh/\∀p,H p=ac->Q (.ref p) (upd H p (.tup f))) eE:=λF H f i Q pv g e q=>by
 unfold eE at e;split at e
 .cases e;refine⟨by rw[g.len];exact Bo (by trivial),λp h=>q _ F _ (Al.new0 h) ⟨p,i,rfl,upd_same,(Al.new0 h).reps g⟩⟩
 trivial
theorem uK{K:aw}{l:ab}{g:List PV}{f:List V}(i:H l=ac)(h:bd K H F g f):eR K (upd H l (.lst f)) F (.lst g) l (λb=>b=l):=⟨⟨f,upd_same,(Al.new0 i).reps h⟩,λb=>i5⟩
theorem x8{F:ab->Prop}{o:HO}(h:H l=ac)(i:∀a,F a->∃o,H a=aa o)(g:eA o):∀b,b=l->H b=ac/\¬F b/\∃f,(upd H l o) b=aa f/\eA f:=λb z=>by subst z;exact⟨h,(λw=>by grind),o,upd_same,g⟩
theorem Ux{K:aw}:kc K (λf H Q=>f.length<=bh/\∀p,H p=ac->Q (.ref p) (upd H p (.lst f))) cB:=λF H f l Q m i h e q=>by
 unfold cB at e;split at e
 .cases e;exact⟨by rw[h.len];exact Bo (by trivial),λp g=>q p F _ _ (Al.new0 g) (uK g h) (x8 g i trivial)⟩
 trivial
theorem ge{x1}(h:DA X E es j):DE X E (.Tuple es x1 pos) (dL eE j):=λF S i g H Q f q=>bT (NR eC) (Cc Pq h f q)
theorem ke(h:DA X E es j):DN X E (.List es pos) (dL cB j):=λF S i g H Q f q=>bT (UY eC) (qE Ux h f q)
theorem kY(h:DA X E es j):DE X E (.List es pos) (dF (dL cB j)):=(ke h).de
variable{x:Str}{p:Pos}{m:String}{r:List V->Hp->VK->Prop}{f:List PV->Option PV}{A:List PV->Option PO}
theorem cb(v:c_ X (.builtin m) r)(l:PL X.K r f)(o:X.mg x=ac)(i:dX x=aa (.builtin m))(w:DA X E (e::es) j)(s:Gl X x^0)(n:(x≠"__name__")^1)(h:av x^1)(u:(aV (e::es) X.env=(ai,aS e X.env)::aV es X.env)^0) (y:((c8 pos (aV es X.env)).any (·.1)=ai)^0):DE X E (.Call (.Name x p) (e::es) [] pos) (dL f j):=λF S C z H Q g q=>bT (jQ v s o i eC n h u y) (Cc l w g q)
theorem xD(v:c_ X (.builtin m) r)(l:kc X.K r A)(o:X.mg x=ac)(i:dX x=aa (.builtin m))(w:DA X E (e::es) j)(s:Gl X x^0)(n:(x≠"__name__")^1)(h:av x^1)(u:(aV (e::es) X.env=(ai,aS e X.env)::aV es X.env)^0) (y:((c8 pos (aV es X.env)).any (·.1)=ai)^0):DN X E (.Call (.Name x p) (e::es) [] pos) (dL A j):=λF S C z H Q g q=>bT (jQ v s o i eC n h u y) (qE l w g q)
theorem yU(v:c_ X (.type T) r)(l:PL X.K r f)(o:X.mg x=ac)(i:dX x=aa (.type T))(w:DA X E (e::es) j)(s:Gl X x^0)(n:(x≠"__name__")^1)(h:av x^1)(u:(aV (e::es) X.env=(ai,aS e X.env)::aV es X.env)^0) (y:((c8 pos (aV es X.env)).any (·.1)=ai)^0):DE X E (.Call (.Name x p) (e::es) [] pos) (dL f j):=λF S C z H Q g q=>bT (lO v s o i eC n h u y) (Cc l w g q)
theorem xV(v:c_ X (.type T) r)(l:kc X.K r A)(o:X.mg x=ac)(i:dX x=aa (.type T))(w:DA X E (e::es) j)(s:Gl X x^0)(n:(x≠"__name__")^1)(h:av x^1)(u:(aV (e::es) X.env=(ai,aS e X.env)::aV es X.env)^0) (y:((c8 pos (aV es X.env)).any (·.1)=ai)^0):DN X E (.Call (.Name x p) (e::es) [] pos) (dL A j):=λF S C z H Q g q=>bT (lO v s o i eC n h u y) (qE l w g q)
theorem bV{r:R2}{f:PV->PV->Option PV}(l:nj X r)(n:P2 X.K r f)(q:DE X E a B)(o:DE X E b db)(i:BS b^8):DE X E (.Subscript a b pos) (d2 f B db):=λF S u s H Q g h=>bT (P4 l bL bL i) (yM n q o g h)
def B8(X:Cx)(e:Option au):TO:=λg H Q=>Bx (∀h s,Inv X h g H s->ao X.zz X.A (evalPart e X.env) (λu l=>∃o i,Inv X h g i l/\lW u o/\Q o i) X.xe s)
theorem xp:L2.PO X o (B8 X o):=λg s _ _ _ I h=>h.run g s I
theorem JY(h:L2.PO X o t)(q:t g H Q):B8 X o g H Q:=⟨λi s I=>h i s g H Q I q⟩
def DO(X:Cx)(E:XK)(e:Option au)(d:ad (Option Int)):Prop:=∀F S h g H Q,aY X.K F S h g H->Ok X.K E g F S H (d h) (λo _ _ _ i=>Q o i)->B8 X e g H Q
def bW:ad (Option Int):=λε=>.ok ac ε
def T8:PV->Option Int
 |.int i=>aa i
 |_=>ac
def bf(d:ad PV):ad (Option Int):=λε=>(d ε).bind λx g=>aW ((T8 x).map aa) g
theorem cQ:DO X E ac bW:=λF S l i H Q g h=>JY PH (h F S H g (bI.refl ..))
theorem ci(w:DE X E e d):DO X E (aa e) (bf d):=λF S o l H Q s h=>by
 refine JY (RC bL) (w F S o l H _ s ((Ok.bind h).imp λx n C y z u G g v q=>?_));cases x <;> first|exact(show False from g).elim|skip
 rename_i i;exact⟨i,q,g C y z u (bI.refl ..)⟩
def bC{n:Type}(f:PV->Option Int->Option Int->Option n)(d:ad PV)(q o:ad (Option Int)):ad n:=λε=>(d ε).bind λx i=>(q i).bind λl h=>(o h).bind λu g=>aW (f x l u) g
def BM(K:aw)(r:V->Option Int->Option Int->Hp->VK->Prop)(f:PV->Option Int->Option Int->Option PV):Prop:=∀(F:ab->Prop) (H:Hp) (x:PV) (h i:Option Int) (v:V) (Q:VK) (pv:PV),aT K H F x v->f x h i=aa pv->(∀w l g,Al F l H g->aT K g l pv w->Q w g)->r v h i H Q
theorem cE{r:V->Option Int->Option Int->Hp->VK->Prop}{f:PV->Option Int->Option Int->Option PV}{C G:Option au}{J I:ad (Option Int)}{W:Pos}(Z:lG X r)(hp:BM X.K r f)(he:DE X E e d)(hl:DO X E C J)(Y:DO X E G I):DE X E (.Subscript e (.Slice C G ac W) pos) (bC f d J I):=λF S M g H Q O h=>by
 refine bT (HF Z bL xp xp) (he F S M g H _ O ((Ok.bind h).imp λx n F1 S1 H1 z g1 h1 v N=>?_));refine hl F1 S1 n g H1 _ z ((Ok.bind h1).imp λl i F2 S2 H2 y g2 h2=>?_);refine Y F2 S2 i g H2 _ y ((Ok.bind h2).imp λu L F3 S3 H3 P g3 q=>?_);cases s:f x l u with
 |none=>rw[s]at q;trivial
 |some pv=>rw[s]at q;exact hp F3 H3 x l u v Q pv ((N.grow g2 z.fit).grow g3 y.fit) s λw F' H' al o=>q F' S3 H' (P.al al) al.grow w o
end
inductive aG where
 |next|ret (s:Slot)|brk|cont
def sR(K:aw)(H:Hp)(F:ab->Prop)(s:Slot)(v:V)(c:ab->Prop):Prop:=match s with
 |.val pv=>aT K H F pv v/\∀b,¬c b
 |.own d=>∃a,v=.ref a/\eR K H F d a c
 |.none=>False
def ju(b:List Nat)(c a:St):Prop:=∀i∈b,a[i]?=c[i]?
theorem ju.refl(a:List Nat)(b:St):ju a b b:=λ_ _=>rfl
theorem ju.trans(a:ju c g f)(b:ju c f d):ju c g d:=λi h=>(b i h).trans (a i h)
theorem ju.set(h:i∉a):ju a b (b.set i x):=λj c=>by rw[ff (by rintro rfl;trivial)]
def vF(f:ab->Prop)(c:Nat->ab->Prop)(d:Hp)(a:ab->Prop):Prop:=∀b,a b->¬f b/\¬U c b/\∃o,d b=aa o/\eA o
def jP(K:aw)(E:XK)(i:List Nat)(j:St)(F:ab->Prop)(S:Nat->ab->Prop)(H:Hp)(r:R aG)(D:kR):Prop:=match r with
 |.ok .next f=>∀g h a d,aY K g h f a d->bI (U S) (U h) F g H d->ju i j a->D.nx a d
 |.ok .brk f=>∀g h a d,aY K g h f a d->bI (U S) (U h) F g H d->ju i j a->D.bk a d
 |.ok .cont f=>∀g h a d,aY K g h f a d->bI (U S) (U h) F g H d->ju i j a->D.ct a d
 |.ok (.ret s) f=>∀v g h a d l,aY K g h f a d->bI (U S) (λb=>U h b\/l b) F g H d->ju i j a->sR K d g s v l->vF g h d l->D.rt v d
 |.er c f=>∀x g h a d,aY K g h f a d->bI (U S) (U h) F g H d->ju i j a->E c x d
 |.no=>False
def DS(X:Cx)(E:XK)(b:List Nat)(f:aR)(d:ad aG):Prop:=∀F S c a H D,aY X.K F S c a H->jP X.K E b a F S H (d c) D->wpS X f D a H
def fP(X:Cx)(E:XK)(b:List Nat)(f:List aR)(d:ad aG):Prop:=∀F S c a H D,aY X.K F S c a H->jP X.K E b a F S H (d c) D->nE X f D a H
section
variable{K:aw}{E:XK}{b:List Nat}{d i:St}{F m:ab->Prop}{S j:Nat->ab->Prop}{H l:Hp}{D:kR}
theorem jP.from(h:jP K E b d F S H r D)(g:bI (U S) (U j) F m H l)(p:ju b d i):jP K E b i m j l r D:=by
 cases r with
 |no=>exact h
 |er c y=>exact λx w q a u n g' o=>h x w q a u n (g.trans g') (p.trans o)
 |ok f y=>
  cases f with
  |next=>exact λw q a u n g' o=>h w q a u n (g.trans g') (p.trans o)
  |brk=>exact λw q a u n g' o=>h w q a u n (g.trans g') (p.trans o)
  |cont=>exact λw q a u n g' o=>h w q a u n (g.trans g') (p.trans o)
  |ret s=>exact λv w q a u z n g' o=>h v w q a u z n (g.trans g') (p.trans o)
theorem jP.bindE{r:R o}(h:jP K E b d F S H (r.bind k) D):Ok K E d F S H r (λa f m j l=>jP K E b d m j l (k a f) D):=by
 cases r with
 |no=>exact h
 |er c g=>exact λx u q s p n=>h x u q d s p n (ju.refl _ _)
 |ok a g=>exact λu q s p n=>h.from n (ju.refl _ _)
end
section
variable{X:Cx}{E:XK}{pin:List Nat}{l:aR}{rest:List aR}{d d1 d2:ad aG}{e:au}{pos:Pos}
def cm:ad aG:=λε=>.ok .next ε
theorem cH:fP X E pin [] cm:=λF S c a H D b h=>vq NG (h F S a H b (bI.refl ..) (ju.refl _ _))
def aC(d1 d2:ad aG):ad aG:=λb=>match d1 b with
 |.ok .next a=>d2 a
 |r=>r
theorem aI(q:DS X E pin l d1)(p:fP X E pin rest d2):fP X E pin (l::rest) (aC d1 d2):=λF S i j H D m h=>by
 refine vq (E_ xM nL) (q F S i j H {D with nx:=nE X rest D} m ?_);unfold aC at h;split at h
 .rename_i b v;rw[v];exact λz x a y n u o=>p z x b a y D n (h.from u o)
 .rename_i r w;generalize d1 i=r1 at h w;cases r1 with
  |no=>exact h
  |er c g=>exact h
  |ok f g=>
   cases f with
   |next=>lia
   |brk=>exact h
   |cont=>exact h
   |ret s=>exact h
theorem aJ(f:DS X E pin l d1):fP X E pin [l] d1:=λF S b a H D c h=>vq (FX xM) (f F S b a H D c h)
def JV(f:aG):ad aG:=λa=>.ok f a
def WF(d:ad PV):ad aG:=λb=>(d b).bind λ_ a=>.ok .next a
def cz(d:ad PV):ad aG:=λε=>(d ε).bind λx a=>.ok (.ret (.val x)) a
theorem bI.cup(g:bI O c F i H f):bI O (λb=>c b\/False) F i H f:=⟨g.fro,g.keep,g.there,g.fnew,λa h=>h.elim (g.onew a) False.elim⟩
theorem cS(j:DE X E e de):DS X E pin (.Return (aa e) pos) (cz de):=λF S c a H D g h=>eY (uA bL) (j F S c a H _ g (h.bindE.imp λx b p n o i q m v f=>m v p n a o (λ_=>False) i (bI.refl ..).cup (ju.refl _ _) ⟨f,λ_ z=>z⟩ λ_ z=>z.elim))
theorem U0:DS X E pin (.Return ac pos) (JV (.ret (.val .non))):=λF S c a H D b h=>eY VC (h _ F S a H (λ_=>False) b (bI.refl ..).cup (ju.refl _ _) ⟨rfl,λ_ z=>z⟩ λ_ z=>z.elim)
def fO(d:ad PO):ad aG:=λb=>(d b).bind λx a=>.ok (.ret (.own x)) a
theorem h_(u:DN X E e dn):DS X E pin (.Return (aa e) pos) (fO dn):=λF S j g H D p h=>by
 refine eY (uA bL) (u F S j g H _ p ?_);unfold fO at h;cases i:dn j with
 |no=>rw[i]at h;trivial
 |er c o=>rw[i]at h;exact λx J B G r v=>h x J B g G r v (ju.refl _ _)
 |ok L n=>rw[i]at h;intro I A C q f a y s m;exact h _ I A g C y q ⟨f.fro,f.keep,f.there,f.fnew,λb z=>z.elim (f.onew b) λw=>.inr (m b w).1⟩ (ju.refl _ _) ⟨a,rfl,s⟩ λb z=>let ⟨_,x2,x3,x4⟩:=m b z;⟨x2,x3,x4⟩
noncomputable def kX(i:Nat):ad aG:=λa=>match a[i]? with
 |some (.own b)=>.ok (.ret (.own b)) (a.set i .none)
 |_=>.no
theorem aY.drop{K:aw}{c:ah}{f:St}{H:Hp}(r:aY K F S c f H)(i:Nat):aY K F (λj b=>S j b/\j≠i) (c.set i .none) f H:=by
 have no:∀{j s},(c.set i .none)[j]?=aa s->s≠.none->j≠i/\c[j]?=aa s:=λ{j s} e p=>by
  grind
 refine⟨by rw[kn];exact r.len,r.ex,λj pv e=>r.val j pv (no e (by simp)).2,λj po e=>?_,λj b h=>?_,λj k b m g=>r.dist j k b m.1 g.1⟩
 .obtain⟨q,e⟩:=no e (by simp);obtain⟨a,m,g⟩:=r.own j po e;simp_all
 .obtain⟨⟨po,o⟩,n⟩:=r.foot j b h.1;exact⟨⟨po,by rw[ff (fF h.2)];trivial⟩,n⟩
theorem o6(i:Nat)(s:(X.N[i]?=aa x)^0)(n:cO X.env.scope x^2)(r:av x^1)(v:a4 x^1):DS X E pin (.Return (aa (.Name x p)) pos) (kX i):=λF S y f H D c h=>by
 unfold kX at h;split at h
 .rename_i g e;obtain⟨a,u,m⟩:=c.own i g e;refine eY (uA (dR s n r v)) ⟨_,u,h _ F (λj b=>S j b/\j≠i) f H (S i) (c.drop i) ⟨λ_ z=>z,λ_ _ z _=>z,λ_ o z=>⟨o,z⟩,λ_ z=>.inl z,λb z=>?_⟩ (ju.refl _ _) ⟨a,rfl,m⟩ λb z=>?_⟩
  .rcases z with⟨j,z,_⟩|z
   .exact .inl ⟨j,z⟩
   .exact .inl ⟨i,z⟩
  .exact⟨(c.foot i b z).2.1,λ⟨j,w,q⟩=>q (c.dist j i b w z),(c.foot i b z).2.2⟩
 .exact h.elim
theorem aY.set{K:aw}{f:ah}{g:St}{H:Hp}{i:Nat}{pv:PV}{v:V}(r:aY K F S f g H)(h:aT K H F pv v):aY K F (λj b=>S j b/\j≠i) (f.set i (.val pv)) (g.set i (aa v)) H:=by
 have m:=r.drop i;have len:(f.set i (.val pv)).length=(g.set i (aa v)).length:=by rw[kn,kn];exact r.len
 refine⟨len,r.ex,λj p e=>?_,λj po e=>?_,λj b h=>?_,m.dist⟩
 .by_cases c:i=j
  .subst c;have s:i<f.length:=by have:=(cW.mp e).1;rw[kn]at this;trivial
   rw[iT s]at e;cases e;exact⟨v,iT (by rw[<-r.len];trivial),h⟩
  .rw[ff c]at e;obtain⟨w,u,n⟩:=r.val j p e;exact⟨w,by rw[ff c];trivial,n⟩
 .have c:i≠j:=by
   grind
  rw[ff c]at e;obtain⟨a,u,n⟩:=r.own j po e;have x:(λb=>S j b/\j≠i)=S j:=by funext b;simp[fF c]
  exact⟨a,by rw[ff c];trivial,by rw[x];trivial⟩
 .obtain⟨⟨po,q⟩,o⟩:=m.foot j b h;refine⟨⟨po,?_⟩,o⟩;rw[ff (fF h.2)]at q ⊢;trivial
theorem bI.less(i:Nat):bI (U S) (U λj b=>S j b/\j≠i) F F H H:=⟨λ_ z=>z,λ_ _ z _=>z,λ_ o z=>⟨o,z⟩,λ_ z=>.inl z,λb ⟨j,z⟩=>.inl ⟨j,z.1⟩⟩
theorem aY.setOwn{K:aw}{n:ah}{s:St}{H:Hp}{i:Nat}{u:PO}{a:ab}{Sa:ab->Prop}(r:aY K F S n s H)(v:i<n.length)(h:eR K H F u a Sa)(o:vF F S H Sa):aY K F (λj b=>(S j b/\j≠i)\/(j=i/\Sa b)) (n.set i (.own u)) (s.set i (aa (.ref a))) H:=by
 have x:=r.drop i;refine⟨by rw[kn,kn];exact r.len,r.ex,λj p e=>?_,λj g e=>?_,λj b h=>?_,λj k b f c=>?_⟩
 .have m:i≠j:=by rintro rfl;rw[iT v]at e;cases e
  rw[ff m]at e;obtain⟨w,f,c⟩:=r.val j p e;exact⟨w,by rw[ff m];trivial,c⟩
 .by_cases m:i=j
  .subst m;rw[iT v]at e;cases e;have q:(λb=>(S i b/\i≠i)\/(i=i/\Sa b))=Sa:=by simp
   exact⟨a,iT (by rw[<-r.len];trivial),by rw[q];exact h⟩
  .rw[ff m]at e;obtain⟨A,f,c⟩:=r.own j g e;have q:(λb=>(S j b/\j≠i)\/(j=i/\Sa b))=S j:=by funext b;simp[fF m]
   exact⟨A,by rw[ff m];trivial,by rw[q];trivial⟩
 .rcases h with h|⟨rfl,h⟩
  .obtain⟨⟨g,z⟩,y⟩:=x.foot j b h;refine⟨⟨g,?_⟩,y⟩;rw[ff (fF h.2)]at z ⊢;trivial
  .obtain⟨D,C,B⟩:=o b h;simp_all
 .rcases f with f|⟨rfl,f⟩ <;> rcases c with c|⟨rfl,c⟩
  .exact r.dist j k b f.1 c.1
  .exact absurd ⟨j,f.1⟩ (o b c).2.1
  .exact absurd ⟨k,c.1⟩ (o b f).2.1
  rfl
def bG(i:Nat)(d:ad PV):ad aG:=λε=>(d ε).bind λx a=>.ok .next (a.set i (.val x))
theorem cP(i:Nat)(u:X.N.Nodup)(s:DE X E e de)(o:(i∉pin)^1)(q:(X.N[i]?=aa x)^0)(m:Loc X.env.scope x^6)(n:(iG e (aa (.Name x p)) pos.line X.env=pure ai)^0)(r:a3 X x^3):DS X E pin (.Assign [.Name x p] e pos) (bG i de):=λF S c a H D g h=>eY (CZ u q m bL n r) (s F S c a H _ g (h.bindE.imp λx b z B y j A w v f=>w z _ _ y (j.set f) (bI.less i) (ju.set o)))
def dw(i:Nat)(d:ad PO):ad aG:=λε=>(d ε).bind λx a=>if i<a.length then .ok .next (a.set i (.own x))else .no
theorem fC(i:Nat){x:Str}(L:X.N.Nodup)(J:DN X E e dn)(C:(i∉pin)^1)(G:(X.N[i]?=aa x)^0)(A:Loc X.env.scope x^6)(B:(iG e (aa (.Name x p)) pos.line X.env=pure ai)^0)(I:a3 X x^3):DS X E pin (.Assign [.Name x p] e pos) (dw i dn):=λF S q o H D u h=>by
 refine eY (CZ L G A bL B I) (J F S q o H _ u ?_);unfold dw at h;cases n:dn q with
 |no=>rw[n]at h;trivial
 |er c s=>rw[n]at h;exact λx T N P w M=>h x T N o P w M (ju.refl _ _)
 |ok W g=>
  rw[n]at h;simp only[R.bind_ok]at h;intro Q Z O v f a Y y r;by_cases m:i<g.length
  .rw[if_pos m]at h;refine h Q _ _ O (v.setOwn m y λb z=>(r b z).2) ⟨f.fro,f.keep,f.there,f.fnew,λb ⟨j,z⟩=>?_⟩ (ju.set C);rcases z with z|⟨_,z⟩
   .exact f.onew b ⟨j,z.1⟩
   .exact .inr (r b z).1
  .rw[if_neg m]at h;trivial
theorem cI{t:ad Bool}(r:DT X E c t)(u:fP X E pin a d1)(s:fP X E pin b d2):DS X E pin (.If c a b pos) (bS t d1 d2):=λF S p g H D q h=>by
 refine eY (Vd mz nL nL) (r F S p g H _ q (h.bindE.imp λk f o m n i v j=>?_));cases k with
 |true=>exact mC (u o m f g n D i j)
 |false=>exact mr (s o m f g n D i j)
def hZ:ad aG:=λ_=>.no
theorem lg:DS X E pin l hZ:=λ_ _ _ _ _ _ _ h=>h.elim
theorem vH:fP X E pin a hZ:=λ_ _ _ _ _ _ _ h=>h.elim
def dI(r:R aG):R aG:=match r with
 |.er _ _=>.no
 |r=>r
theorem hU(h:DS X.nox E0 pin l d):DS X E pin l (λa=>dI (d a)):=λF S a b H D i q=>Bx.mk λm s I=>by
 have q:jP X.K E pin b F S H (dI (d a)) D:=q;have j:jP X.K E0 pin b F S H (d a) D:=by
  cases e:d a with
  |no=>rw[e]at q;exact q
  |er c g=>rw[e]at q;trivial
  |ok f g=>rw[e]at q;cases f <;> exact q
 exact eU ((h F S a b H D i j).run m s (I.wish _)) (λ_ _ z=>z.unwish) λ_ _ z=>z.elim
def nQ(X:Cx)(f a:au):TI:=λb H h=>Bx (∀c s,Inv X c b H s->ao X.zz X.A (aS a X.env) (λv g=>ao X.zz X.A (mK v) (uo X c b f h) X.xe g) X.xe s)
theorem vS:PI X b a (nQ X b a):=λc s _ _ _ I h=>h.run c s I
theorem A7(h:PI X f a t)(q:t b H c):nQ X f a b H c:=⟨λg s I=>h g s b H c I q⟩
def DI(X:Cx)(E:XK)(q a:au)(d:ad (List PV)):Prop:=∀F S m c H n,aY X.K F S m c H ->
 Ok X.K E c F S H (d m) (λg _ p r i=>∀J f o,bd X.K i p g f->f.length<=bh->Walk J f o->(∀h j b,bI (U r) (U h) p j i b->o b)->n J i)->nQ X q a c H n
def li(i:Nat)(c:ad aG):List PV->ah->R aG
 |[],b=>.ok .next b
 |x::f,b=>match c (b.set i (.val x))with
  |.ok .next a=>li i c f a
  |.ok .cont a=>li i c f a
  |.ok .brk a=>.ok .next a
  |r=>r
def dv(i:Nat)(c:ad (List PV))(db:ad aG):ad aG:=λε=>(c ε).bind λb a=>li i db b a
theorem fA(i:Nat){x:Str}{r:List aR}{di:ad (List PV)}{G:ad aG}(r8:tz X.zz X.A X.env X.xe)(hc:X.calm=ag)(hN:X.N.Nodup)(hi:DI X E (.Name x p) o di)(hb:fP X E pin r G)(hp:(i∉pin)^1) (B:(X.N[i]?=aa x)^0) (Q:Loc X.env.scope x^6) (hs:(∀x,km o X.env x=pure x)^4)(hf:a3 X x^3):DS X E pin (.For (.Name x p) o r [] pos) (dv i di G):=λF S ε σ H D rl h=>by
 refine eY (BF r8 hc vS (nV hN B Q hf) nL hs) (hi F S ε σ H _ rl (h.bindE.imp λz L F1 S1 H1 r1 g1 h1 J vs RR Z hz hw keep=>?_));refine Cn hw (λk a n=>∃u w m,aY X.K u w m a n/\bI (U S1) (U w) F1 u H1 n/\jP X.K E pin a u w n (li i G (z.drop k) m) D) ⟨F1,S1,L,r1,bI.refl ..,h1⟩ (λk a n _ ⟨u,w,m,_,g,_⟩=>keep w u n g) ?_ ?_
 .rintro k v a n hv ⟨u,w,m,O,C,q⟩;obtain⟨x,B,rx⟩:=Z.back hv;have hk:k<z.length:=(cW.mp B).1;have ed:z.drop k=x::z.drop (k+1):=by rw[zE hk];congr 1;exact(cW.mp B).2
  rw[ed]at q;have M:=rx.grow C r1.fit;have r2:=O.set (i:=i) M;have T:bI (U w) (U λj b=>w j b/\j≠i) u u n n:=bI.less i;show nE X r _ (a.set i (aa v)) n;refine hb u _ _ _ n _ r2 ?_;unfold li at q;have q:=q.from T (ju.set (x:=aa v) hp);cases e:G (m.set i (.val x))with
  |no=>rw[e]at q;exact q
  |er c y=>rw[e]at q;exact q
  |ok f y=>
   rw[e]at q;cases f with
   |next=>exact λY W I H3 N A P=>⟨Y,W,y,N,(C.trans T).trans A,q.from A P⟩
   |cont=>exact λY W I H3 N A P=>⟨Y,W,y,N,(C.trans T).trans A,q.from A P⟩
   |brk=>exact q
   |ret s=>exact q
 .rintro a n ⟨u,w,m,O,C,q⟩;have Q:vs.length=z.length:=Z.len;rw[Q,zF]at q;exact q u w a n O (bI.refl ..) (ju.refl _ _)
def iC(t:ad Bool)(c:ad aG):Nat->ah->R aG
 |0,_=>.no
 |n+1,ε=>(t ε).bind λk b=>match k with
  |false=>.ok .next b
  |true=>match c b with
   |.ok .next a=>iC t c n a
   |.ok .cont a=>iC t c n a
   |.ok .brk a=>.ok .next a
   |r=>r
theorem BA{j:ad aG}(P:ah->Nat)(T:tz X.zz X.A X.env X.xe)(Y:DT X E c t)(Z:fP X E pin n j):DS X E pin (.While c n [] pos) (λv=>iC t j (P v) v):=λF S v σ H D Q h=>by
 refine eY (Uy T mz nL) ⟨λm b u=>∃y x a,aY X.K y x a b u/\jP X.K E pin b y x u (iC t j m a) D,⟨P v,F,S,v,Q,h⟩,?_⟩;rintro m g H1 ⟨F1,S1,A,W,q⟩;cases m with
 |zero=>exact q.elim
 |succ m=>
  refine Y F1 S1 A g H1 _ W (q.bindE.imp λk p N J L O g2 i=>?_);cases k with
  |false=>exact mr (i N J g L O (bI.refl ..) (ju.refl _ _))
  |true=>
   refine mC ⟨λb u=>∃y x a,aY X.K y x a b u/\jP X.K E pin b y x u (iC t j m a) D,λb u w=>⟨m,KO m,w⟩,Z N J p g L _ O ?_⟩;have i:jP X.K E pin g N J L (match j p with
    |.ok .next a=>iC t j m a
    |.ok .cont a=>iC t j m a
    |.ok .brk a=>.ok .next a
    |r=>r) D:=i
   cases e:j p with
   |no=>rw[e]at i;exact i
   |er c o=>rw[e]at i;trivial
   |ok f o=>
    rw[e]at i;cases f with
    |next=>exact λM I z H3 B G C=>⟨M,I,o,B,i.from G C⟩
    |cont=>exact λM I z H3 B G C=>⟨M,I,o,B,i.from G C⟩
    |brk=>trivial
    |ret s=>trivial
end
def yG(K:aw)(E:XK)(i:List V)(F:ab->Prop)(S:Nat->ab->Prop)(H:Hp)(r:R Slot)(Q:VK):Prop:=match r with
 |.ok s h=>∀v d f a g,aY K d f h (i.map aa) a->bI (U S) (λb=>U f b\/g b) F d H a->sR K a d s v g->vF d f a g->(∀b,g b->H b=ac)->Q v a
 |.er c h=>∀x d f a,aY K d f h (i.map aa) a->bI (U S) (U f) F d H a->E c x a
 |.no=>False
noncomputable def dO(K:aw)(g:ad Slot):Sp:=λa H Q E=>∃F S b,aY K F S b (a.map aa) H/\yG K E a F S H (g b) Q
structure jk(CX:eX)(P:aM)(w:aD)(K:aw)(mg:Str->Option af)(base:ax)(x:Str)(k:Nat)(ps:List Str)(sp:Sp):Prop where
 ex:∃f fd,mg x=aa (.ref f)/\jf P w K mg base CX k f fd ps sp/\Binds K fd ps []/\pr K (.ref f)=ag
def back:ah->ah->Option ah
 |[],_=>aa []
 |.own _::a,.own c::b=>(back a b).map (.own c::·)
 |.own _::_,_=>ac
 |s::a,_::b=>(back a b).map (s::·)
 |_::_,[]=>ac
theorem x6:∀{a c b:ah},back a c=aa b->b.length=a.length/\∀(i:Nat) (s:Slot),b[i]?=aa s->(∃f d,a[i]?=aa (.own f)/\c[i]?=aa (.own d)/\s=.own d)\/(a[i]?=aa s/\∀f,s≠.own f)
 |[],_,b,h=>by cases h;exact⟨rfl,λi s e=>by simp at e⟩
 |.own f::a,.own d::c,b,h=>by
  unfold back at h;cases e:back a c with
  |none=>rw[e]at h;cases h
  |some r=>
   rw[e]at h;cases h;obtain⟨l,q⟩:=x6 e;refine⟨by simp[l],λi s g=>?_⟩;cases i with
   |zero=>simp at g;subst g;exact .inl ⟨f,d,rfl,rfl,rfl⟩
   |succ i=>simpa using q i s (by trivial)
 |.own f::a,.none::c,b,h=>by cases h
 |.own f::a,.val _::c,b,h=>by cases h
 |.own f::a,[],b,h=>by cases h
 |.none::a,[],b,h=>by cases h
 |.val _::a,[],b,h=>by cases h
 |.none::a,x::c,b,h=>by
  have h:(back a c).map (Slot.none::·)=aa b:=by trivial
  cases e:back a c with
  |none=>rw[e]at h;cases h
  |some r=>
   rw[e]at h;cases h;obtain⟨l,q⟩:=x6 e;refine⟨by simp[l],λi s g=>?_⟩;cases i with
   |zero=>simp at g;subst g;exact .inr ⟨rfl,λ_ z=>by cases z⟩
   |succ i=>simpa using q i s (by trivial)
 |.val pv::a,x::c,b,h=>by
  have h:(back a c).map (Slot.val pv::·)=aa b:=by trivial
  cases e:back a c with
  |none=>rw[e]at h;cases h
  |some r=>
   rw[e]at h;cases h;obtain⟨l,q⟩:=x6 e;refine⟨by simp[l],λi s g=>?_⟩;cases i with
   |zero=>simp at g;subst g;exact .inr ⟨rfl,λ_ z=>by cases z⟩
   |succ i=>simpa using q i s (by trivial)
def bg(n:Nat)(d:ad aG):ad Slot:=λf=>match d (f++fJ n .none)with
 |.ok (.ret r) a=>(aW (back f a) []).bind λb _=>.ok r b
 |.ok .next a=>(aW (back f a) []).bind λb _=>.ok (.val .non) b
 |.er c a=>(aW (back f a) []).bind λb _=>.er c b
 |_=>.no
section
variable{K:aw}{F x:ab->Prop}{S o:Nat->ab->Prop}{c l m:ah}{f:St}{H u:Hp}{d:List V}
theorem aY.start(r:aY K F S c (d.map aa) H)(n:Nat):aY K F S (c++fJ n .none) (d.map aa++fJ n ac) H:=by
 have w:c.length=(d.map aa).length:=r.len;have no:∀{j:Nat}{s:Slot},(c++fJ n Slot.none)[j]?=aa s->s≠.none->c[j]?=aa s:=λ{j s} e y=>by
  grind
 have up:∀{j:Nat}{v:Option V},(d.map aa)[j]?=aa v->(d.map aa++fJ n ac)[j]?=aa v:=λ{j v} e=>by rw[jV (cW.mp e).1];exact e
 refine⟨by simp[w],r.ex,λj pv e=>?_,λj a e=>?_,λj b h=>?_,r.dist⟩
 .obtain⟨v,i,g⟩:=r.val j pv (no e (by simp));exact⟨v,up i,g⟩
 .obtain⟨v,i,g⟩:=r.own j a (no e (by simp));exact⟨v,up i,g⟩
 .obtain⟨⟨a,q⟩,p⟩:=r.foot j b h;exact⟨⟨a,by rw[jV (cW.mp q).1];exact q⟩,p⟩
theorem GR(h:eR K H F i a j)(q:ki i=ag):∀b,j b↔b=a:=by
 cases i with
 |lst n=>exact h.2
 |dK g=>exact h.2
 |lls p=>trivial
 |dL p=>trivial
 |ins C fs=>exact h.2
 |dT g=>exact h.2
 |dN g=>exact h.2
 |inl C fs y n=>trivial
theorem PP(h:eR K H F g a i):i a:=by
 cases g with
 |lst j=>exact(h.2 a).mpr rfl
 |dK b=>exact(h.2 a).mpr rfl
 |lls n=>obtain⟨p,_,_,_,_,w⟩:=h;simp_all
 |dL n=>obtain⟨p,_,_,_,_,w⟩:=h;simp_all
 |ins C fs=>exact(h.2 a).mpr rfl
 |dT b=>exact(h.2 a).mpr rfl
 |dN b=>exact(h.2 a).mpr rfl
 |inl C fs y j=>obtain⟨_,_,_,_,_,_,_,_,_,_,w⟩:=h;simp_all
theorem aY.back(C:aY K F S c (d.map aa) H)(r:aY K x o l f u)(g:bI (U S) X F x H u)(p:ju D (d.map aa++fJ n ac) f)(P:∀(i:Nat) (s:PO),c[i]?=aa (.own s)->i∈D)(T:back c l=aa m):∃B,aY K x B m (d.map aa) u/\(∀b,U B b->U o b)/\((∀(i:Nat) (s:PO),c[i]?=aa (.own s)->ki s=ag)->∀b,U S b->U B b):=by
 obtain⟨L,E⟩:=x6 T;have inj:∀(i:Nat) (s:PO),c[i]?=aa (.own s)->∃a,(d.map aa)[i]?=aa (aa (.ref a))/\f[i]?=aa (aa (.ref a))/\eR K H F s a (S i):=λi s e=>by obtain⟨a,A,y⟩:=C.own i s e;refine⟨a,A,?_,y⟩;rw[p i (P i s e),jV (cW.mp A).1];trivial
 have bk:∀(i:Nat) (s:PO),c[i]?=aa (.own s)->∃w,m[i]?=aa (.own w)/\l[i]?=aa (.own w):=λi s e=>by
  have Q:i<m.length:=by rw[L];exact(cW.mp e).1
  rcases E i m[i] (by simp)with⟨p1,p2,q1,q2,q3⟩|⟨q1,q2⟩
  .exact⟨p2,by rw[eh Q,q3],q2⟩
  .rw[e]at q1;exact absurd (fG q1).symm (q2 s)
 refine⟨λi b=>o i b/\∃s,c[i]?=aa (.own s),⟨by rw[L];exact C.len,r.ex,λi pv e=>?_,λi s e=>?_,λi b h=>?_,λi j b A y=>r.dist i j b A.1 y.1⟩,λb ⟨i,h⟩=>⟨i,h.1⟩,λO b ⟨i,h⟩=>?_⟩
 .rcases E i _ e with⟨_,_,_,_,z⟩|⟨q1,_⟩
  .cases z
  .obtain⟨v,A,y⟩:=C.val i pv q1;exact⟨v,A,y.grow g C.fit⟩
 .rcases E i _ e with⟨p1,p2,q1,q2,q3⟩|⟨_,q2⟩
  .cases q3;obtain⟨a,A,y,N⟩:=inj i p1 q1;obtain⟨W,G,M⟩:=r.own i s q2;simp_all
  .exact absurd rfl (q2 s)
 .obtain⟨s,q⟩:=h.2;obtain⟨w,J,I⟩:=bk i s q;exact⟨⟨w,J⟩,(r.foot i b h.1).2⟩
 .obtain⟨⟨s,q⟩,_⟩:=C.foot i b h;obtain⟨a,A,y,N⟩:=inj i s q;obtain⟨w,J,I⟩:=bk i s q;obtain⟨W,G,M⟩:=r.own i w I;rw[y]at G;cases G;have e:b=a:=(GR N (O i s q) b).mp h;exact⟨i,e ▸ PP M,s,q⟩
end
theorem yB{K:aw}{F:ab->Prop}{S:Nat->ab->Prop}{H:Hp}{r:R Slot}{Q:VK}(h:yG K E a F S H r Q):r≠.no:=λz=>by rw[z]at h;exact h
theorem Nb{K:aw}(d:∀a,g a≠.no->a.length=m):∀b H Q E,dO K g b H Q E->b.length=m:=λb H Q E ⟨F,S,a,c,ok⟩=>by
 have:=d a (yB ok);have f:=c.len
 grind
theorem Vs{s:List aR}{N W:List Str}{n:Nat}{g:ad Slot}{d:ad aG}{A:List Nat}(hn:N.length=W.length+n)(bo:∀a,g a≠.no->a.length=W.length) (lz:∀a,g a≠.no->∀(i:Nat) po,a[i]?=aa (.own po)->i∈A) (pT:∀a p m,g a=.ok p m->(∃pv,p=.val pv)\/∀(i:Nat) po,a[i]?=aa (.own po)->ki po=ag) (hg:∀a,g a≠.no->bg n d a=g a)(hb:fP X E A s d) (mX:dO X.K g u H Q E):nE X s {nx:=λ_ l=>Q .non l,rt:=Q} (L2.start N u) H:=by
 obtain⟨F,S,a,M,ok⟩:=mX;have hl:=bo a (yB ok);have h2:=M.len;rw[cy]at h2;have es:L2.start N u=u.map aa++fJ n ac:=by unfold L2.start;simp_all
 rw[es];refine hb F S _ _ H _ (M.start n) ?_;have Z:=lz a (yB ok);have T:=hg a (yB ok);have L:=pT a;rw[<-T]at ok L;unfold bg at ok L;generalize d (a++fJ n .none)=r at ok L ⊢;cases r with
 |no=>exact ok
 |er c h=>
  intro x q C j l D f G;have ok:yG X.K E u F S H ((aW (back a h) []).bind λm _=>.er c m) Q:=ok;cases e:back a h with
  |none=>rw[e]at ok;trivial
  |some m=>rw[e]at ok;obtain⟨B,y,o,_⟩:=M.back D f G Z e;exact ok x q B l y ⟨f.fro,f.keep,f.there,f.fnew,λb z=>f.onew b (o b z)⟩
 |ok fl h=>
  have I:∀(p:Slot),(∀m,back a h=aa m->(∃pv,p=.val pv)\/∀(i:Nat) po,a[i]?=aa (.own po)->ki po=ag)->yG X.K E u F S H ((aW (back a h) []).bind λm _=>.ok p m) Q->∀(v:V) q C j l J,aY X.K q C h j l->bI (U S) (λb=>U C b\/J b) F q H l->ju A (u.map aa++fJ n ac) j->sR X.K l q p v J->vF q C l J->Q v l:=by
   intro p P ok v q C j l J D f G Y O;cases e:back a h with
   |none=>rw[e]at ok;trivial
   |some m=>
    rw[e]at ok;obtain⟨B,y,o,up⟩:=M.back D f G Z e;refine ok v q B l J y ⟨f.fro,f.keep,f.there,f.fnew,λb z=>f.onew b (z.imp (o b) id)⟩ Y (λb z=>⟨(O b z).1,λw=>(O b z).2.1 (o b w),(O b z).2.2⟩) λb z=>?_;rcases P m e with⟨pv,rfl⟩|hf
    .exact absurd z (Y.2 b)
    rcases f.onew b (.inr z)with w|w
    .exact absurd (o b (up hf b w)) (O b z).2.1
    trivial
  cases fl with
  |brk=>trivial
  |cont=>trivial
  |ret p=>exact I p (λm e=>L p m ⋯) ok
  |next=>exact λq C j l D f G=>I (.val .non) (λ_ _=>.inl ⟨_,rfl⟩) ok .non q C j l (λ_=>False) D ⟨f.fro,f.keep,f.there,f.fnew,λb z=>z.elim (f.onew b) False.elim⟩ G ⟨rfl,λ_ z=>z⟩ λ_ z=>z.elim
theorem Fu{P:aM}{w:aD}{K:aw}{v:Str->Option af}{j:ax}{x b:Str}{h:aR}{N l:List Str}{k n:Nat}{g:ad Slot}{d:ad aG}{m:List Nat}(Z:qr K x b h f p)(Y:bq N l (aQ h))(O:N.length=l.length+n)(hb:∀(kV o u:af) (B:Option ab) (C y:af) (q:List af),q.length=l.length->fH (iW x b (ji h) (eT h) (aQ h) .none kV o u B C y) ⟨q,[]⟩=pure (l.zip q))(z:∀c,g c≠.no->c.length=l.length) (J:∀c,g c≠.no->∀(i:Nat) po,c[i]?=aa (.own po)->i∈m) (F:∀c r X,g c=.ok r X->(∃pv,r=.val pv)\/∀(i:Nat) po,c[i]?=aa (.own po)->ki po=ag) (S:∀c,g c≠.no->bg n d c=g c)(T:∀(A:aZ) (a:List Env) (s:ak) (H:Hp) (E:XK),Room k (A.deeper (iV b (aQ h) s.heap.objs.size f p.code))->fP (ic D P w K v j N b (aQ h) f p.code A a s H E) E m (eT h) d):jf P w K v j D (k+1) f p l (dO K g):=by obtain⟨oc,od,kV,o,u,B,C,y,G,rfl,L,W⟩:=Z.ex;exact L9 L W Y (Nb z) λA a s H vs Q E M I=>⟨_,nL,Vs O z J F S (T A a s H E M) I⟩
theorem HK{P:aM}{w:aD}{K:aw}{y:Str->Option af}{l:ax}{x b:Str}{j:aR}{N m:List Str}{k n:Nat}{g:ad Slot}{d:ad aG}{p:List Nat}(Q:qr K x b j f u)(O:bq N m (aQ j))(D:N.length=m.length+n)(G:∀(kV v C:af) (M:Option ab) (q J:af) (r:List af),r.length=m.length->fH (iW x b (ji j) (eT j) (aQ j) .none kV v C M q J) ⟨r,[]⟩=pure (m.zip r))(L:∀c,g c≠.no->c.length=m.length) (z:∀c,g c≠.no->∀(i:Nat) o,c[i]?=aa (.own o)->i∈p/\ki o=ag) (F:∀c,g c≠.no->bg n d c=g c)(I:∀(f:ab) (q:af) (A:aZ) (a:List Env) (s:ak) (H:Hp) (E:XK),Room k (A.deeper (iV b (aQ j) s.heap.objs.size f q))->fP (ic B P w K y l N b (aQ j) f q A a s H E) E p (eT j) d):jf P w K y l B (k+1) f u m (dO K g):=Fu Q O D G L (λc h i o e=>(z c h i o e).1) (λc S T h=>.inr λi o e=>(z c ⋯ i o e).2) F λA a s H E=>I f u.code A a s H E
theorem VT{K:aw}{p:Str->Option af}{c:ax}{x:Str}{b:aR}{N j:List Str}{k n:Nat}{g:ad Slot}{d:ad aG}{l:List Nat}(D:bw K p x b)(O:bq N j (aQ b))(B:N.length=j.length+n)(u:∀(kV q y:af) (M:Option ab) (m J:af) (o:List af),o.length=j.length->fH (iW x x (ji b) (eT b) (aQ b) .none kV q y M m J) ⟨o,[]⟩=pure (j.zip o))(L:∀a,g a≠.no->a.length=j.length) (z:∀a,g a≠.no->∀(i:Nat) po,a[i]?=aa (.own po)->i∈l/\ki po=ag) (F:∀a,g a≠.no->bg n d a=g a)(G:∀(f:ab) (m:af) (A:aZ) (h:List Env) (s:ak) (H:Hp) (E:XK),Room k (A.deeper (iV x (aQ b) s.heap.objs.size f m))->fP (ic v P w K p c N x (aQ b) f m A h s H E) E l (eT b) d):jk v P w K p c x (k+1) j (dO K g):=by obtain⟨f,I,C,r⟩:=D.ex;exact⟨f,I,C,HK r O B u L z F G,r.binds u,r.kp⟩
noncomputable abbrev cu:=Sum PV Nat
def jt(K:aw)(b:St)(F:ab->Prop)(H:Hp):List cu->List V->Prop
 |[],a=>a=[]
 |.inl pv::c,a=>∃v r,a=v::r/\aT K H F pv v/\jt K b F H c r
 |.inr i::c,a=>∃v r,a=v::r/\b[i]?=aa (aa v)/\jt K b F H c r
def DG(X:Cx)(E:XK)(g:List au)(d:ad (List cu)):Prop :=
 ∀F S b a H Q,aY X.K F S b a H->Ok X.K E a F S H (d b) (λh _ i _ f=>∀c,jt X.K a i f h c->Q c f)->qb X g a H Q
section
variable{c:ad (List cu)}{f:Pos}
def aX:ad (List cu):=λε=>.ok [] ε
def gV(d:ad PV)(c:ad (List cu)):ad (List cu):=λε=>(d ε).bind λx g=>(c g).bind λh a=>.ok (.inl x::h) a
def gO(i:Nat)(c:ad (List cu)):ad (List cu):=λε=>match ε[i]? with
 |some (.own _)=>(c ε).bind λd a=>.ok (.inr i::d) a
 |_=>.no
theorem a8:DG X E [] aX:=λF S g d H Q a h=>qp gM (h F S H a (bI.refl ..) _ rfl)
theorem NH(r:DE X E e de)(q:DG X E b c)(p:(aV (e::b) X.env=(ai,aS e X.env)::aV b X.env)^0):DG X E (e::b) (gV de c):=λF S j d H Q n h=>by refine qp (fU bL eC p) (r F S j d H _ n ((Ok.bind h).imp λx a G A C g J u v m=>?_));refine q G A a d C _ g ((Ok.bind u).imp λI i D z B o w s l y=>?_);exact s D z B o (bI.refl ..) _ ⟨v,l,rfl,m.grow w g.fit,y⟩
theorem jJ(i:Nat)(u:DG X E b c)(w:(X.N[i]?=aa x)^0)(r:cO X.env.scope x^2)(v:av x^1)(A:a4 x^1) (s:(aV (.Name x p::b) X.env=(ai,aS (.Name x p) X.env)::aV b X.env)^0):DG X E (.Name x p::b) (gO i c):=λF S m j H Q d h=>by
 unfold gO at h;split at h
 .rename_i q e;obtain⟨a,g,_⟩:=d.own i q e;refine qp (fU (dR w r v A) eC s) ⟨_,g,u F S m j H _ d ((Ok.bind h).imp λG l D B C o I y n z=>?_)⟩;exact y D B C o (bI.refl ..) _ ⟨_,n,rfl,g,z⟩
 .exact h.elim
end
def gm(a:ah):List cu->Option ah
 |[]=>aa []
 |.inl pv::b=>(gm a b).map (.val pv::·)
 |.inr i::b=>match a[i]? with
  |some (.own c)=>(gm a b).map (.own c::·)
  |_=>ac
def iu:ah->List cu->ah->ah
 |a,.inl _::c,_::b=>iu a c b
 |a,.inr i::c,s::b=>iu (a.set i s) c b
 |a,_,_=>a
def cU:List cu->List Nat
 |[]=>[]
 |.inl _::as=>cU as
 |.inr i::as=>i::cU as
theorem Hl:∀{as:List cu}{i:Nat},i∈cU as↔∃k:Nat,as[k]?=aa (.inr i)
 |[],i=>by simp[cU]
 |.inl _::as,i=>by
  unfold cU;rw[Hl];constructor
  .rintro⟨k,h⟩;exact⟨k+1,by trivial⟩
  .rintro⟨k,h⟩;cases k with
   |zero=>simp at h
   |succ k=>exact⟨k,by trivial⟩
 |.inr j::as,i=>by
  unfold cU;rw[b8,Hl];constructor
  .rintro(rfl|⟨k,h⟩)
   .exact⟨0,rfl⟩
   .exact⟨k+1,by trivial⟩
  .rintro⟨k,h⟩;cases k with
   |zero=>simp at h;exact .inl h.symm
   |succ k=>exact .inr ⟨k,by trivial⟩
theorem yo:∀{a:List cu}{b:ah},gm d a=aa b->b.length=a.length/\∀(k:Nat) (s:Slot),b[k]?=aa s->(∃pv,a[k]?=aa (.inl pv)/\s=.val pv)\/∃i f,a[k]?=aa (.inr i)/\d[i]?=aa (.own f)/\s=.own f
 |[],b,h=>by cases h;exact⟨rfl,λk s e=>by simp at e⟩
 |.inl pv::a,b,h=>by
  unfold gm at h;cases e:gm d a with
  |none=>rw[e]at h;cases h
  |some r=>
   rw[e]at h;cases h;obtain⟨l,q⟩:=yo e;refine⟨by simp[l],λk s c=>?_⟩;cases k with
   |zero=>simp at c;exact .inl ⟨pv,rfl,c.symm⟩
   |succ k=>simpa using q k s (by trivial)
 |.inr i::a,b,h=>by
  unfold gm at h;split at h
  .rename_i f g;cases e:gm d a with
   |none=>rw[e]at h;cases h
   |some r=>
    rw[e]at h;cases h;obtain⟨l,q⟩:=yo e;refine⟨by simp[l],λk s c=>?_⟩;cases k with
    |zero=>simp at c;exact .inr ⟨i,f,rfl,g,c.symm⟩
    |succ k=>simpa using q k s (by trivial)
  trivial
theorem xH:∀(c:List cu) (a b:ah),(iu a c b).length=a.length
 |[],a,b=>by cases b <;> rfl
 |.inl _::c,a,[]=>rfl
 |.inr _::c,a,[]=>rfl
 |.inl _::c,a,s::b=>xH c a b
 |.inr i::c,a,s::b=>by show(iu (a.set i s) c b).length=_;rw[xH,kn]
theorem s_:∀(a:List cu) (b c:ah) (j:Nat),j∉cU a->(iu b a c)[j]?=b[j]?
 |[],b,c,j,_=>by cases c <;> rfl
 |.inl _::a,b,[],j,_=>rfl
 |.inr _::a,b,[],j,_=>rfl
 |.inl _::a,b,s::c,j,h=>s_ a b c j h
 |.inr i::a,b,s::c,j,h=>by
  have d:¬(j=i\/j∈cU a):=by simpa[cU]using h
  show(iu (b.set i s) a c)[j]?=_;rw[s_ a _ c j λz=>d (.inr z),ff λz=>d (.inl z.symm)]
theorem uh:∀(a:List cu) (b c:ah) (j k:Nat) (s:Slot),(cU a).Nodup->j<b.length->a[k]?=aa (.inr j)->c[k]?=aa s->(iu b a c)[j]?=aa s
 |[],b,c,j,k,s,_,_,h,_=>by trivial
 |_::a,b,[],j,k,s,_,_,_,h=>by trivial
 |.inl _::a,b,t::c,j,0,s,_,_,h,_=>by simp at h
 |.inl _::a,b,t::c,j,k+1,s,nd,hj,h,g=>uh a b c j k s nd hj (by trivial) (by trivial)
 |.inr i::a,b,t::c,j,0,s,nd,hj,h,g=>by simp at h g;subst h g;have d:i∉cU a:=(lr.mp nd).1;show(iu (b.set i t) a c)[i]?=_;rw[s_ a _ c i d,iT hj]
 |.inr i::a,b,t::c,j,k+1,s,nd,hj,h,g=>uh a (b.set i t) c j k s (lr.mp nd).2 (by rw[kn];trivial) (by trivial) (by trivial)
theorem jt.len{K:aw}{H:Hp}:∀{a:List cu}{vs:List V},jt K b F H a vs->vs.length=a.length
 |[],_,h=>by rw[show _=[] from h];rfl
 |.inl _::a,_,⟨v,r,e,_,h⟩=>by rw[e,gH,gH,jt.len h]
 |.inr _::a,_,⟨v,r,e,_,h⟩=>by rw[e,gH,gH,jt.len h]
theorem jt.val{K:aw}{H:Hp}:∀{as:List cu}{c:List V}{k:Nat}{pv:PV},jt K d F H as c->as[k]?=aa (.inl pv)->∃v,c[k]?=aa v/\aT K H F pv v
 |[],_,k,_,_,e=>by trivial
 |.inl x::as,_,0,pv,⟨v,r,e,h,_⟩,q=>by simp at q;subst q e;exact⟨v,rfl,h⟩
 |.inr _::as,_,0,pv,_,q=>by simp at q
 |.inl x::as,_,k+1,pv,⟨v,r,e,_,h⟩,q=>by obtain⟨w,a,b⟩:=jt.val (k:=k) h (by trivial);subst e;exact⟨w,by trivial,b⟩
 |.inr x::as,_,k+1,pv,⟨v,r,e,_,h⟩,q=>by obtain⟨w,a,b⟩:=jt.val (k:=k) h (by trivial);subst e;exact⟨w,by trivial,b⟩
theorem jt.own{K:aw}{H:Hp}:∀{as:List cu}{d:List V}{k i:Nat},jt K c F H as d->as[k]?=aa (.inr i)->∃v,d[k]?=aa v/\c[i]?=aa (aa v)
 |[],_,k,_,_,e=>by trivial
 |.inr x::as,_,0,pv,⟨v,r,e,h,_⟩,q=>by simp at q;subst q e;exact⟨v,rfl,h⟩
 |.inl _::as,_,0,pv,_,q=>by simp at q
 |.inl x::as,_,k+1,pv,⟨v,r,e,_,h⟩,q=>by obtain⟨w,a,b⟩:=jt.own (k:=k) h (by trivial);subst e;exact⟨w,by trivial,b⟩
 |.inr x::as,_,k+1,pv,⟨v,r,e,_,h⟩,q=>by obtain⟨w,a,b⟩:=jt.own (k:=k) h (by trivial);subst e;exact⟨w,by trivial,b⟩
section
variable{K:aw}{F A:ab->Prop}{S m:Nat->ab->Prop}{c s f:ah}{u:St}{H y:Hp}{as:List cu}{d:List V}
noncomputable def mB(as:List cu)(S:Nat->ab->Prop)(k:Nat)(b:ab):Prop:=∃i,as[k]?=aa (.inr i)/\S i b
theorem ya(b:ab)(h:U (mB as S) b):U S b:=let ⟨_,i,_,h⟩:=h;⟨i,h⟩
theorem yV:∀{as:List cu}{i k l:Nat},(cU as).Nodup->as[k]?=aa (.inr i)->as[l]?=aa (.inr i)->k=l
 |[],_,_,_,_,h,_=>by trivial
 |.inl _::as,i,0,_,_,h,_=>by simp at h
 |.inl _::as,i,_,0,_,_,h=>by simp at h
 |.inl _::as,i,k+1,l+1,nd,h1,h2=>by rw[yV (as:=as) (i:=i) (k:=k) (l:=l) nd (by trivial) (by trivial)]
 |.inr j::as,i,0,0,_,_,_=>rfl
 |.inr j::as,i,0,l+1,nd,h1,h2=>by simp at h1;subst h1;exact absurd (Hl.mpr ⟨l,by trivial⟩) (lr.mp nd).1
 |.inr j::as,i,k+1,0,nd,h1,h2=>by simp at h2;subst h2;exact absurd (Hl.mpr ⟨k,by trivial⟩) (lr.mp nd).1
 |.inr j::as,i,k+1,l+1,nd,h1,h2=>by rw[yV (as:=as) (i:=i) (k:=k) (l:=l) (lr.mp nd).2 (by trivial) (by trivial)]
theorem aY.cal(r:aY K F S c u H)(D:jt K u F H as d)(L:gm c as=aa s)(J:(cU as).Nodup):aY K F (mB as S) s (d.map aa) H:=by
 obtain⟨G,C⟩:=yo L;have up:∀{k:Nat}{v:V},d[k]?=aa v->(d.map aa)[k]?=aa (aa v):=λ{k v} e=>by rw[cT,e];rfl
 refine⟨by rw[G,cy,D.len],r.ex,λk pv e=>?_,λk E e=>?_,λk b h=>?_,λk l b n x=>?_⟩
 .rcases C k _ e with⟨p,q1,g⟩|⟨_,_,_,_,z⟩
  .cases g;obtain⟨v,w,o⟩:=D.val q1;exact⟨v,up w,o⟩
  trivial
 .rcases C k _ e with⟨_,_,z⟩|⟨i,p,q1,g,q3⟩
  .cases z
  .cases q3;obtain⟨v,w,o⟩:=D.own q1;obtain⟨a,B,I⟩:=r.own i E g;rw[o]at B;cases B;have N:mB as S k=S i:=by funext b;exact propext ⟨λ⟨j,n,x⟩=>⋯,λh=>⟨i,q1,h⟩⟩
   exact⟨a,up w,by rw[N];trivial⟩
 .obtain⟨i,n,x⟩:=h;obtain⟨⟨E,q⟩,g⟩:=r.foot i b x;have M:k<s.length:=by rw[G];exact(cW.mp n).1
  refine⟨?_,g⟩;rcases C k s[k] (by simp)with⟨_,z,_⟩|⟨j,p,z1,z2,z3⟩
  .rw[n]at z;cases z
  .exact⟨p,by rw[eh M,z3]⟩
 .obtain⟨i,w,o⟩:=n;obtain⟨j,B,I⟩:=x;have:=r.dist i j b o I;subst this;exact yV J w B
theorem aY.called{O':ab->Prop}(r:aY K F S c u H)(ha:jt K u F H as d)(hs:gm c as=aa s)(P:(cU as).Nodup)(O:aY K A m f (d.map aa) y)(g:bI (U (mB as S)) O' F A H y)(hO:∀b,U m b->O' b)(M:∀(k:Nat) i,as[k]?=aa (.inr i)->∃D,f[k]?=aa (.own D)):∃X,aY K A X (iu c as f) u y/\bI (U S) (U X) F A H y/\∀b,U X b->U m b\/U S b:=by
 have up:∀{k:Nat}{v:V},(d.map aa)[k]?=aa (aa v)->d[k]?=aa v:=λ{k v} e=>by
  rw[cT]at e;cases q:d[k]? with
  |none=>rw[q]at e;cases e
  |some x=>rw[q]at e;cases e;rfl
 have fit:ny (U (mB as S)) F H:=λb h=>r.fit b (ya b h);have L:∀i D,c[i]?=aa (.own D)->i<c.length:=λi D e=>(cW.mp e).1;have lt:∀(k:Nat) i,as[k]?=aa (.inr i)->i<c.length:=λk i e=>by
  obtain⟨hl,hg⟩:=yo hs;have E:k<s.length:=by rw[hl];exact(cW.mp e).1
  rcases hg k s[k] (by simp)with⟨_,z,_⟩|⟨j,p,z1,z2,z3⟩
  .rw[e]at z;cases z
  .rw[e]at z1;cases z1;exact L _ _ z2
 refine⟨λj b=>(∃k:Nat,as[k]?=aa (.inr j)/\m k b)\/(j∉cU as/\S j b),⟨by rw[xH];exact r.len,O.ex,λj pv e=>?_,λj D e=>?_,λj b h=>?_,λi j b B C=>?_⟩,⟨g.fro,λb o e n=>g.keep b o e λz=>n (ya b z),g.there,λa z=>(g.fnew a z).imp id λw=>w.imp id (ya a),λb ⟨j,z⟩=>?_⟩,λb ⟨j,z⟩=>?_⟩
 .by_cases I:j∈cU as
  .obtain⟨k,E⟩:=Hl.mp I;obtain⟨D,q⟩:=M k j E;rw[uh as c f j k _ P (lt k j E) E q]at e;cases e
  .rw[s_ as c f j I]at e;obtain⟨v,B,C⟩:=r.val j pv e;exact⟨v,B,C.grow g fit⟩
 .by_cases I:j∈cU as
  .obtain⟨k,E⟩:=Hl.mp I;obtain⟨po',q⟩:=M k j E;rw[uh as c f j k _ P (lt k j E) E q]at e;cases e;obtain⟨a,B,C⟩:=O.own k D q;obtain⟨v,W,T⟩:=ha.own E;rw[up B]at W;cases W;have Q:(λb=>(∃k:Nat,as[k]?=aa (.inr j)/\m k b)\/(j∉cU as/\S j b))=m k:=by
    funext b;refine propext ⟨λz=>?_,λz=>.inl ⟨k,E,z⟩⟩;rcases z with⟨l,z1,z2⟩|⟨z,_⟩
    .rw[yV P E z1];trivial
    lia
   exact⟨a,T,by rw[Q];trivial⟩
  .rw[s_ as c f j I]at e;obtain⟨a,B,C⟩:=r.own j D e;have Q:(λb=>(∃k:Nat,as[k]?=aa (.inr j)/\m k b)\/(j∉cU as/\S j b))=S j:=by
    funext b;refine propext ⟨λz=>?_,λz=>.inr ⟨I,z⟩⟩;rcases z with⟨l,z1,z2⟩|⟨_,z⟩
    .exact absurd (Hl.mpr ⟨l,z1⟩) I
    trivial
   have h3:eR K y A D a (S j):=by refine C.mono (λ_ _ q=>q.grow g fit) (λ_ _ q=>q.grow g fit) λb o z q=>g.keep b o q λ⟨l,i,N,J⟩=>?_;have:=r.dist i j b J z;subst this;exact I (Hl.mpr ⟨l,N⟩)
   exact⟨a,B,by rw[Q];trivial⟩
 .rcases h with⟨k,B,C⟩|⟨B,C⟩
  .obtain⟨⟨D,q⟩,q2⟩:=O.foot k b C;exact⟨⟨D,uh as c f j k _ P (lt k j B) B q⟩,q2⟩
  .obtain⟨⟨D,q⟩,q2,o,Z,q4⟩:=r.foot j b C;have no:¬U (mB as S) b:=λ⟨l,i,N,J⟩=>by have:=r.dist i j b J C;subst this;exact B (Hl.mpr ⟨l,N⟩)
   refine⟨⟨D,by rw[s_ as c f j B];exact q⟩,λz=>?_,o,g.keep b o Z no,q4⟩;rcases g.fnew b z with w|w|w
   all_goals simp_all
 .have G:∀{i j:Nat}{b:ab},(∃k:Nat,as[k]?=aa (.inr i)/\m k b)->(j∉cU as/\S j b)->False:=λ{i j b} ⟨k,N,J⟩ ⟨w3,Y⟩=>by
   obtain⟨_,_,o,Z,_⟩:=r.foot j b Y;rcases g.onew b (hO b ⟨k,J⟩)with⟨l,i',z1,z2⟩|z
   .have:=r.dist i' j b z2 Y;subst this;exact w3 (Hl.mpr ⟨l,z1⟩)
   lia
  rcases B with B|B <;> rcases C with C|C
  .obtain⟨k,W,T⟩:=B;obtain⟨l,b1,b2⟩:=C;have:=O.dist k l b T b2;simp_all
  .exact(G B C).elim
  .exact(G C B).elim
  .exact r.dist i j b B.2 C.2
 .rcases z with⟨k,_,z⟩|⟨_,z⟩
  .rcases g.onew b (hO b ⟨k,z⟩)with w|w
   .exact .inl (ya b w)
   .exact .inr w
  .exact .inl ⟨j,z⟩
 .rcases z with⟨k,_,z⟩|⟨_,z⟩
  .exact .inl ⟨k,z⟩
  .exact .inr ⟨j,z⟩
end
def DR(X:Cx)(E:XK)(e:au)(d:ad Slot):Prop :=
 ∀F S f a H Q,aY X.K F S f a H->Ok X.K E a F S H (d f) (λs _ h i c=>∀v g,sR X.K c h s v g->(∀b,g b->H b=ac/\¬h b/\¬U i b/\∃o,c b=aa o/\eA o)->Q v c)->ix X e a H Q
def iR:List cu->ah->Bool
 |[],_=>ag
 |.inl _::as,_::ss=>iR as ss
 |.inr _::as,.own _::ss=>iR as ss
 |_,_=>ai
theorem oY:∀{as:List cu}{ss:ah},iR as ss=ag->∀(k:Nat) i,as[k]?=aa (.inr i)->∃a,ss[k]?=aa (.own a)
 |[],_,_,k,i,h=>by trivial
 |.inl _::as,s::ss,q,0,i,h=>by simp at h
 |.inl _::as,s::ss,q,k+1,i,h=>by simpa using oY (as:=as) (ss:=ss) (by trivial) k i (by trivial)
 |.inr _::as,.own a::ss,q,0,i,h=>⟨a,rfl⟩
 |.inr _::as,.own a::ss,q,k+1,i,h=>by simpa using oY (as:=as) (ss:=ss) (by trivial) k i (by trivial)
 |.inr _::as,.val _::ss,q,k,i,h=>by cases q
 |.inr _::as,.none::ss,q,k,i,h=>by cases q
 |.inl _::as,[],q,k,i,h=>by cases q
 |.inr _::as,[],q,k,i,h=>by cases q
def iL{f:Type}(d:ah)(b:List cu)(r:R f):R f:=match r with
 |.ok s a=>if iR b a then .ok s (iu d b a)else .no
 |.er c a=>if iR b a then .er c (iu d b a)else .no
 |.no=>.no
def aK(g:ad Slot)(d:ad (List cu)):ad Slot:=λε=>(d ε).bind λb a=>(aW (if(cU b).Nodup then gm a b else ac) a).bind λc a=>iL a b (g c)
section
variable{X:Cx}{E:XK}{es:List au}{pos:Pos}{g:ad Slot}{d:ad Slot}
theorem IY{K:aw}{S0 C:Nat->ab->Prop}{a:ah}{G:St}{H n:Hp}{c:List cu}{Y:List V}{Q:VK}(A:aY K r C a G n)(g1:bI (U S0) (U C) F0 r H n)(P:jt K G r n c Y)(q:Ok K E G r C n ((aW (if(cU c).Nodup then gm a c else ac) a).bind λD a=>iL a c (g D)) λs _ u W h=>∀v F,sR K h u s v F->(∀b,F b->H b=ac/\¬u b/\¬U W b/\∃o,h b=aa o/\eA o)->Q v h):dO K g Y n Q E:=by
 have q:=Ok.bind q;by_cases B:(cU c).Nodup
 .rw[if_pos B]at q;cases es:gm a c with
  |none=>rw[es]at q;trivial
  |some D=>
   rw[es]at q;have q:=q r C n A (bI.refl ..);dsimp only at q;refine⟨r,mB c C,D,A.cal P es B,?_⟩;cases O:g D with
   |no=>rw[O]at q;trivial
   |er cv S=>
    rw[O]at q;intro y u W h J N;unfold iL at q;dsimp only at q;by_cases f:iR c S=ag
    .rw[if_pos f]at q;obtain⟨T,I,M,_⟩:=A.called P es B J N (λ_ z=>z) (oY f);exact q y u T h I M
    .rw[if_neg f]at q;trivial
   |ok s S=>
    rw[O]at q;intro v u W h F J N rv L fr;unfold iL at q;dsimp only at q;by_cases f:iR c S=ag
    .rw[if_pos f]at q;obtain⟨T,I,M,Z⟩:=A.called P es B J N (λ_ z=>.inl z) (oY f);refine q u T h I M v F rv λb z=>⟨jv g1 (fr b z),(L b z).1,λw=>?_,(L b z).2.2⟩
     rcases Z b w with w|⟨i,w⟩
     .exact(L b z).2.1 w
     .obtain⟨_,_,o,y1,_⟩:=A.foot i b w
      grind
    .rw[if_neg f]at q;trivial
 .rw[if_neg B]at q;trivial
theorem qW(c:jk l X.prog X.w X.K X.mg X.base x k m (dO X.K g))(s:Room k X.A)(r:nH l X E)(A:DG X E (e::es) j)(w:Gl X x^0)(y:av x^1) (C:(aV (e::es) X.env=(ai,aS e X.env)::aV es X.env)^0) (B:((c8 pos (aV es X.env)).any (·.1)=ai)^0):DR X E (.Call (.Name x p) (e::es) [] pos) (aK g j):=λF S i a H Q n h=>by obtain⟨f,L,u,I,z,v⟩:=c.ex;refine bT (Gw I s w u v z .nil r eC y C B) (A F S i a H _ n ((Ok.bind h).imp λM b P N O o D q J G=>?_));rw[jU];exact IY o D G q
noncomputable def JD:Slot->Option PV
 |.val pv=>aa pv
 |.own (.lst a)=>aa (.lst a)
 |_=>ac
def bp(d:ad Slot):ad PV:=λε=>(d ε).bind λs a=>aW (JD s) a
def So:Slot->Option PO
 |.own a=>aa a
 |_=>ac
def ie(d:ad Slot):ad PO:=λb=>(d b).bind λs a=>aW (So s) a
theorem DR.dn(h:DR X E e d):DN X E e (ie d):=λF S f i H Q u q=>by
 unfold ie at q;refine h F S f i H Q u ?_;cases b:d f with
 |no=>rw[b]at q;trivial
 |er c o=>rw[b]at q;exact q
 |ok s n=>
  rw[b]at q;cases s with
  |none=>trivial
  |val pv=>exact q.elim
  |own I=>intro G C D w z v B r A;obtain⟨a,rfl,y⟩:=r;exact q G C D w z a B y A
theorem DR.de(h:DR X E e d):DE X E e (bp d):=λF S ε f H Q i q=>by
 unfold bp at q;cases b:d ε with
 |no=>rw[b]at q;exact q.elim
 |er c o=>refine h F S ε f H Q i ?_;rw[b]at q ⊢;exact q
 |ok s n=>
  cases s with
  |none=>rw[b]at q;exact q.elim
  |val pv=>refine h F S ε f H Q i ?_;rw[b]at q ⊢;exact λI D G w B v L u J=>q I D G w B v u.1
  |own z=>
   refine h.dn.de F S ε f H Q i ?_;unfold dF ie;rw[b]at q ⊢;cases z with
   |lst r=>exact q
   |dK a=>exact q
   |lls A=>exact q
   |dL A=>exact q
   |ins C fs=>exact q
   |dT a=>exact q
   |dN a=>exact q
   |inl C fs y r=>exact q
def iw(d:ad Slot):ad aG:=λε=>(d ε).bind λs a=>.ok (.ret s) a
theorem nq(C:DR X E e d):DS X E pin (.Return (aa e) pos) (iw d):=λF S n f H D y h=>by
 refine eY (uA bL) (C F S n f H _ y ?_);unfold iw at h;cases i:d n with
 |no=>rw[i]at h;trivial
 |er c r=>rw[i]at h;exact λx P L N B G=>h x P L f N B G (ju.refl _ _)
 |ok s q=>rw[i]at h;intro O J M A a v I u o;exact h v O J f M I A ⟨a.fro,a.keep,a.there,a.fnew,λb z=>z.elim (a.onew b) λw=>.inr (o b w).1⟩ (ju.refl _ _) u λb z=>(o b z).2
def fW(d:ad Slot):ad aG:=λε=>(d ε).bind λ_ a=>.ok .next a
theorem ir(o:DR X E e d)(n:(iG e ac pos.line X.env=pure ai)^0):DS X E pin (.Expr e pos) (fW d):=λF S c a H D f h=>eY (yf bL n) (o F S c a H _ f (h.bindE.imp λx b u r s i y q v A w z=>q u r a s i (bI.refl ..) (ju.refl _ _)))
end
inductive HH(K:aw)(σ:St)(F1:ab->Prop)(S1:Nat->ab->Prop)(H1:Hp)(l:ab)(n:Nat)(O:ah->List PV->Prop)(i m:Nat)(ys:List V)(H:Hp):Prop
 |mk (e:m=n-i) (hi:i<=n) (F:ab->Prop) (S:Nat->ab->Prop) (ε:ah) (aL:List PV) (r:aY K F S ε σ H) (g:bI (U S1) (U S) F1 F H1 H) (el:H l=aa (.lst ys)) (nF:¬F l) (nS:¬U S l) (racc:bd K H F aL ys) (hl:ys.length<=i) (q:O ε aL)
end Pu
namespace L2
section
variable{m:List (ab×Obj)}{s:ak}
theorem Hw{G:Pos}(B:iy X d x l i)(hk:k<=i.length)(hc:X.calm=ag)(hi:PI X P r wi)(io:∀C w A Y T,PG (bO X d l C w A Y T) P λv O H Q=>∃vs,vs.length=k+1/\O.length=l.length/\tgf v H vs/\Q (vs++O.drop (k+1)) H)(ht:∀C w A Y T,qJ (bO X d l C w A Y T) E ts) (he:∀C w A Y T,PE (bO X d l C w A Y T) F te) (hN:X.N.Nodup) (r_:X.N[J]?=aa y) (hxy:Loc X.env.scope y) (oG:iG (.ListComp F [⟨P,r,E,0⟩] d L) (aa (.Name y py)) G.line X.env=pure ag) (hf:X.fn y=ag\/X.env.scope.names.lookup y=aa .local) (hs:∀x,km r X.env x=pure x):PS X (.Assign [.Name y py] (.ListComp F [⟨P,r,E,0⟩] d L) G) (λD j H=>yX wi tgf k ts te i j H λv H'=>D.nx (j.set J (aa v)) H'):=by
 intro m s j H D I h;rw[exec_Assign_Name_used _ _ _ _ oG];refine aj (wpAny_standAt (aj ?_));show ao _ X.A (do let _ <-comprehension (.ListComp F [⟨P,r,E,0⟩] d L) d X.env _ (newList []) ai (aS r X.env) (aa (pj (.Name y py) X.env))) _ _ s;refine aj (eU (?_:ao _ X.A _ (λ_ s'=>SP X m D .next s') X.xe s) (λ_ s' hq=>aq (aq hq)) λ_ _ e=>e);refine Jl (use:=aa (pj (.Name y py) X.env)) B hk hc hi io ht he hs I h λ{M s6 H3 H5 fp σ5 a f} I3 f3 I6 q=>?_;obtain⟨mm,hn6,_⟩:=I6.loc;have J6:Inv X m j _ _:=I3.unblock f3 I6 (pB _ _);have nlc:M.heap.objs.size≠X.env.locals:=λe=>absurd I3.lt (by rw[<-e];simp);have W:∀z c,X.env.cells.lookup z=aa c->c≠M.heap.objs.size:=λz c e Z=>by obtain⟨vv,oo,ho,_⟩:=I3.cell z c e;exact absurd (bu ho) (by rw[Z];simp)
 refine wpAny_assign_Name (IZ (v:=.ref a) J6 hN r_ hxy rfl (λs7 I7 ⟨a7,sb7,ha7⟩=>?_) hf);have na7:M.heap.objs.size≠a7:=by
  rcases ha7 with z|z
  .rw[z];trivial
  .exact(W _ _ z).symm
 refine⟨mm,hn6.sameBut sb7 na7,λeN S=>⟨_,_,?_,q⟩⟩;have hC5:H5 M.heap.objs.size=ac:=I6.free;refine I7.call' (s':={s7 with heap:=eN}) (ch:=[M.heap.objs.size]) rfl ⟨λb o e n hb N=>?_,λb o e n hb N=>?_,λb o e n N=>n,λb o e N=>?_,λb xs e=>e,λb o u e=>e,λb ps e=>⟨e,λc o Z g=>⟨(S.2 c (λz=>by lia)).trans g,Z⟩⟩⟩ ?_ I7.bare λb hb=>?_
 .exact(S.2 b (~~~N)).trans e
 .exact⟨o.slots,(S.2 b (~~~N)).trans (by trivial)⟩
 .exact⟨o,(S.2 b (~~~N)).trans e⟩
 .intro b u e;refine(I7.hok b u e).stay (λc v hc q=>(S.2 c ?_).trans q) (λ_ q=>q) λ_ _ q=>q;lia
 .have e:b=M.heap.objs.size:= ~~~hb
  subst e;refine⟨.inr I3.sz,nlc,W,λp hp Z=>?_⟩;obtain⟨e3,_⟩:=I3.pin p hp;exact absurd (bu e3) (by rw[Z];simp)
theorem Ve{f:Pos}(B:iy X d x l i)(L:X.calm=ag)(G:PI X (.Name x p) a wi)(E:∀C b c u q,qJ (bO X d l C b c u q) h ts) (J:∀C b c u q,PE (bO X d l C b c u q) n te) (M:X.N.Nodup) (z:X.N[g]?=aa y) (r:Loc X.env.scope y) (A:iG (.ListComp n [⟨.Name x p,a,h,0⟩] d o) (aa (.Name y w)) f.line X.env=pure ag) (I:X.fn y=ag\/X.env.scope.names.lookup y=aa .local) (F:∀x,km a X.env x=pure x):PS X (.Assign [.Name y w] (.ListComp n [⟨.Name x p,a,h,0⟩] d o) f) (λD j H=>Di wi ts te i j H λv N=>D.nx (j.set g (aa v)) N):=Hw B (gW _) L G (Fw B) E J M z r A I F
end
end L2
namespace Pu
open L2
def jH(ε:ah):List Nat->Option (List cu)
 |[]=>aa []
 |j::cap=>match ε[j]? with
  |some (.val pv)=>(jH ε cap).map (.inl pv::·)
  |some (.own _)=>(jH ε cap).map (.inr j::·)
  |_=>ac
def lK{b:Type}(cap:List Nat)(d:ad b)(x:PV):ad b:=λε=>(aW (jH ε cap) ε).bind λa _=>(aW (if(cU a).Nodup then gm ε (.inl x::a)else ac) ε).bind λc _=>iL ε (.inl x::a) (d c)
def jK{a:Type}(r:R a):R a:=match r with
 |.er _ _=>.no
 |r=>r
def mD(cap:List Nat)(dt:ad Bool)(de:ad PV):List PV->List PV->ah->R (List PV)
 |[],b,ε=>.ok b ε
 |x::d,b,ε=>(jK (lK cap dt x ε)).bind λk a=>match k with
  |true=>(jK (lK cap de x a)).bind λy c=>mD cap dt de d (b++[y]) c
  |false=>mD cap dt de d b a
def eD(c:List Nat)(f:ad (List PV))(dt:ad Bool)(de:ad PV):ad PO:=λε=>(f ε).bind λd b=>(mD c dt de d [] b).bind λys a=>.ok (.lst ys) a
theorem xo{K:aw}{f:ah}{d:St}{H:Hp}(r:aY K F S f d H):∀{b:List Nat}{i:List cu},jH f b=aa i->∃c,jt K d F H i c/\fB d b=c.map aa
 |[],i,h=>by cases h;exact⟨[],rfl,rfl⟩
 |j::b,i,h=>by
  unfold jH at h;split at h
  .rename_i pv e;cases q:jH f b with
   |none=>rw[q]at h;cases h
   |some bs=>
    rw[q]at h;cases h;obtain⟨c,m,l⟩:=xo r q;obtain⟨v,g,n⟩:=r.val j pv e;refine⟨v::c,⟨v,c,rfl,n,m⟩,?_⟩;show(d[j]?).join::fB d b=_;rw[g,l];rfl
  .rename_i o e;cases q:jH f b with
   |none=>rw[q]at h;cases h
   |some bs=>
    rw[q]at h;cases h;obtain⟨c,m,l⟩:=xo r q;obtain⟨a,g,n⟩:=r.own j o e;refine⟨.ref a::c,⟨_,c,rfl,g,m⟩,?_⟩;show(d[j]?).join::fB d b=_;rw[g,l];rfl
  trivial
theorem FG{K:aw}{S:Nat->ab->Prop}{s:ah}{f:St}{H:Hp}{I:Type}{b:List Nat}{d:ad I}{x:PV}{v:V}{C:I->ah->(ab->Prop)->(Nat->ab->Prop)->Hp->Prop}(r:aY K F S s f H) (O:aT K H F x v) (h:Ok K E f F S H (jK (lK b d x s)) C):∃M l,aY K F M l (aa v::fB f b) H/\Ok K E0 (aa v::fB f b) F M H (d l) (λa _ q _ p=>∃j w,aY K q w j f p/\bI (U S) (U w) F q H p/\C a j q w p):=by
 unfold lK at h;cases D:jH s b with
 |none=>rw[D]at h;trivial
 |some g=>
  rw[D]at h;simp only[cA,R.bind_ok]at h;by_cases A:(cU g).Nodup
  .rw[if_pos A]at h;cases u:gm s (.inl x::g)with
   |none=>rw[u]at h;trivial
   |some l=>
    rw[u]at h;simp only[cA,R.bind_ok]at h;obtain⟨y,W,T⟩:=xo r D;have o:jt K f F H (.inl x::g) (v::y):=⟨v,y,rfl,O,W⟩
    have n:aa v::fB f b=(v::y).map aa:=by rw[T];rfl
    have m:(cU (.inl x::g)).Nodup:=A;refine⟨mB (.inl x::g) S,l,by rw[n];exact r.cal o u m,?_⟩;rw[n];cases B:d l with
    |no=>rw[B]at h;trivial
    |er c G=>
     rw[B]at h;unfold iL at h;dsimp only at h;by_cases i:iR (.inl x::g) G=ag
     .rw[if_pos i]at h;trivial
     .rw[if_neg i]at h;trivial
    |ok a G=>
     rw[B]at h;intro q w p P Q;unfold iL at h;dsimp only at h;by_cases i:iR (.inl x::g) G=ag
     .rw[if_pos i]at h;obtain⟨N,J,L,_⟩:=r.called o u m P Q (λ_ z=>z) (oY i);exact⟨_,N,J,L,h q N p J L⟩
     .rw[if_neg i]at h;trivial
  .rw[if_neg A]at h;trivial
def qH(X:Cx)(a:List au):TT:=λb H Q=>Bx (∀d s,Inv X d b H s->ao X.zz X.A (forIn a ag λc r=>if r=ag then do let ok <-nX c X.env (aS c X.env);pure (ForInStep.yield ok)else pure (ForInStep.yield r)) (TP X d b Q) X.xe s)
def DF(X:Cx)(E:XK)(c:List au)(d:ad Bool):Prop:=∀F S f a H Q,aY X.K F S f a H->Ok X.K E a F S H (d f) (λb _ _ _ g=>Q b g)->qH X c a H Q
def fR:ad Bool:=λε=>.ok ag ε
theorem ND:DF X E [] fR:=λF S d a H Q b h=>⟨λc s I=>Po c s a H Q I (h F S H b (bI.refl ..))⟩
theorem o4(h:DT X E c d):DF X E [c] d:=λF S b a H Q f q=>⟨λg s I=>Kd mz g s a H Q I (h F S b a H Q f q)⟩
theorem Ok.bindB{K:aw}{F s:ab->Prop}{S n:Nat->ab->Prop}{H p:Hp}{j i:Type}{D:i->ah->(ab->Prop)->(Nat->ab->Prop)->Hp->Prop}{r:R j}{k:j->ah->R i}(h:Ok K E b F S H (r.bind k) D)(g:bI (U S) (U n) F s H p):Ok K E b s n p r (λa d _ _ _=>Ok K E b F S H (k a d) D):=by
 cases r with
 |no=>exact h
 |er c f=>exact λx u o q l m=>h x u o q l (g.trans m)
 |ok a f=>exact λu o q l m=>h
section
theorem bI.stay(g:bI O a F h H b)(e:H l=aa o)(n:¬O l)(i:¬F l):b l=aa o/\¬h l/\¬a l :=⟨g.keep l o e n,λz=>(g.fnew l z).elim i λw=>w.elim (λq=>by lia) n,λz=>(g.onew l z).elim n λq=>by lia⟩
theorem aY.lay{K:aw}{p:ah}{m:St}{H:Hp}{l:ab}{o o':HO}(r:aY K F S p m H)(A:H l=aa o)(no:eA o)(y:¬F l)(nS:¬U S l):bI (λb=>U S b\/b=l) (U S) F F H (L2.upd H l o')/\ny (λb=>U S b\/b=l) F H/\aY K F S p m (L2.upd H l o'):=by
 have h:bI (λb=>U S b\/b=l) (U S) F F H (L2.upd H l o'):=⟨λ_ z=>z,λb o e n=>by rw[aU λz=>n (.inr z)];exact e,λb o e=>by
  by_cases s:b=l
  .subst s;exact⟨_,upd_same⟩
  .exact⟨o,by rw[aU s];exact e⟩,λ_ z=>.inl z,λ_ z=>.inl (.inl z)⟩
 have i:ny (λb=>U S b\/b=l) F H:=λb z=>by
  rcases z with z|rfl
  .exact r.fit b z
  .exact⟨y,_,A,no⟩
 refine⟨h,i,r.len,λb z=>let ⟨o,q⟩:=r.ex b z;h.there b o q,λj pv e=>?_,λj v e=>?_,λj b z=>?_,r.dist⟩
 .obtain⟨w,g,a⟩:=r.val j pv e;exact⟨w,g,a.grow h i⟩
 .obtain⟨w,g,a⟩:=r.own j v e;refine⟨w,g,a.mono (λ_ _ q=>q.grow h i) (λ_ _ q=>q.grow h i) λb o z q=>?_⟩;rw[aU (by rintro rfl;exact nS ⟨j,z⟩)];exact q
 .obtain⟨g,a,o,B,u⟩:=r.foot j b z;exact⟨g,a,o,by rw[aU (by rintro rfl;exact nS ⟨j,z⟩)];trivial,u⟩
theorem bI.lay(g:bI O a F i H h)(m:H l=ac):bI O a F i H (L2.upd h l o'):=by
 refine⟨g.fro,λb o e n=>?_,λb o e=>?_,g.fnew,g.onew⟩
 .rw[aU (by lia)];exact g.keep b o e n
 .obtain⟨j,q⟩:=g.there b o e;exact⟨j,by rw[aU (by lia)];exact q⟩
theorem Hx{elt:au}{ifs:List au}{di:ad (List PV)}{dt:ad Bool}{de:ad PV}(hi:DI X E (.Name x px) D di)(ht:∀C g j s r,DF (bO X c f C g j s r) E0 ifs dt) (he:∀C g j s r,DE (bO X c f C g j s r) E0 elt de){F:ab->Prop}{S:Nat->ab->Prop}{ε:ah}{n:St}{H:Hp}{Q:VK} (rl:aY X.K F S ε n H) (h:Ok X.K E n F S H (eD d di dt de ε) (λpo _ F' S' w=>∀a Sa,eR X.K w F' po a Sa->(∀b,Sa b->H b=ac/\¬F' b/\¬U S' b/\∃o,w b=aa o/\eA o)->Q (.ref a) w)):Di (nQ X (.Name x px) D) (λn H Q=>∀C g j s r,qH (bO X c f C g j s r) ifs n H Q) (λn H Q=>∀C g j s r,ix (bO X c f C g j s r) elt n H Q) d n H Q:=by
 refine hi F S ε n H _ rl ((Ok.bind h).imp λB ε1 O S1 H1 r1 g1 h1 J vs RR rs hz hw keep l hl=>?_);have h1:=h1.bind;have hvl:vs.length=B.length:=rs.len;have a0:Al O O H1 (upd H1 l (.lst [])):=Al.new0 hl;have nF1:¬O l:=λz=>by obtain⟨o,q⟩:=r1.ex l z;lia
 have nS1:¬U S1 l:=λ⟨i,z⟩=>by obtain⟨_,_,o,q,_⟩:=r1.foot i l z;lia
 have hH:H l=ac:=jv g1 hl;refine⟨λi=>HH X.K n O S1 H1 l B.length (λε' aL=>Ok X.K E n O S1 H1 (mD d dt de (B.drop i) aL ε') (λys' A T S2 N=>Ok X.K E n T S2 N (R.ok (PO.lst ys') A) (λpo _ F' S' w=>∀a Sa,eR X.K w F' po a Sa->(∀b,Sa b->H b=ac/\¬F' b/\¬U S' b/\∃o,w b=aa o/\eA o)->Q (.ref a) w))) i,⟨_,rfl,gW _,O,S1,ε1,[],r1.al a0,a0.grow,upd_same,nF1,nS1,rfl,a_ _,h1⟩,?_⟩;rintro i m ys N ⟨rfl,hi,T,S2,A,aL,P,M,el,nF2,nS2,p,hyl,q2⟩;have RH:=keep S2 T N M;by_cases bc:i<B.length
 .obtain⟨v,hv⟩:∃v,vs[i]?=aa v:=⟨_,eh ⋯⟩
  obtain⟨go,yl⟩:=(hw N RH i).1 v hv;refine .inr ⟨go,λv' w y=>⟨[aa v'],rfl,rfl,?_⟩⟩;obtain⟨e1,e2⟩:=yl v' w y;subst e1 e2;obtain⟨Z,hx,rx⟩:=rs.back hv;have ed:B.drop i=Z::B.drop (i+1):=by rw[zE bc];congr 1;exact(cW.mp hx).2
  rw[ed]at q2;have Y:=rx.grow M r1.fit;have q3:=Ok.bindB q2 M;obtain⟨Sb,ss,rb,okb⟩:=FG P Y q3;intro C g j s r;refine ht C g j s r T Sb ss _ w _ rb (okb.imp λb _ F3 _ H3 _ _ ⟨W,S3,r3,L,q4⟩=>?_);obtain⟨el3,nF3,nS3⟩:=L.stay el nS2 nF2;cases b with
  |false=>exact mr ⟨_,nofun,rfl,bc,F3,S3,W,aL,r3,M.trans L,el3,nF3,nS3,p.grow L P.fit,∅,q4⟩
  |true=>refine mC ?_;have q5:Ok X.K E n O S1 H1 ((jK (lK d de Z W)).bind λy A=>mD d dt de (B.drop (i+1)) (aL++[y]) A) _:=q4;obtain⟨Sc,sc,rc,okc⟩:=FG r3 (Y.grow L P.fit) (Ok.bindB q5 (M.trans L));intro C g j s r;refine he C g j s r F3 Sc sc _ H3 _ rc (okc.imp λy _ F4 _ H4 _ _ ⟨ε4,S4,r4,g4,q6⟩ u ru=>?_);obtain⟨el4,nF4,nS4⟩:=g4.stay el3 nS3 nF3;have I:=(p.grow L P.fit).grow g4 r3.fit;obtain⟨gl,G,r5⟩:=r4.lay (o':=.lst (ys++[u])) el4 trivial nF4 nS4;have g5:=((M.trans L).trans g4).lay (o':=.lst (ys++[u])) hl;refine⟨el4,?_,_,nofun,rfl,bc,F4,S4,ε4,aL++[y],r5,g5,upd_same,nF4,nS4,(I.grow gl G).app (.one (ru.grow gl G)),by simp;omega,q6⟩;lia
 .have e:i=B.length:=∅
  subst e;refine .inl ⟨(hw N RH _).2 hvl.symm,?_⟩;rw[zF]at q2;exact q2 T S2 N P M T S2 N P (bI.refl ..) l (λb=>b=l) ⟨⟨ys,el,p⟩,λb=>i5⟩ λb z=>by subst z;exact⟨hH,nF2,nS2,_,el,trivial⟩
theorem iN(B:iy X c x f d)(z:X.calm=ag)(w:DI X E (.Name x o) g q)(u:∀C a b j i,DF (bO X c f C a b j i) E0 l dt) (y:∀C a b j i,DE (bO X c f C a b j i) E0 m de) (v:(∀x,km g X.env x=pure x)^4):DN X E (.ListComp m [⟨.Name x o,g,l,0⟩] c pos) (eD d q dt de):=λF S A n H Q r h=>bT (Hu (wi:=nQ X (.Name x o) g) (ts:=λn H Q=>∀C a b j i,qH (bO X c f C a b j i) l n H Q) (te:=λn H Q=>∀C a b j i,ix (bO X c f C a b j i) m n H Q) (pos:=pos) B z vS (λC a b j i p s n H Q I h=>(h C a b j i).run p s I) (λC a b j i p s n H Q I h=>(h C a b j i).run p s I) v) (Hx w u y r h)
end
theorem N6(x y:Tx):tS x++tS y=tS (x++y):=by
 show(⟨x.toArray++y.toArray⟩:Str)=⟨(x++y).toArray⟩
 simp
def bn:PV->PV->Option PV
 |.int i,.int j=>aa (.int (i+j))
 |.str x,.str y=>if(x++y).length<=ck then aa (.str (x++y))else ac
 |.tup a,.tup ys=>if a≠[]/\ys≠[]/\a.length+ys.length<=1000 then aa (.tup (a++ys))else ac
 |.lst a,.lst ys=>if a.length+ys.length<=ck then aa (.lst (a++ys))else ac
 |_,_=>ac
noncomputable def d9:PV->PV->Option PV
 |.int i,.int j=>aa (.int (i-j))
 |_,_=>ac
noncomputable def yO(i:Int):Bool:=decide (-(2^64)<i/\i<2^64)
def jO:PV->PV->Option PV
 |.int i,.int j=>if yO i||yO j then aa (.int (i*j))else ac
 |.str x,.int j=>if 0<=j/\j<=100/\x.length<=100 then aa (.str (fJ j.toNat x).flatten)else ac
 |_,_=>ac
noncomputable def fQ:PV->PV->Option PV
 |.int i,.int j=>if 0<j then aa (.int (i % j))else ac
 |_,_=>ac
noncomputable def uR:PV->PV->Option PV
 |.int i,.int j=>if 0<=j/\j<=1000000/\i.natAbs<2^64 then aa (.int (i^j.toNat))else ac
 |_,_=>ac
def gA:PV->Option PV
 |.int i=>aa (.int (-i))
 |_=>ac
def HZ:R2:=λx y H Q=>∃l b c a,x=.ref l/\y=.ref b/\Rd H l (.lst c)/\Rd H b (.lst a)/\c.length+a.length<=bh/\∀p,H p=ac->Q (.ref p) (upd H p (.lst (c++a)))
def uO(K:aw):R2:=λx y H Q=>((mn λi j=>V.int (i+j)) x y H Q\/∃i j,x=.str i/\y=.str j/\i.length+j.length<=bh/\Q (.str (i++j)) H)\/(GE K x y H Q\/HZ x y H Q)
def Ik:R2:=λx y H Q=>rI B_ (λi j=>.int (i*j)) x y H Q\/∃(z:Tx) (n:Nat),x=tV z/\y=.int n/\n<=100/\z.length<=100/\Q (tV (fJ n z).flatten) H
section
variable{X:Cx}{K:aw}
theorem j9:P2 K (mn λi j=>.int (i-j)) d9:=λF H x y v u Q pv b a e q=>by
 unfold d9 at e;split at e
 .cases e;exact⟨_,_,b,a,q _ F H (Al.refl ..) rfl⟩
 trivial
theorem q_:P2 K (rI (λ_ j=>0<j) λi j=>.int (i % j)) fQ:=λF H x y v u Q pv b a e q=>by
 unfold fQ at e;split at e
 .split at e
  .cases e;exact⟨_,_,b,a,by trivial,q _ F H (Al.refl ..) rfl⟩
  trivial
 trivial
theorem V0:P2 K (rI G2 λi j=>.int (i^j.toNat)) uR:=λF H x y v u Q pv b a e q=>by
 unfold uR at e;split at e
 .split at e
  .cases e;exact⟨_,_,b,a,by trivial,q _ F H (Al.refl ..) rfl⟩
  trivial
 trivial
theorem lf:P1 K (rU λi=>.int (-i)) gA:=λF H x v Q pv a e q=>by
 unfold gA at e;split at e
 .cases e;exact⟨_,a,q _ F H (Al.refl ..) rfl⟩
 trivial
theorem Cv(I:Inv X d c H s)(h:Rd H l (.lst b)):∃(a:List af) (n:Nat),bE b a/\s.heap.get? l=aa {cls:=.type "list",data:=.seq a.toArray n}/\b.length<=bh:=by obtain⟨z,a,n,r,e⟩:=h.ok I.hok;exact⟨a,n,r,e,z⟩
theorem OS:cj X (gR .Add) HZ:=by
 intro D s p H x y v u Q I i g h;obtain⟨l,b,z,w,rfl,rfl,f,j,B,q⟩:=h;cases i;cases g;obtain⟨c,n,r,e,_⟩:=Cv I f;obtain⟨a,A,d,o,_⟩:=Cv I j;have f:=r.length;have C:=d.length;refine PySem.P.add_list e o ?_ ⋯;have m:c.toArray++a.toArray=(c++a).toArray:=by simp
 rw[m];exact⟨.ref _,_,I.lnew (t':=s.toks) (r.append d) (by rw[lX];omega),rfl,q _ I.fresh⟩
theorem cM:cj X (gR .Add) (uO X.K):=(Wz.or OJ).or (Wv.or OS)
theorem cG:P2 K (uO K) bn:=λF H x y v u Q pv i h e q=>by
 unfold bn at e;split at e
 .cases e;exact .inl (.inl ⟨_,_,i,h,q _ F H (Al.refl ..) rfl⟩)
 .rename_i x y;split at e
  .rename_i c;cases e;refine .inl (.inr ⟨_,_,i.1,h.1,?_,?_⟩)
   .rw[mx,mx];rw[lX]at c;exact dD c kP
   .exact q _ F H (Al.refl ..) ⟨by rw[N6];rfl,c⟩
  trivial
 .rename_i w s;split at e
  .rename_i c;cases e;obtain⟨a,l,rfl,r,f⟩:=i;obtain⟨b,j,rfl,o,d⟩:=h;have n:=f.len;have m:=d.len;refine .inr (.inl ⟨a,b,l,j,rfl,rfl,cq.of r,cq.of o,λz=>c.1 (by grind),by rw[n,m];exact Bo c.2.2,λz=>absurd (by grind) c.2.1,λ_ p g=>?_⟩);exact q _ F _ (Al.new0 g) ⟨p,_,rfl,upd_same,(Al.new0 g).reps (f.app d)⟩
  trivial
 .rename_i w s;split at e
  .rename_i c;cases e;obtain⟨a,l,rfl,r,B,f⟩:=i;obtain⟨b,j,rfl,o,A,d⟩:=h;have n:=f.len;have m:=d.len;refine .inr (.inr ⟨a,b,l,j,rfl,rfl,r,o,by rw[n,m];exact dD c kP,λp g=>?_⟩);exact q _ _ _ (Al.new g) ⟨p,_,rfl,.inl upd_same,.inr rfl,(Al.new g).reps (f.app d)⟩
  trivial
 trivial
theorem u0:cj X (gR .Mult) Ik:=Wq.or RW
theorem uI:P2 K Ik jO:=λF H x y v u Q pv b a e q=>by
 unfold jO at e;split at e
 .rename_i i j;split at e
  .rename_i h;cases e;refine .inl ⟨_,_,b,a,?_,q _ F H (Al.refl ..) rfl⟩;rw[zu]at h;exact h.imp of_decide_eq_true of_decide_eq_true
  trivial
 .rename_i x j;split at e
  .rename_i h;cases e;refine .inr ⟨x,j.toNat,b.1,?_,⋯,h.2.2,q _ F H (Al.refl ..) ⟨rfl,?_⟩⟩
   .rw[show u=V.int j from a];congr 1;lia
   .rw[QO];have c:j.toNat<=100:=⋯
    exact dD (Nat.mul_le_mul c h.2.2) (by decide)
  trivial
 trivial
noncomputable def dq(f:Int->Int->Bool):PV->PV->Option PV
 |.int i,.int j=>aa (.bl (f i j))
 |_,_=>ac
theorem fD:P2 K (mn λi j=>.bl (f i j)) (dq f):=λF H x y v u Q pv b a e q=>by
 unfold dq at e;split at e
 .cases e;exact⟨_,_,b,a,q _ F H (Al.refl ..) rfl⟩
 trivial
def dP:PV->Option V
 |.non=>aa .non
 |.bl b=>aa (.bl b)
 |.int i=>aa (.int i)
 |.str x=>aa (tV x)
 |_=>ac
theorem kI(r:aT K H F x v)(e:dP x=aa w):v=w:=by
 cases x <;> simp[dP]at e <;> subst e
 .exact r
 .exact r
 .exact r
 .exact r.1
theorem xj(e:dP x=aa w):jw w=ag:=by
 cases x <;> simp[dP]at e <;> subst e <;> rfl
mutual
def cD:PV->PV->Option Bool
 |.tup c,y=>match y with
  |.tup a=>iA c a
  |_=>ac
 |.lst c,y=>match y with
  |.lst a=>iA c a
  |_=>ac
 |.non,y=>(dP y).map (gf .non)
 |.bl b,y=>(dP y).map (gf (.bl b))
 |.int i,y=>(dP y).map (gf (.int i))
 |.str x,y=>(dP y).map (gf (tV x))
 |.raw _,_=>ac
 |.exc _,_=>ac
def iA:List PV->List PV->Option Bool
 |[],c=>aa c.isEmpty
 |x::d,c=>match c with
  |[]=>aa ai
  |y::c=>(cD x y).bind λa=>(iA d c).map λb=>a&&b
end
mutual
noncomputable def gC:PV->Nat
 |.tup a=>iS a+1
 |.lst a=>iS a+1
 |_=>0
noncomputable def iS:List PV->Nat
 |[]=>0
 |x::a=>max (gC x) (iS a)
end
theorem Kb(h:jg K H d x y k)(l:d<=a):jg K H a x y k:=λX g i b s u v A I f c j=>h X g i b s u v A I f c ∅
theorem yd(b:jw w=ag)(e:(dP y).map (gf w)=aa k)(a:aT K H F y u):jg K H d w u k:=by
 cases q:dP y with
 |none=>simp_all
 |some z=>
  rw[q]at e;cases e;rw[kI a q];exact NC b (xj q)
theorem M6(h:Rd H a (.lst c))(g:Rd H a (.lst b)):c=b:=by
 rcases h with h|⟨o,h⟩ <;> rcases g with g|⟨d,g⟩ <;> rw[h]at g <;> cases g <;> rfl
theorem VN:gL (λj=>if j=0 then a else e (j-1)) (n+1) (m+1)=(a&&gL e n m):=by unfold gL;rw[show min (n+1) (m+1)=min n m+1 by simp,zn,rq,List.all_map,if_pos rfl,Bool.and_assoc];congr 1;congr 1;simp
mutual
theorem Bl:∀(x y:PV) {v:V}{k:Bool},cD x y=aa k->aT K H F x v->aT K H F y v->k=ag
 |.tup h,y,v,k,e,d,c=>by
  unfold cD at e;split at e
  .obtain⟨a,n,rfl,j,f⟩:=d;obtain⟨b,m,l,g,i⟩:=c;cases l;rw[j]at g;cases g;exact Ci h _ e f i
  .cases e
 |.lst h,y,v,k,e,d,c=>by
  unfold cD at e;split at e
  .obtain⟨a,n,rfl,j,_,f⟩:=d;obtain⟨b,m,l,g,_,i⟩:=c;cases l;rw[M6 j g]at f;exact Ci h _ e f i
  .cases e
 |.non,y,v,k,e,d,c=>by
  unfold cD at e;cases q:dP y with
  |none=>rw[q]at e;cases e
  |some z=>rw[q]at e;cases e;rw[<-kI c q,show v=V.non from d];rfl
 |.bl b,y,v,k,e,d,c=>by
  unfold cD at e;cases q:dP y with
  |none=>rw[q]at e;cases e
  |some z=>rw[q]at e;cases e;rw[<-kI c q,show v=V.bl b from d];exact beq_self_eq_true b
 |.int b,y,v,k,e,d,c=>by
  unfold cD at e;cases q:dP y with
  |none=>rw[q]at e;cases e
  |some z=>rw[q]at e;cases e;rw[<-kI c q,show v=V.int b from d];exact beq_self_eq_true b
 |.str b,y,v,k,e,d,c=>by
  unfold cD at e;cases q:dP y with
  |none=>rw[q]at e;cases e
  |some z=>rw[q]at e;cases e;rw[<-kI c q,show v=tV b from d.1];exact beq_self_eq_true (tS b)
 |.raw _,_,_,_,e,_,_=>by unfold cD at e;cases e
 |.exc _,_,_,_,e,_,_=>by unfold cD at e;cases e
theorem Ci:∀(d c:List PV) {f:List V}{k:Bool},iA d c=aa k->bd K H F d f->bd K H F c f->k=ag
 |[],c,f,k,e,i,g=>by
  unfold iA at e;rw[show f=[] from i]at g;have:=g.len;cases c with
  |nil=>cases e;rfl
  |cons=>simp at this
 |x::d,c,f,k,e,i,g=>by
  unfold iA at e;obtain⟨v,r,rfl,m,l⟩:=i;cases c with
  |nil=>have:=g.len;simp at this
  |cons y c=>
   obtain⟨q,s,p,o,n⟩:=g;cases p;simp only at e;cases h:cD x y with
   |none=>rw[h]at e;cases e
   |some a=>
    cases j:iA d c with
    |none=>rw[h,j]at e;cases e
    |some b=>
     rw[h,j]at e;cases e;rw[Bl x y h m o,Ci d c j l n];rfl
end
mutual
theorem V5:∀(x y:PV) {v u:V}{k:Bool},cD x y=aa k->aT K H F x v->aT K H F y u->jg K H (gC x) v u k
 |.tup i,y,v,u,k,e,d,c=>by
  have p:=e;unfold cD at e;split at e
  .rename_i h;obtain⟨a,r,rfl,o,l⟩:=id d;obtain⟨b,q,rfl,n,j⟩:=id c;by_cases g:a=b
   .subst g;rw[Bl _ _ p d c];exact FD
   .obtain⟨f,m,rfl⟩:=ve i h e l j;unfold gC;exact Oq (cq.of o) (cq.of n) g m
  .cases e
 |.lst i,y,v,u,k,e,d,c=>by
  have p:=e;unfold cD at e;split at e
  .rename_i h;obtain⟨a,r,rfl,o,_,l⟩:=id d;obtain⟨b,q,rfl,n,_,j⟩:=id c;by_cases g:a=b
   .subst g;rw[Bl _ _ p d c];exact FD
   .obtain⟨f,m,rfl⟩:=ve i h e l j;unfold gC;exact L6 (.inl o) (.inl n) g m
  .cases e
 |.non,y,v,u,k,e,d,c=>by unfold cD at e;rw[show v=V.non from d];exact yd rfl e c
 |.bl b,y,v,u,k,e,d,c=>by unfold cD at e;rw[show v=V.bl b from d];exact yd rfl e c
 |.int b,y,v,u,k,e,d,c=>by unfold cD at e;rw[show v=V.int b from d];exact yd rfl e c
 |.str b,y,v,u,k,e,d,c=>by unfold cD at e;rw[show v=tV b from d.1];exact yd rfl e c
 |.raw _,_,_,_,_,e,_,_=>by unfold cD at e;cases e
 |.exc _,_,_,_,_,e,_,_=>by unfold cD at e;cases e
theorem ve:∀(d c:List PV) {g i:List V}{k:Bool},iA d c=aa k->bd K H F d g->bd K H F c i -> ∃f:Nat->Bool,(∀(j:Nat) x y,g[j]?=aa x->i[j]?=aa y->jg K H (iS d) x y (f j))/\k=gL f g.length i.length
 |[],c,g,i,k,e,n,l=>by
  unfold iA at e;rw[show g=[] from n];refine⟨λ_=>ag,λj x y h=>by simp at h,?_⟩;have:=l.len;cases e;unfold gL;cases c with
  |nil=>simp at this;simp[this]
  |cons=>rw[this];simp
 |x::d,c,g,i,k,e,n,l=>by
  unfold iA at e;obtain⟨v,r,rfl,B,A⟩:=n;cases c with
  |nil=>
   cases e;rw[show i=[] from l];exact⟨λ_=>ag,λj x y _ h=>by simp at h,by simp[gL]⟩
  |cons y c=>
   obtain⟨u,E,rfl,D,C⟩:=l;simp only at e;cases m:cD x y with
   |none=>rw[m]at e;cases e
   |some a=>
    cases o:iA d c with
    |none=>rw[m,o]at e;cases e
    |some b=>
     rw[m,o]at e;cases e;obtain⟨f,z,rfl⟩:=ve d c o A C;refine⟨λj=>if j=0 then a else f (j-1),λj p q w s=>?_,by rw[gH,gH,VN]⟩;cases j with
     |zero=>simp at w s;subst w s;show jg K H _ _ _ (if(0:Nat)=0 then a else f (0-1));rw[if_pos rfl];exact Kb (V5 x y m B D) (by unfold iS;exact Nat.le_max_left _ _)
     |succ j=>show jg K H _ _ _ (if j+1=0 then a else f (j+1-1));rw[if_neg ∅];exact Kb (z j p q (~~~w) (~~~s)) (show iS d<=max (gC x) (iS d)from Nat.le_max_right _ _)
end
def eqT(neg:Bool)(x y:PV):Option PV:=match dP x,dP y with
 |some v,aa u=>if vh v u then aa (.bl (neg^^decide (v=u)))else ac
 |none,ac=>if gC x<=8 then(cD x y).map λk=>.bl (neg^^k)else ac
 |_,_=>ac
def Jv(K:aw):R2:=λx y H Q=>Ic x y H Q\/uF K ai x y H Q
def Fx(K:aw):R2:=λx y H Q=>Ha x y H Q\/uF K ag x y H Q
theorem gi(a:X.A.units+64<cLine):cj X (dE .Eq) (Jv X.K):=Ww.or (Mw a)
theorem uv(a:X.A.units+64<cLine):cj X (dE .NotEq) (Fx X.K):=WG.or (SH a)
theorem Jw(B:dP x=ac)(e:cD x y=aa k)(A:gC x<=8)(w:aT K H F x v)(s:aT K H F y u)(q:Q (.bl (neg^^k)) H):uF K neg v u H Q:=by
 have d:∀{g:Bool},k=g->Q (.bl (if neg=ag then !g else g)) H:=λ{g} z=>by subst z;cases neg <;> simpa using q
 cases x with
 |tup c=>
  unfold cD at e;split at e
  .rename_i h;obtain⟨a,j,rfl,p,m⟩:=w;obtain⟨b,i,rfl,o,l⟩:=s;obtain⟨f,n,r⟩:=ve c h e m l;unfold gC at A;exact⟨a,b,j,i,iS c,f,rfl,rfl,.inr ⟨cq.of p,cq.of o⟩,∅,n,d r⟩
  trivial
 |lst c=>
  unfold cD at e;split at e
  .rename_i h;obtain⟨a,j,rfl,p,_,m⟩:=w;obtain⟨b,i,rfl,o,_,l⟩:=s;obtain⟨f,n,r⟩:=ve c h e m l;unfold gC at A;exact⟨a,b,j,i,iS c,f,rfl,rfl,.inl ⟨.inl p,.inl o⟩,∅,n,d r⟩
  trivial
 |raw _=>trivial
 |exc _=>trivial
 |non=>trivial
 |bl _=>trivial
 |int _=>trivial
 |str _=>trivial
theorem gg:P2 K (Jv K) (eqT ai):=λF H x y v u Q pv g f e q=>by
 unfold eqT at e;split at e
 .rename_i a b d h;split at e
  .rename_i i;cases e;rw[kI g d,kI f h];refine .inl ⟨i,?_⟩;have:=q (.bl (decide (a=b))) F H (Al.refl ..) (by simp[aT]);trivial
  trivial
 .rename_i d h;split at e
  .rename_i j;cases c:cD x y with
   |none=>rw[c]at e;cases e
   |some k=>
    rw[c]at e;cases e;exact .inr (Jw (neg:=ai) d c j g f (q _ F H (Al.refl ..) rfl))
  trivial
 trivial
theorem vm:P2 K (Fx K) (eqT ag):=λF H x y v u Q pv g f e q=>by
 unfold eqT at e;split at e
 .rename_i a b d h;split at e
  .rename_i i;cases e;rw[kI g d,kI f h];refine .inl ⟨i,?_⟩;have:=q (.bl (!decide (a=b))) F H (Al.refl ..) (by simp[aT]);trivial
  trivial
 .rename_i d h;split at e
  .rename_i j;cases c:cD x y with
   |none=>rw[c]at e;cases e
   |some k=>
    rw[c]at e;cases e;exact .inr (Jw (neg:=ag) d c j g f (q _ F H (Al.refl ..) rfl))
  trivial
 trivial
end
open L2
section
variable{X:Cx}{K:aw}
def E1(i j:Tx):Bool:=!(Km (tS j) (tS i) 0 (tS j).length 1).isEmpty
def mE:List PV->Option (List V)
 |[]=>aa []
 |x::a=>(dP x).bind λv=>(mE a).map λr=>v::r
theorem Aq:∀{a:List PV}{d b:List V},bd K H F a d->mE a=aa b->d=b/\b.all jw=ag
 |[],_,_,r,e=>by cases e;trivial
 |x::a,_,b,⟨v,r,rfl,g,f⟩,e=>by
  unfold mE at e;cases q:dP x with
  |none=>simp_all
  |some w=>
   cases c:mE a with
   |none=>rw[q,c]at e;cases e
   |some j=>
    rw[q,c]at e;cases e;obtain⟨i,h⟩:=Aq f c;exact⟨by rw[kI g q,i],by rw[rq,xj q,h];rfl⟩
def xB(neg:Bool):PV->PV->Option PV
 |.str x,.str y=>aa (.bl (neg^^E1 x y))
 |x,.lst a=>(dP x).bind λv=>(mE a).map λb=>.bl (neg^^uW v b)
 |x,.tup a=>(dP x).bind λv=>(mE a).map λb=>.bl (neg^^uW v b)
 |_,_=>ac
def JT(K:aw):R2:=λx y H Q=>(∃i j,x=.str i/\y=.str j/\Q (.bl (!(Km j i 0 j.length 1).isEmpty)) H)\/Bz K ai x y H Q
theorem Js:cj X (dE .In) (JT X.K):=Wt.or Uj
theorem GF{c:List PV}{v:V}{p:ab}{b:List V}{Q:VK}{neg:Bool}{pv:PV}(g:aT K H F x v)(i:cg K H p b\/cq K H p b)(h:bd K H F c b)(e:((dP x).bind λv=>(mE c).map λf=>PV.bl (neg^^uW v f))=aa pv) (q:∀w,aT K H F pv w->Q w H):Bz K neg v (.ref p) H Q:=by
 cases a:dP x with
 |none=>rw[a]at e;cases e
 |some w=>
  cases d:mE c with
  |none=>rw[a,d]at e;cases e
  |some f=>
   rw[a,d]at e;cases e;obtain⟨rfl,j⟩:=Aq h d;rw[kI g a];refine⟨p,b,rfl,i,xj a,j,?_⟩;have:=q _ rfl;cases neg <;> simpa using this
theorem E8:P2 K (JT K) (xB ai):=λF H x y v u Q pv d c e q=>by
 unfold xB at e;split at e
 .cases e;exact .inl ⟨_,_,d.1,c.1,by have:=q _ F H (Al.refl ..) rfl;simpa[E1]using this⟩
 .obtain⟨a,h,rfl,g,_,f⟩:=c;exact .inr (GF (neg:=ai) d (.inl (.inl g)) f e λw b=>q w F H (Al.refl ..) b)
 .obtain⟨a,h,rfl,g,f⟩:=c;exact .inr (GF (neg:=ai) d (.inr (cq.of g)) f e λw b=>q w F H (Al.refl ..) b)
 trivial
noncomputable def xK(a:Bool):PV->PV->Option PV
 |x,.non=>match x with
  |.non=>aa (.bl (a^^ag))
  |.raw _=>ac
  |_=>aa (.bl (a^^ai))
 |_,_=>ac
theorem Mq(r:aT K H F x v)(h:x≠.non)(c:∀w,x≠.raw w):decide (v=V.non)=ai:=by
 refine decide_eq_false λz=>?_;subst z;cases x with
 |non=>trivial
 |raw w=>exact c w rfl
 |bl _=>cases r
 |int _=>cases r
 |str _=>cases r.1
 |tup _=>obtain⟨a,b,e,_⟩:=r;cases e
 |lst _=>obtain⟨a,b,e,_⟩:=r;cases e
 |exc _=>obtain⟨a,e,_⟩:=r;cases e
theorem Md{y:PV}{v u:V}{Q:VK}{pv:PV}{a:Bool}(c:aT K H F x v)(f:aT K H F y u)(e:xK a x y=aa pv)(q:∀w d b,Al F d H b->aT K b d pv w->Q w b):u=.non/\Q (.bl (a^^decide (v=V.non))) H:=by
 unfold xK at e;split at e
 .refine⟨f,?_⟩;split at e
  .cases e;rw[show v=V.non from c];exact q _ F H (Al.refl ..) rfl
  .cases e
  .rename_i h g;cases e;rw[Mq c (λz=>h z) (λw z=>g w z)];exact q _ F H (Al.refl ..) rfl
 trivial
theorem Ui:P2 K (λx y H Q=>y=.non/\Q (.bl (decide (x=.non))) H) (xK ai):=λF H x y v u Q pv b a e q=>by have:=Md b a e q;simpa using this
noncomputable def cf:List PV->Option PV
 |[.str x]=>aa (.int x.length)
 |[.lst a]=>aa (.int a.length)
 |[.tup a]=>aa (.int a.length)
 |_=>ac
theorem dH(r:bd K H F [x] a):∃v,a=[v]/\aT K H F x v:=by obtain⟨v,b,rfl,d,c⟩:=r;rw[show b=[] from c];exact⟨v,rfl,d⟩
theorem c7:PL K (λg H Q=>∃x n,g=[x]/\Gj K x H n/\Q (.int n) H) cf:=λF H g i Q pv c e q=>by
 unfold cf at e;split at e
 .cases e;obtain⟨v,rfl,h⟩:=dH c;rw[h.1];exact⟨_,_,rfl,⟨by rw[mx];exact dD h.2 kP,rfl⟩,by rw[mx];exact q _ F H (Al.refl ..) rfl⟩
 .cases e;obtain⟨v,rfl,a,b,rfl,f,_,d⟩:=dH c;exact⟨_,_,rfl,.inl ⟨b,.inl f,rfl⟩,by rw[d.len];exact q _ F H (Al.refl ..) rfl⟩
 .cases e;obtain⟨v,rfl,a,b,rfl,f,d⟩:=dH c;exact⟨_,_,rfl,.inr ⟨b,cq.of f,rfl⟩,by rw[d.len];exact q _ F H (Al.refl ..) rfl⟩
 trivial
def kj:List PV->Option PO
 |[.lst a]=>aa (.lst a)
 |[.tup a]=>aa (.lst a)
 |_=>ac
theorem vd:kc K (λh H Q=>∃p c,h=[.ref p]/\(cg K H p c\/cq K H p c)/\∀l,H l=ac->Q (.ref l) (upd H l (.lst c))) kj:=λF H h m Q n j i e q=>by
 unfold kj at e;split at e
 .cases e;obtain⟨v,rfl,a,d,rfl,g,_,f⟩:=dH i;exact⟨a,d,rfl,.inl (.inl g),λl b=>q l F _ _ (Al.new0 b) (uK b f) (x8 b j trivial)⟩
 .cases e;obtain⟨v,rfl,a,d,rfl,g,f⟩:=dH i;exact⟨a,d,rfl,.inr (cq.of g),λl b=>q l F _ _ (Al.new0 b) (uK b f) (x8 b j trivial)⟩
 trivial
noncomputable def qD:List PV->Option PV
 |[.lst a]=>aa (.tup a)
 |[.tup a]=>aa (.tup a)
 |_=>ac
theorem yI:PL K (λg H Q=>∃p d,g=[.ref p]/\((cg K H p d/\∀l,H l=ac->Q (.ref l) (upd H l (.tup d)))\/(cq K H p d/\Q (.ref p) H))) qD:=λF H g j Q pv h e q=>by
 unfold qD at e;split at e
 .cases e;obtain⟨v,rfl,a,b,rfl,c,_,f⟩:=dH h;exact⟨a,b,rfl,.inl ⟨.inl c,λl i=>q _ F _ (Al.new0 i) ⟨l,b,rfl,upd_same,(Al.new0 i).reps f⟩⟩⟩
 .cases e;obtain⟨v,rfl,a,b,rfl,c,f⟩:=dH h;exact⟨a,b,rfl,.inr ⟨cq.of c,q _ F H (Al.refl ..) ⟨a,b,rfl,c,f⟩⟩⟩
 trivial
def dS:List PV->Option (List Tx)
 |[]=>aa []
 |.str x::a=>(dS a).map (x::·)
 |_=>ac
noncomputable def a6(a:List Tx):List PV:=a.map .str
theorem FU(a:List Tx):dS (a6 a)=aa a:=by
 induction a with
 |nil=>rfl
 |cons x a b=>show(dS (a6 a)).map (x::·)=_;rw[b];rfl
theorem jG:∀{a:List PV}{b:List Tx},dS a=aa b->a=a6 b
 |[],b,e=>by cases e;rfl
 |.str x::a,b,e=>by
  unfold dS at e;cases q:dS a with
  |none=>simp_all
  |some r=>rw[q]at e;cases e;rw[jG q];rfl
 |.non::_,_,e=>by cases e
 |.bl _::_,_,e=>by cases e
 |.int _::_,_,e=>by cases e
 |.tup _::_,_,e=>by cases e
 |.lst _::_,_,e=>by cases e
 |.raw _::_,_,e=>by cases e
 |.exc _::_,_,e=>by cases e
theorem Ws:∀{a:List Tx}{b:List V},bd K H F (a6 a) b↔b=bz a/\∀x∈a,x.length<=ck
 |[],b=>by simp[a6,bd,bz]
 |x::a,b=>by
  show(∃v r,b=v::r/\(v=tV x/\x.length<=ck)/\bd K H F (a6 a) r)↔_;constructor
  .rintro⟨v,r,rfl,⟨rfl,f⟩,h2⟩;obtain⟨rfl,d⟩:=Ws.mp h2;exact⟨rfl,λy c=>by
    grind⟩
  .rintro⟨rfl,h⟩;exact⟨tV x,bz a,rfl,⟨rfl,h x (by simp)⟩,Ws.mpr ⟨rfl,λy c=>h y (by simp[c])⟩⟩
def kW:List PV->Option PO
 |[.lst b]=>(dS b).bind λa=>if a.length<64 then aa (.lst (a6 (b_ a)))else ac
 |[.tup b]=>(dS b).bind λa=>if a.length<64 then aa (.lst (a6 (b_ a)))else ac
 |_=>ac
theorem sE:kc K (λm H Q=>∃(p:ab) (b:List Tx),m=[.ref p]/\(cg K H p (bz b)\/cq K H p (bz b))/\b.length<64/\∀l,H l=ac->Q (.ref l) (upd H l (.lst (bz (b_ b))))) kW:=λF H m z Q o y n e q=>by
 have f:∀{g:List PV}{c:List V}{a:ab},((dS g).bind λb=>if b.length<64 then aa (PO.lst (a6 (b_ b)))else ac)=aa o->bd K H F g c->(cg K H a c\/cq K H a c) ->
   ∃(p:ab) (b:List Tx),[V.ref a]=[.ref p]/\(cg K H p (bz b)\/cq K H p (bz b))/\b.length<64/\∀l,H l=ac->Q (.ref l) (upd H l (.lst (bz (b_ b)))):=λ{g c a} e d u=>by
  cases h:dS g with
  |none=>rw[h]at e;cases e
  |some b=>
   rw[h]at e;simp only[iZ]at e;split at e
   .rename_i r;cases e;rw[jG h]at d;obtain⟨rfl,w⟩:=Ws.mp d;refine⟨a,b,rfl,u,r,λl i=>q l F _ _ (Al.new0 i) (uK i (Ws.mpr ⟨rfl,λx s=>w x ((nt b).mem_iff.mp s)⟩)) (x8 i y trivial)⟩
   trivial
 unfold kW at e;split at e
 .obtain⟨v,rfl,a,c,rfl,j,_,d⟩:=dH n;exact f e d (.inl (.inl j))
 .obtain⟨v,rfl,a,c,rfl,j,d⟩:=dH n;exact f e d (.inr (cq.of j))
 trivial
noncomputable def sq:List PV->Option (List Bool)
 |[]=>aa []
 |.bl b::a=>(sq a).map (b::·)
 |_=>ac
theorem HD:∀{a:List PV}{c:List V}{bs:List Bool},bd K H F a c->sq a=aa bs->c=bs.map V.bl
 |[],_,_,r,e=>by cases e;exact r
 |.bl b::a,_,bs,⟨v,r,rfl,f,d⟩,e=>by
  unfold sq at e;cases q:sq a with
  |none=>simp_all
  |some g=>rw[q]at e;cases e;rw[HD d q,show v=V.bl b from f];rfl
 |.non::_,_,_,_,e=>by cases e
 |.str _::_,_,_,_,e=>by cases e
 |.int _::_,_,_,_,e=>by cases e
 |.tup _::_,_,_,_,e=>by cases e
 |.lst _::_,_,_,_,e=>by cases e
 |.raw _::_,_,_,_,e=>by cases e
 |.exc _::_,_,_,_,e=>by cases e
def vf:List PV->Option PV
 |[.lst a]=>(sq a).map λbs=>.bl (bs.all id)
 |_=>ac
theorem Dt:PL K (λc H Q=>∃(p:ab) (bs:List Bool),c=[.ref p]/\cg K H p (bs.map V.bl)/\Q (.bl (bs.all id)) H) vf:=λF H c i Q pv g e q=>by
 unfold vf at e;split at e
 .rename_i f;cases b:sq f with
  |none=>rw[b]at e;cases e
  |some bs=>
   rw[b]at e;cases e;obtain⟨v,rfl,a,j,rfl,d,_,h⟩:=dH g;rw[HD h b]at d;exact⟨a,bs,rfl,.inl d,q _ F H (Al.refl ..) rfl⟩
 trivial
noncomputable def C2:PV->Option String
 |.non=>aa "NoneType"
 |.bl _=>aa "bool"
 |.int _=>aa "int"
 |.str _=>aa "str"
 |.tup _=>aa "tuple"
 |.lst _=>aa "list"
 |_=>ac
def vN:List PV->Option PV
 |[x,.raw (.ty T)]=>(C2 x).bind λt=>(zb [] (.type t) (.type T)).map λb=>.bl b
 |_=>ac
theorem oQ:c_ X (.builtin "isinstance") (λa H Q=>∃x t T b,a=[x,.ty T]/\jA X.K H x (.type t)/\zb X.K (.type t) (.type T)=aa b/\Q (.bl b) H):=by
 intro m s i H a j Q I r h;obtain⟨x,t,T,b,rfl,ty,e,q⟩:=h;cases r with
 |cons g f=>
  cases f with
  |cons d c=>
   cases c;cases d;exact Pk I g ty e λl=>⟨.bl b,H,I.tok _,rfl,q⟩
theorem Qg(r:aT K H F x v)(e:C2 x=aa t):jA K H v (.type t):=by
 cases x with
 |non=>cases e;rw[show v=V.non from r];exact .non
 |bl b=>cases e;rw[show v=V.bl b from r];exact .bl b
 |int b=>cases e;rw[show v=V.int b from r];exact .int b
 |str b=>cases e;rw[show v=tV b from r.1];exact .str _
 |tup d=>cases e;obtain⟨a,f,rfl,c,_⟩:=r;exact .tup c
 |lst d=>
  cases e;obtain⟨a,f,rfl,c,_⟩:=r;rcases c with c|⟨o,c⟩
  .exact .lst c
  .exact .frz c
 |raw _=>cases e
 |exc _=>cases e
theorem oZ:PL K (λd H Q=>∃x t T b,d=[x,.ty T]/\jA K H x (.type t)/\zb K (.type t) (.type T)=aa b/\Q (.bl b) H) vN:=λF H d j Q pv f e q=>by
 unfold vN at e;split at e
 .rename_i x T;cases a:C2 x with
  |none=>rw[a]at e;cases e
  |some t=>
   cases c:zb [] (.type t) (.type T)with
   |none=>rw[a,iZ,c]at e;cases e
   |some b=>
    rw[a,iZ,c]at e;cases e;obtain⟨v,l,rfl,i,h⟩:=f;obtain⟨u,rfl,g⟩:=dH h;rw[show u=V.ty T from g];exact⟨v,t,T,b,rfl,Qg i a,c,q _ F H (Al.refl ..) rfl⟩
 trivial
theorem oR(c:X.mg x=ac)(a:dX x=aa (.type T))(d:Gl X x^0)(b:(x≠"__name__")^1)(g:av x^1):DE X E (.Name x f) (dC (.raw (.ty T))):=λF S i h H Q r q=>bT (P8 (v:=.ty T) d c a rfl b g) (q F S H r (bI.refl ..) _ rfl)
def bv:PV->PV->Option PV
 |.lst a,.int i=>fu a i
 |.tup a,.int i=>fu a i
 |.str x,.int i=>(fu x i).map λc=>.str [c]
 |_,_=>ac
theorem FL(r:bd K H F a b)(e:fu a i=aa x):∃v,fu b i=aa v/\aT K H F x v:=by
 unfold fu at e ⊢;rw[r.len];cases q:kh a.length i with
 |none=>rw[q]at e;cases e
 |some j=>rw[q]at e;exact r.get e
theorem bZ:P2 K (Jr K) bv:=λF H x y v u Q pv b f e q=>by
 unfold bv at e;split at e
 .rename_i m i;obtain⟨a,d,rfl,h,_,g⟩:=b;obtain⟨w,l,j⟩:=FL g e;exact .inl ⟨a,d,i,w,rfl,f,.inl h,l,q _ F H (Al.refl ..) j⟩
 .rename_i m i;obtain⟨a,d,rfl,h,g⟩:=b;obtain⟨w,l,j⟩:=FL g e;exact .inr (.inl ⟨a,d,i,w,rfl,f,cq.of h,l,q _ F H (Al.refl ..) j⟩)
 .rename_i x i;cases n:fu x i with
  |none=>simp_all
  |some c=>
   rw[n]at e;cases e;rw[b.1];exact .inr (.inr ⟨_,i,c,rfl,f,by rw[mx];exact dD b.2 kP,by trivial,q _ F H (Al.refl ..) ⟨rfl,by show 1<=ck;decide⟩⟩)
 trivial
def eB{b:Type}(a:List b)(c d:Option Int):List b:=(a.drop (HT.sIx a.length 0 c)).take (HT.sIx a.length a.length d-HT.sIx a.length 0 c)
theorem Rw(a:List b)(c d:Option Int):(eB a c d).length<=a.length:=by unfold eB;rw[Ku,Kv];lia
def br:PV->Option Int->Option Int->Option PV
 |.str x,b,c=>aa (.str (eB x b c))
 |.lst a,b,c=>aa (.lst (eB a b c))
 |.tup a,b,c=>if HT.sIx a.length 0 b=0/\HT.sIx a.length a.length c=a.length then ac else aa (.tup (eB a b c))
 |_,_,_=>ac
def xU(K:aw):V->Option Int->Option Int->Hp->VK->Prop:=λx a b H Q=>HG x a b H Q\/(He K x a b H Q\/IR K x a b H Q)
theorem cF:lG X (xU X.K):=Wo.or (Nj.or Pd)
theorem AQ(r:bd K H F a b)(c d:Option Int):bd K H F (eB a c d) (nv b c d):=by unfold eB nv;rw[r.len];exact(r.drop _).take _
theorem cC:BM K (xU K) br:=λF H x h i v Q pv b e q=>by
 unfold br at e;split at e
 .cases e;rw[b.1];refine .inl ⟨_,rfl,by rw[mx];exact dD b.2 kP,?_⟩;refine q _ F H (Al.refl ..) ⟨?_,dD (Rw ..) b.2⟩;rfl
 .cases e;obtain⟨a,f,rfl,g,_,d⟩:=b;exact .inr (.inl ⟨a,f,rfl,.inl g,λp c=>q _ _ _ (Al.new c) ⟨p,_,rfl,.inl upd_same,.inr rfl,(Al.new c).reps (AQ d h i)⟩⟩)
 .split at e
  .cases e
  .rename_i j;cases e;obtain⟨a,f,rfl,g,d⟩:=b;exact .inr (.inr ⟨a,f,rfl,cq.of g,by rw[d.len];trivial,λp c=>q _ _ _ (Al.new0 c) ⟨p,_,rfl,upd_same,(Al.new0 c).reps (AQ d h i)⟩⟩)
 trivial
variable{d:ad PV}
noncomputable def vA:PV->Option (List PV)
 |.lst h=>aa h
 |.tup h=>aa h
 |.str x=>aa (x.map λc=>.str [c])
 |_=>ac
def cL(d:ad PV):ad (List PV):=λh=>(d h).bind λx c=>aW (vA x) c
theorem GZ:∀(x:Tx),bd K H F (x.map λc=>PV.str [c]) (x.map sg)
 |[]=>rfl
 |c::x=>⟨sg c,x.map sg,rfl,⟨rfl,by show 1<=ck;decide⟩,GZ x⟩
theorem c6(he:DE X E l d):DI X E g l (cL d):=λF S ε Z H Rr rl h=>Bx.mk λae s I=>by
 have w:=he F S ε Z H (λv r=>∃B D u x,aY X.K B D u Z r/\aT X.K r B x v/\Ok X.K E Z B D r (aW (vA x) u) (λpvs _ F' S' H'=>∀J L RR,bd X.K H' F' pvs L->L.length<=bh->Walk J L RR->(∀S'' F'' Y,bI (U S') (U S'') F' F'' H' Y->RR Y)->Rr J H')) rl
  ((Ok.bind h).imp λx u B D r G g1 q v N=>⟨B,D,u,x,G,N,q⟩)
 refine aP (w.run ae s I) λv c ⟨x,r,y,rx,B,D,u,pv,G,N,q⟩=>?_;cases pv with
 |lst xs=>
  obtain⟨a,M,rfl,C,hF,ra⟩:=N;cases rx;obtain⟨O,rr,pp,P⟩:=y.list (.inl C);refine zo pp.isList ?_;refine⟨c.heap.objs.size,[c.heap.objs.size],_,_,r,rfl,y.kept (t':=c.toks) λb o e=>bi _ e,Rc a _,⟨_,bU _ rfl,rfl,rfl⟩,λb T=>?_,q B D r G (bI.refl ..) (AD X.K a) M (λH=>cg X.K H a M) ra P Rq λS2 F2 H2 g2=>.inl (g2.lst G.fit hF C)⟩;have e:b=c.heap.objs.size:= ~~~T
  subst e;exact y.fpOk (a_ _) (y.hok.fresh (a_ _))
 |tup xs=>
  obtain⟨a,M,rfl,C,ra⟩:=N;cases rx;obtain⟨O,rr,pp,P⟩:=y.tuple (cq.of C);refine tT (show c.heap.IsTuple a O.toArray from pp) ?_;refine⟨c.heap.objs.size,[c.heap.objs.size],_,_,r,rfl,y.kept (t':=c.toks) λb o e=>bi _ e,Ud a _,⟨_,bU _ rfl,rfl,rfl⟩,λb T=>?_,q B D r G (bI.refl ..) (Cd X.K a) M (λH=>cq X.K H a M) ra P MF λS2 F2 H2 g2=>cq.of (g2.imm G.fit C id)⟩;have e:b=c.heap.objs.size:= ~~~T
  subst e;exact y.fpOk (a_ _) (y.hok.fresh (a_ _))
 |str z=>
  obtain⟨rfl,P⟩:=N;obtain⟨t,rfl⟩:=rx;have qq:Rr (vJ (tS z)) r:=q B D r G (bI.refl ..) (vJ (tS z)) (z.map sg) (λ_=>True) (GZ z) (by rw[cy];exact dD P kP) (by have:=Sd (z:=tS z);trivial) λ_ _ _ _=>trivial;have W:∀(n:String) (j:Nat->ax->Prop),(∀i h,j i h->∃o n L,h.get? c.heap.objs.size=aa o/\o.cls=.type n/\o.data=.fields L /\ ["enumerate","zip","dict_itemiterator","dict_reverseitemiterator","odict_iterator","itertools.zip_longest","itertools.pairwise"].contains n=ai) ->
    (∀(A:aZ) (i:Nat) (s:ak) (Q:af->ak->Prop) (E:af->ak->Prop),j i s.heap->Q (.ref c.heap.objs.size) s->ao X.zz A (mK (.ref c.heap.objs.size)) Q E s) ->
    (∀A:aZ,A.handled=ac->Walks X.prog X.w A c.heap.objs.size [c.heap.objs.size] [c.heap.objs.size] (tS z).cps.size (SignAt (tS z)) j) ->
    j 0 (c.heap.push {cls:=.type n,data:=.fields #[.str (tS z) t,.int 0 0]}) ->
    uo X ae Z g Rr (.ref c.heap.objs.size) {c with heap:=c.heap.push {cls:=.type n,data:=.fields #[.str (tS z) t,.int 0 0]}}:=λn j q h2 h3 h4=>by
   refine⟨c.heap.objs.size,[c.heap.objs.size],j,vJ (tS z),r,rfl,y.kept (t':=c.toks) λb o e=>bi _ e,TW q h2 h3,h4,λb T=>?_,qq⟩;have e:b=c.heap.objs.size:= ~~~T
   subst e;exact y.fpOk (a_ _) (y.hok.fresh (a_ _))
  cases C:(tS z).cps.all (· < 128)
  .refine wpAny_pyIter_wide C (W "str_iterator" (λi h=>h.IsStrIter c.heap.objs.size "str_iterator" (tS z) t i) (λi h ⟨o,e1,e2,e3⟩=>⟨o,_,_,e1,e2,e3,by rfl⟩) (λA i s Q E st h=>wpAny_pyIter_striter_wide st h) (λA' hA=>Walks.strWide hA _ (tS z) t) ⟨_,bU _ rfl,rfl,rfl⟩)
  .refine wpAny_pyIter_ascii C (W "str_ascii_iterator" (λi h=>h.IsStrIter c.heap.objs.size "str_ascii_iterator" (tS z) t i) (λi h ⟨o,e1,e2,e3⟩=>⟨o,_,_,e1,e2,e3,by rfl⟩) (λA i s Q E st h=>wpAny_pyIter_striter_ascii st h) (λA' hA=>Walks.strAscii hA _ (tS z) t) ⟨_,bU _ rfl,rfl,rfl⟩)
 |non=>exact(show False from q).elim
 |bl _=>exact(show False from q).elim
 |int _=>exact(show False from q).elim
 |raw _=>exact(show False from q).elim
 |exc _=>exact(show False from q).elim
noncomputable def iM(c:Int)(n:Nat):List PV:=(ce n).map λi=>PV.int (c+(i:Nat))
theorem FV(c:Int)(n:Nat):bd K H F (iM c n) (sI c n):=by
 unfold iM sI
 induction (ce n)with
 |nil=>rfl
 |cons x i h=>exact⟨_,_,rfl,rfl,h⟩
def iz:List PV->Option (List PV)
 |[.int j]=>if j<=1000000/\-1000000<=j then aa (iM 0 j.toNat)else ac
 |_=>ac
def sJ:List PV->Option (List PV)
 |[.int i,.int j]=>if j<=1000000/\-1000000<=j/\i<=1000000/\-1000000<=i then aa (iM i (j-i).toNat)else ac
 |_=>ac
theorem sy(w:X.mg "range"=ac)(y:DA X E [a] m)(x:Gl X "range"^0)(u:(aV [a] X.env=[(ai,aS a X.env)])^0):DI X E g (.Call (.Name "range" p) [a] [] f) (dL iz m):=λF S o i H L r h=>by
 refine A7 (VH x w eC u) (y F S o i H _ r ((Ok.bind h).imp λD n C A B s J c G z=>?_));unfold iz at c;split at c
 .rename_i j;split at c
  .rename_i I;obtain⟨v,rfl,q⟩:=dH z;refine⟨j,by rw[show v=V.int j from q],∅,∅,c C A B s (bI.refl ..) _ _ _ (FV 0 j.toNat) (by rw[xL,rg];lia) G_ λ_ _ _ _=>trivial⟩
  trivial
 trivial
theorem xZ(y:X.mg "range"=ac)(A:DA X E [a,b] m)(z:Gl X "range"^0)(x:(aV [a,b] X.env=[(ai,aS a X.env),(ai,aS b X.env)])^0)(w:(aV [b] X.env=[(ai,aS b X.env)])^0):DI X E g (.Call (.Name "range" p) [a,b] [] f) (dL sJ m):=λF S q n H T r h=>by
 refine A7 (O_ z y eC x w) (A F S q n H _ r ((Ok.bind h).imp λM o L I J s Q c N G=>?_));unfold sJ at c;split at c
 .rename_i i j;split at c
  .rename_i P;obtain⟨v,O,rfl,D,C⟩:=G;obtain⟨u,rfl,B⟩:=dH C;refine⟨i,j,by rw[show v=V.int i from D,show u=V.int j from B],⟨∅,nofun,∅,nofun⟩,c L I J s (bI.refl ..) _ _ _ (FV i (j-i).toNat) (by rw[xL,rg];lia) G_ λ_ _ _ _=>trivial⟩
  trivial
 trivial
end
section
variable{K:aw}{F:ab->Prop}{S:Nat->ab->Prop}{f:ah}{l:St}{H:Hp}{i:Nat}{p m:List PV}{d:List V}{a:ab}
theorem aY.lstAt(r:aY K F S f l H)(e:f[i]?=aa (.own (.lst p))):∃a c,l[i]?=aa (aa (.ref a))/\H a=aa (.lst c)/\bd K H F p c/\S i a/\∀b,S i b->b=a:=by obtain⟨a,o,⟨c,n,j⟩,g⟩:=r.own i _ e;exact⟨a,c,o,n,j,(g a).mpr rfl,λb h=>(g b).mp h⟩
theorem aY.upd(r:aY K F S f l H)(e:f[i]?=aa (.own (.lst p)))(D:l[i]?=aa (aa (.ref a)))(h:bd K H F m d):aY K F S (f.set i (.own (.lst m))) l (upd H a (.lst d))/\bI (U S) (U S) F F H (upd H a (.lst d)):=by
 obtain⟨N,I,E,M,L,B,A⟩:=r.lstAt e;rw[D]at E;cases E;have y:i<f.length:=(cW.mp e).1;have g:bI (U S) (U S) F F H (L2.upd H a (.lst d)):=⟨λ_ z=>z,λb o q n=>by rw[aU (by rintro rfl;exact n ⟨i,B⟩)];exact q,λb o q=>by
  by_cases C:b=a
  .subst C;exact⟨_,upd_same⟩
  .exact⟨o,by rw[aU C];exact q⟩,λ_ z=>.inl z,λ_ z=>.inl z⟩
 refine⟨⟨by rw[kn];exact r.len,λb z=>let ⟨o,q⟩:=r.ex b z;g.there b o q,λj pv q=>?_,λj po q=>?_,λj b z=>?_,r.dist⟩,g⟩
 .have s:i≠j:=by rintro rfl;rw[iT y]at q;cases q
  rw[ff s]at q;obtain⟨v,x,u⟩:=r.val j pv q;exact⟨v,x,u.grow g r.fit⟩
 .by_cases s:i=j
  .subst s;rw[iT y]at q;cases q;exact⟨a,D,⟨d,upd_same,h.grow g r.fit⟩,λb=>⟨A b,λz=>by rw[z];trivial⟩⟩
  .rw[ff s]at q;obtain⟨c,x,u⟩:=r.own j po q;refine⟨c,x,u.mono (λ_ _ z=>z.grow g r.fit) (λ_ _ z=>z.grow g r.fit) λb o z w=>?_⟩;rw[aU (by rintro rfl;exact s (r.dist i j b B z))];exact w
 .obtain⟨⟨po,x⟩,u,o,J,G⟩:=r.foot j b z;by_cases s:i=j
  .subst s;rw[A b z];exact⟨⟨_,iT y⟩,by rw[<-A b z];trivial,_,upd_same,trivial⟩
  .exact⟨⟨po,by rw[ff s];trivial⟩,u,o,by rw[aU (by rintro rfl;exact s (r.dist i j b B z))];trivial,G⟩
end
section
variable{X:Cx}{E:XK}{pin:List Nat}{e b:au}{de f:ad PV}{d:Pos}
noncomputable def eQ(a:ah)(i:Nat):Option (List PV):=match a[i]? with
 |some (.own (.lst c))=>aa c
 |_=>ac
theorem jy(h:eQ a i=aa c):a[i]?=aa (.own (.lst c)):=by
 unfold eQ at h;split at h
 .cases h;trivial
 trivial
def kQ(i:Nat)(de:ad PV):ad aG:=λc=>(aW (eQ c i) c).bind λ_ c=>(de c).bind λy a=>(aW (eQ a i) a).bind λg a=>if g.length<ck then .ok .next (a.set i (.own (.lst (g++[y]))))else .no
theorem qG(i:Nat){g:Pos}(P:DE X E e de)(W:(X.N[i]?=aa x)^0)(M:cO X.env.scope x^2)(Q:av x^1)(bj:a4 x^1) (h1:(ko (.Name x p) "append" X.env (aS (.Name x p) X.env)=aS (.Name x p) X.env)^0)(h2:(((c8 c (aV [e] X.env)).all (λx=>!x.1)&&(rA c (rB [] X.env)).all (λx=>x.1.isSome)&&decide ([e].length+([]:List kq).length+(if([]:List kq).isEmpty then 0 else 1)<30))=ag)^0)(Z:((g.endLine == c.line)=ag)^0) (A:(aV [e] X.env=(ai,aS e X.env)::aV [] X.env)^0) (Y:((c8 c (aV [] X.env)).any (·.1)=ai)^0)(N:(iG (.Call (.Attribute (.Name x p) "append" g) [e] [] c) ac d.line X.env=pure ai)^0):DS X E pin (.Expr (.Call (.Attribute (.Name x p) "append" g) [e] [] c) d) (kQ i de):=λF S s r H D u h=>by
 unfold kQ at h;cases o:eQ s i with
 |none=>rw[o]at h;exact h.elim
 |some B=>
  rw[o]at h;simp only[cA,R.bind_ok]at h;obtain⟨a,C,n,T,_,_,_⟩:=u.lstAt (jy o);refine eY (yf (yH KU PySem.F.slot_list_append PySem.F.type_list_append HX (dR W M Q bj) (fU bL gM A) h1 h2 Z A Y) N) ⟨.ref a,n,.inl ⟨rfl,_,cg.of T⟩,?_⟩;refine P F S s r H _ u (h.bindE.imp λy m F1 S1 H1 z g1 q v I=>?_);cases l:eQ m i with
  |none=>rw[l]at q;trivial
  |some xs=>
   rw[l]at q;simp only[cA,R.bind_ok]at q;obtain⟨a',G,j,L,w,_,_⟩:=z.lstAt (jy l);rw[n]at j;cases j;split at q
   .rename_i O;obtain⟨J,g2⟩:=z.upd (jy l) n (w.app (.one I));exact⟨a,G,v,rfl,rfl,L,by rw[w.len];exact fe O kP,q F1 S1 r _ J g2 (ju.refl _ _)⟩
   trivial
def Q4:V->List V->Hp->VK->Prop:=λx g H Q=>∃l b c a,x=.ref l/\g=[.ref b]/\H l=aa (.lst c)/\Rd H b (.lst a)/\c.length+a.length<=bh/\Q .non (L2.upd H l (.lst (c++a)))
theorem RF:yZ X "list.extend" Q4:=by
 intro P s C H x J v L Q I m o h;obtain⟨l,b,G,D,rfl,rfl,j,y,M,q⟩:=h;cases m;obtain⟨u,rfl,p⟩:=o.one;cases p;obtain⟨z,c,n,r,N,e⟩:=I.lstM j;obtain⟨a,w,i,A,_⟩:=Cv I y;have O:=i.length;have g:c.toArray.size+a.toArray.size<=bh:=⋯
 have B:¬(!c.toArray.isEmpty&&Kz (c.toArray.size+a.toArray.size))=ag:=by rw[TK g,zr];lia
 refine call_meets F.slot_list_extend ⟨_,e,rfl⟩ F.entry_list_extend (F.args_list_extend_2 _ _)
  (AutoSeq1.list_extend_list_list_0 l c.toArray n b a.toArray w B ⋯ ∅) ⟨e,A,?_⟩
 refine⟨.non,_,I.lset (its':=c++a) j e (by simp) (r.append i) ?_,rfl,q⟩;rw[lX];omega
def vg(i:Nat)(de:ad PV):ad aG:=λc=>(aW (eQ c i) c).bind λ_ c=>(de c).bind λy a=>(aW (eQ a i) a).bind λh a=>match y with
 |.lst g=>if h.length+g.length<=ck then .ok .next (a.set i (.own (.lst (h++g))))else .no
 |_=>.no
theorem Bq(i:Nat){j:Pos}(W:DE X E e de)(hN:(X.N[i]?=aa x)^0)(P:cO X.env.scope x^2)(Y:av x^1)(bj:a4 x^1) (h1:(ko (.Name x p) "extend" X.env (aS (.Name x p) X.env)=aS (.Name x p) X.env)^0)(h2:(((c8 g (aV [e] X.env)).all (λx=>!x.1)&&(rA g (rB [] X.env)).all (λx=>x.1.isSome)&&decide ([e].length+([]:List kq).length+(if([]:List kq).isEmpty then 0 else 1)<30))=ag)^0)(h3:((j.endLine == g.line)=ag)^0) (C:(aV [e] X.env=(ai,aS e X.env)::aV [] X.env)^0) (h5:((c8 g (aV [] X.env)).any (·.1)=ai)^0)(Q:(iG (.Call (.Attribute (.Name x p) "extend" j) [e] [] g) ac d.line X.env=pure ai)^0):DS X E pin (.Expr (.Call (.Attribute (.Name x p) "extend" j) [e] [] g) d) (vg i de):=λF S u s H D w h=>by
 unfold vg at h;cases r:eQ u i with
 |none=>rw[r]at h;exact h.elim
 |some G=>
  rw[r]at h;simp only[cA,R.bind_ok]at h;obtain⟨a,I,o,ha,_,_,_⟩:=w.lstAt (jy r);refine eY (yf (yH KU PySem.F.slot_list_extend PySem.F.type_list_extend RF (dR hN P Y bj) (fU bL gM C) h1 h2 h3 C h5) Q) ⟨.ref a,o,.inl ⟨rfl,_,cg.of ha⟩,?_⟩;refine W F S u s H _ w (h.bindE.imp λy n F1 S1 H1 B g1 q v M=>?_);cases m:eQ n i with
  |none=>rw[m]at q;trivial
  |some xs=>
   rw[m]at q;simp only[cA,R.bind_ok]at q;obtain⟨a',J,l,O,A,_,_⟩:=B.lstAt (jy m);rw[o]at l;cases l;split at q
   .rename_i ys;split at q
    .rename_i T;obtain⟨c,L,rfl,Z,_,z⟩:=M;obtain⟨N,g2⟩:=B.upd (jy m) o (A.app z);exact⟨a,c,J,L,rfl,rfl,O,Z,by rw[A.len,z.len];exact dD T kP,q F1 S1 s _ N g2 (ju.refl _ _)⟩
    trivial
   trivial
def vG(i:Nat)(f de:ad PV):ad aG:=λh=>(de h).bind λy c=>(aW (eQ c i) c).bind λ_ c=>(f c).bind λk a=>(aW (eQ a i) a).bind λg a=>match k with
 |.int k=>match kh g.length k with
  |some j=>.ok .next (a.set i (.own (.lst (g.set j y))))
  |none=>.no
 |_=>.no
theorem R7(i:Nat)(hb:DE X E b f)(Y:DE X E e de)(hN:(X.N[i]?=aa x)^0)(T:cO X.env.scope x^2)(Z:av x^1)(bj:a4 x^1) (ha:(∀v,pj (.Subscript (.Name x p) b c) X.env v=(do
   let ov <-kl [v] (aS (.Name x p) X.env)
   let iv <-kl [v,ov] (aS b X.env)
   standAt c
   kl [v,ov,iv] (setItem ov iv v)
   release [v,ov,iv] []))^4) (W:(swapsWithSole [.Subscript (.Name x p) b c] e d.line X.env=pure ai)^0) (Q:(swappedStores [.Subscript (.Name x p) b c] e X.env=pure ac)^0)
  (h1:((tw [.Subscript (.Name x p) b c] X.env).map (·.2)=[pj (.Subscript (.Name x p) b c) X.env])^0):DS X E pin (.Assign [.Subscript (.Name x p) b c] e d) (vG i f de):=λF S C o H D N h=>by
 refine eY (Hj bL (LJ (dR hN T Z bj) bL Vm ha) W Q h1) (Y F S C o H _ N (h.bindE.imp λy l F1 S1 H1 s g1 q v L=>?_));cases z:eQ l i with
 |none=>rw[z]at q;trivial
 |some G=>
  rw[z]at q;simp only[cA,R.bind_ok]at q;obtain⟨a,I,w,wN,_,_,_⟩:=s.lstAt (jy z);refine⟨.ref a,w,hb F1 S1 l o H1 _ s (q.bindE.imp λk r F2 S2 H2 B g2 g u M=>?_)⟩;cases n:eQ r i with
  |none=>rw[n]at g;trivial
  |some xs=>
   rw[n]at g;simp only[cA,R.bind_ok]at g;obtain⟨a',J,m,P,A,_,_⟩:=B.lstAt (jy n);rw[w]at m;cases m;split at g
   .rename_i k;split at g
    .rename_i j hj;obtain⟨O,g3⟩:=B.upd (jy n) w (A.set (L.grow g2 s.fit) j);exact⟨a,J,k,j,rfl,M,P,by rw[A.len];trivial,g F2 S2 o _ O g3 (ju.refl _ _)⟩
    trivial
   trivial
end
mutual
noncomputable def imm:PV->Bool
 |.lst _=>ai
 |.tup a=>mw a
 |_=>ag
noncomputable def mw:List PV->Bool
 |[]=>ag
 |x::a=>imm x&&mw a
end
mutual
theorem aT.imm{K:aw}{i:ab->Prop}:∀(x:PV) {v:V},imm x=ag->aT K H F x v->aT K H i x v
 |.non,_,_,h=>h
 |.bl _,_,_,h=>h
 |.int _,_,_,h=>h
 |.str _,_,_,h=>h
 |.raw _,_,_,h=>h
 |.exc _,_,_,h=>h
 |.lst _,_,e,_=>by simp[Pu.imm]at e
 |.tup b,_,e,⟨a,c,g,f,d⟩=>⟨a,c,g,f,bd.imm b (by simpa[Pu.imm]using e) d⟩
theorem bd.imm{K:aw}{i:ab->Prop}:∀(a:List PV) {b:List V},mw a=ag->bd K H F a b->bd K H i a b
 |[],_,_,h=>h
 |x::a,_,e,⟨v,r,g,f,d⟩=>by
  have c:imm x=ag/\mw a=ag:=by simpa[mw]using e
  exact⟨v,r,g,aT.imm x c.1 f,bd.imm a c.2 d⟩
end
section
variable{K:aw}{F:ab->Prop}{S:Nat->ab->Prop}{d:ah}{c:St}{H:Hp}{i:Nat}{f:List PV}
theorem aY.look(r:aY K F S d c H)(e:d[i]?=aa (.own (.lst f))):∃a,c[i]?=aa (aa (.ref a))/\¬F a/\aT K H (λb=>F b\/b=a) (.lst f) (.ref a)/\(∀b,F b\/b=a->∃o,H b=aa o) /\ (∀{h g},Al (λb=>F b\/b=a) h H g->Al F (λb=>h b/\b≠a) H g):=by
 obtain⟨a,l,q,j,p,n,s⟩:=r.lstAt e;have m:¬F a:=(r.foot i a n).2.1;refine⟨a,q,m,⟨a,l,rfl,.inl j,.inr rfl,bd.mono (λ_ z=>.inl z) (λ_ _ _ z=>z) (λ_ _ z _=>z) _ _ p⟩,λb z=>z.elim (r.ex b) λz=>by rw[z];exact⟨_,j⟩,λ{h g} al=>⟨λb z=>⟨al.fro b (.inl z),by lia⟩,al.same,λb z=>?_⟩⟩;rcases al.fnew b z.1 with(w|w)|w
 .exact .inl w
 .exact absurd w z.2
 .exact .inr w
end
section
variable{X:Cx}{E:XK}{e b:au}{de m:ad PV}{d p:Pos}{x y:Str}{l:String}{r:List V->Hp->VK->Prop}{f:List PV->Option PV}{g:List PV->Option PO}
def uE(o:Option PV):Option PV:=o.bind λv=>if imm v then aa v else ac
theorem Mc(h:uE o=aa v):o=aa v/\imm v=ag:=by
 cases o with
 |none=>cases h
 |some w=>have h:(if imm w then aa w else ac)=aa v:=h;lia
def Jc:PO->Bool
 |.lst a=>mw a
 |_=>ai
def jN{c:Type}(f:List PV->Option c)(i:Nat):ad c:=λa=>(aW (eQ a i) a).bind λh a=>aW (f [.lst h]) a
theorem VE(D:PL X.K r f)(A:aY X.K F S o n H)(h:Ok X.K E n F S H (jN (λc=>uE (f c)) i o) (λpv _ B _ j=>∀v,aT X.K j B pv v->Q v j)):∃a,n[i]?=aa (aa (.ref a))/\r [.ref a] H Q:=by
 unfold jN at h;cases u:eQ o i with
 |none=>rw[u]at h;trivial
 |some c=>
  rw[u]at h;simp only[cA,R.bind_ok]at h;obtain⟨a,I,M,C,G,z⟩:=A.look (jy u);refine⟨a,I,?_⟩;cases s:uE (f [.lst c])with
  |none=>rw[s]at h;trivial
  |some pv=>rw[s]at h;obtain⟨L,J⟩:=Mc s;exact D _ H [.lst c] [.ref a] Q pv (.one C) L λw B j al q=>h _ S j (A.al (z al)) (z al).grow w (aT.imm pv J q)
theorem SN(i:Nat)(C:c_ X (.builtin l) r)(v:PL X.K r f)(z:X.mg x=ac)(s:dX x=aa (.builtin l))(D:(X.N[i]?=aa y)^0)(J:cO X.env.scope y^2)(B:av y^1) (L:a4 y^1) (A:Gl X x^0) (w:(x≠"__name__")^1) (o:av x^1)(h:(aV [.Name y c] X.env=(ai,aS (.Name y c) X.env)::aV [] X.env)^0) (I:((c8 d (aV [] X.env)).any (·.1)=ai)^0):DE X E (.Call (.Name x p) [.Name y c] [] d) (jN (λj=>uE (f j)) i):=λF S N M H Q n q=>by obtain⟨a,G,u⟩:=VE v n q;exact bT (jQ C A z s (fU (dR D J B L) gM h) w o h I) ⟨_,G,u⟩
def nK(o:Option PO):Option PO:=o.bind λv=>if Jc v then aa v else ac
theorem Jm(hp:kc X.K r g)(D:aY X.K F S v u H)(h:Ok X.K E u F S H (jN (λn=>nK (g n)) i v) (λG _ M S' s=>∀a A,eR X.K s M G a A->(∀b,A b->H b=ac/\¬M b/\¬U S' b/\∃o,s b=aa o/\eA o)->Q (.ref a) s)):∃a,u[i]?=aa (aa (.ref a))/\r [.ref a] H Q:=by
 unfold jN at h;cases L:eQ v i with
 |none=>rw[L]at h;trivial
 |some n=>
  rw[L]at h;simp only[cA,R.bind_ok]at h;obtain⟨a,ea,nF,ra,I,N⟩:=D.look (jy L);refine⟨a,ea,?_⟩;cases J:g [.lst n]with
  |none=>rw[J]at h;trivial
  |some G=>
   rw[J]at h;cases G with
   |dK q=>exact h.elim
   |lls g8=>exact h.elim
   |dL g8=>exact h.elim
   |ins C fs=>exact h.elim
   |dT q=>exact h.elim
   |dN q=>trivial
   |inl C fs y n=>exact h.elim
   |lst B=>
    have h:Ok X.K E u F S H (aW (if mw B then aa (PO.lst B)else ac) v) _:=h;split at h
    .rename_i hi;refine hp _ H [.lst n] [.ref a] Q _ I (.one ra) J λc M s A al ow fr=>h _ S s (D.al (N al)) (N al).grow c A ?_ λb z=>?_
     .obtain⟨⟨Z,o1,o2⟩,o3⟩:=ow;exact⟨⟨Z,o1,bd.imm B hi o2⟩,o3⟩
     .obtain⟨Y,W,o,P,O⟩:=fr b z;refine⟨Y,λw=>W w.1,λ⟨j,w⟩=>?_,o,P,O⟩;obtain⟨_,_,o',w1,_⟩:=D.foot j b w;lia
    trivial
theorem Iz(i:Nat)(C:c_ X (.builtin l) r)(v:kc X.K r g)(z:X.mg x=ac)(s:dX x=aa (.builtin l))(D:(X.N[i]?=aa y)^0)(J:cO X.env.scope y^2)(B:av y^1) (L:a4 y^1) (A:Gl X x^0) (w:(x≠"__name__")^1) (o:av x^1)(h:(aV [.Name y c] X.env=(ai,aS (.Name y c) X.env)::aV [] X.env)^0) (I:((c8 d (aV [] X.env)).any (·.1)=ai)^0):DN X E (.Call (.Name x p) [.Name y c] [] d) (jN (λj=>nK (g j)) i):=λF S N M H Q n q=>by obtain⟨a,G,u⟩:=Jm v n q;exact bT (jQ C A z s (fU (dR D J B L) gM h) w o h I) ⟨_,G,u⟩
end
open L2
noncomputable def sN(h:ax)(e T:ab)(c g:af):Prop:=∃a b f d,h.get? e=aa a/\a.cls=c/\(a.data=.fields b/\a.dict=ac)/\b[1]?=aa (.ref T)/\T≠e/\h.get? T=aa f/\f.data=.fields d/\d[3]?=aa g
structure Kp(fs:List ab)(X:ab->Prop)(h h':ax):Prop where
 keep:∀b o,h.get? b=aa o->b∉fs->¬X b->h'.get? b=aa o
 slot:∀b o,h.get? b=aa o->b∈fs->¬X b->∃sl,h'.get? b=aa {o with slots:=sl}
 there:∀b o,h.get? b=aa o->∃o',h'.get? b=aa o'
theorem Kp.trans(a:Kp fs X h g)(b:Kp fs Y g f):Kp fs (λc=>X c\/Y c) h f where
 keep:=λc o e n x=>b.keep c o (a.keep c o e n λz=>x (.inl z)) n λz=>x (.inr z)
 slot:=λc o e n x=>by obtain⟨l,j⟩:=a.slot c o e n λz=>x (.inl z);obtain⟨d,i⟩:=b.slot c _ j n λz=>x (.inr z);exact⟨d,i⟩
 there:=λc o e=>let ⟨o',e'⟩:=a.there c o e;b.there c o' e'
theorem Kp.imp(a:Kp fs X h j)(f:∀b,b∈fs->b∈d)(g:∀b o,h.get? b=aa o->X b->Y b):Kp d Y h j where
 keep:=λc o e n x=>a.keep c o e (λz=>n (f c z)) λz=>x (g c o e z)
 slot:=λc o e n x=>by
  by_cases i:c∈fs
  .exact a.slot c o e i λz=>x (g c o e z)
  .exact⟨o.slots,a.keep c o e i λz=>x (g c o e z)⟩
 there:=a.there
theorem Pj(f:Array af->Array af)(o:Obj):(pI f o).dict=o.dict:=by
 obtain⟨c,d,dt,a⟩:=o;cases dt <;> rfl
section
variable{A:aZ}{s:ak}
theorem OY(Z:A.frames=aa (m::g)) (S:s.heap.FunFrames B (m::g)) (hf:m.frame=aa L) (W:s.heap.get? e=aa y) (I:y.data=.fields G) (hdn:y.dict=ac) (w:1<G.size)(h:∀N T,Kp (gc (m::g)) (λb=>b=e) s.heap N->sN N e T y.cls .none->s.heap.objs.size<=T->Q () {s with heap:=N}):ao M A (do let a <-frameOf m;let u <-entryPlaceOf L Wd;let b <-EntryCells.newEntry l a .none (df L) .none u;lZ (.ref e) 1 b) (λ_ Y=>ao M A (setFlight (.ref e) ac) Q E Y) E s:=by
 have z:e∉(m::g).filterMap (·.frame):=λhm=>by obtain⟨_,o,F,X⟩:=S.mem hm;rw[W]at F;injection F with F;subst F;exact X G I
 refine aj (wpAny_frameOf_fun Z S hf λc d=>?_);refine aj (wpAny_entryPlaceOf λu cp=>?_);unfold EntryCells.newEntry newFields;refine aj (jW ?_ (cp.sizeOk5 _ _ _ _ _));have p:c.get? e=aa y:=(d.2.1 e z).trans W;have n:=bi (h:=c) {cls:=.type "traceback",dict:=ac,data:=.fields ([l,.ref L,.none,df L,.none]++(if u.isEmpty then fJ 6 Value.none else u)).toArray} p;refine om n I w ?_;have D:c.objs.size≠e:=ln (bu p);have j:=rP I (·.setIfInBounds 1 (Value.ref c.objs.size));have i:=n8 (pI (·.setIfInBounds 1 (Value.ref c.objs.size))) n (zG j);have r:=(rj (c.push {cls:=.type "traceback",dict:=ac,data:=.fields ([l,.ref L,.none,df L,.none]++(if u.isEmpty then fJ 6 Value.none else u)).toArray}) (pI (·.setIfInBounds 1 (Value.ref c.objs.size))) (fF D)).trans (bU c rfl);unfold setFlight;refine aj (n5 i j (x:=.ref c.objs.size) (by simp[w]) ?_);rw[if_pos (show(Value.ref c.objs.size != Value.none)=ag from by rfl)];refine om r rfl (by simp) (h _ c.objs.size ?_ ?_ ?_)
 .have keep:∀b o,b≠e->c.get? b=aa o ->
    (((c.push {cls:=.type "traceback",dict:=ac,data:=.fields ([l,.ref L,.none,df L,.none]++(if u.isEmpty then fJ 6 Value.none else u)).toArray}).update e (pI (·.setIfInBounds 1 (Value.ref c.objs.size)))).update c.objs.size (pI (·.setIfInBounds 3 ((ac:Option ab).elim Value.none λf=>df f)))).get? b=aa o:=λb o C v=>by
   have J:c.objs.size≠b:=ln (bu v);rw[rj _ _ J,rj _ _ (fF C)];exact bi _ v
  refine⟨λb o v P H=>keep b o H ((d.2.1 b P).trans v),λb o v P H=>?_,λb o v=>?_⟩
  .obtain⟨O,q⟩:=d.2.2 b o v;exact⟨O,keep b _ H q⟩
  .by_cases C:b=e
   .subst C;exact⟨_,(rj _ _ D).trans i⟩
   .obtain⟨O,q⟩:=d.2.2 b o v;exact⟨_,keep b _ C q⟩
 .refine⟨_,_,_,_,(rj _ _ D).trans i,KW _ _,⟨j,by rw[Pj];trivial⟩,by simp[w],D,n8 _ r (zG (rP rfl _)),rP rfl _,by rfl⟩
 .exact rE d.1.symm
theorem RI(I:A.frames=aa (i::d))(O:s.heap.FunFrames n (i::d))(x:i.frame=aa L)(N:sN s.heap e T c .none)(h:∀m r,Kp (gc (i::d)) (λb=>b=e\/b=T) s.heap m->sN m e r c .none->s.heap.objs.size<=r->Q () {s with heap:=m}):ao M A (noteFrame (.ref e) i) (λ_ H=>ao M A (setFlight (.ref e) ac) Q E H) E s:=by
 obtain⟨W,w,X,G,y,S,⟨B,v⟩,D,F,p,j,C⟩:=N;subst S;unfold noteFrame;simp only[x];refine aj (n5 y B D ?_);rw[if_pos (show(Value.ref T != Value.none)=ag from by rfl)];refine aj (n5 p j C ?_);rw[if_neg (show ¬((Value.none == df L)=ag)from by simp[df])];refine aj (om p j (tO.mp C).1 ?_);have a:∀b,b≠T->(s.heap.update T (pI (·.setIfInBounds 3 Value.none))).get? b=s.heap.get? b:=λb f=>rj _ _ (fF f);have g:∀b o,s.heap.get? b=aa o->(∀w,o.data≠.fields w)->b≠T:=λb o f u q=>by rw[q,p]at f;injection f with f;subst f;exact u G j
 refine OY I (O.of_keeps λb o f u=>⟨o,(a b (g b o f u)).trans f,rfl⟩) x ((a e (fF F)).trans y) B v (tO.mp D).1 λm r k P Y=>?_;have J:Kp (gc (i::d)) (λb=>b=T) s.heap (s.heap.update T (pI (·.setIfInBounds 3 Value.none))):=by
  refine⟨λb o f _ l=>(a b l).trans f,λb o f _ l=>⟨o.slots,(a b l).trans f⟩,λb o f=>?_⟩;by_cases l:b=T
  .subst l;exact⟨_,n8 _ p (zG (rP j _))⟩
  .exact⟨o,(a b l).trans f⟩
 refine h m r ((J.trans k).imp (λ_ z=>z) λb o _ z=>z.symm) P ?_;simp_all
theorem Uw(j:A.frames=aa (d::a))(m:s.heap.FunFrames f (d::a))(n:d.frame=aa L)(l:sN s.heap e T c .none)(h:∀g i,Kp (gc (d::a)) (λb=>b=e\/b=T) s.heap g->sN g e i c .none->s.heap.objs.size<=i->Q () {s with heap:=g}):ao M A (leaving d (.ref e)) Q E s:=by unfold leaving;exact aj (RI j m n l h)
end
def hG(P:aM)(w:aD):eX:=λb H s E e s'=>∃(a T:ab) (c:af) (d:Hp),e=.ref a/\s'.os=s.os/\nW s'.gens/\Un (gc b) [] H d s.heap s'.heap/\cZ P w d s'.heap/\sN s'.heap a T c .none /\
 (s.heap.get? a=ac/\s.heap.get? T=ac/\d a=ac/\d T=ac)/\E c ac d
theorem CJ(u:Un fs [] H c h b)(e:b.get? a=ac):h.get? a=ac:=by
 cases q:h.get? a with
 |none=>rfl
 |some o=>obtain⟨d,z⟩:=u.there a o q (by simp);lia
theorem T_(u:Un fs [] H p h v)(k:Kp a X v s)(x:∀b o,h.get? b=aa o->b∈a->b∈fs)(j:∀b o,h.get? b=aa o->¬X b)(y:∀b∈a,p b=ac):Un fs [] H p h s where
 keep:=λb o e n i d=>k.keep b o (u.keep b o e n i d) (λz=>i (x b o e z)) (j b o e)
 slot:=λb o e n i d=>by
  obtain⟨w,m⟩:=u.slot b o e n i d;by_cases r:b∈a
  .obtain⟨l,f⟩:=k.slot b _ m r (j b o e);exact⟨l,f⟩
  .exact⟨w,k.keep b _ m r (j b o e)⟩
 free:=u.free
 there:=λb o e d=>let ⟨o',e'⟩:=u.there b o e d;k.there b o' e'
 tups:=u.tups
 frzs:=u.frzs
 tbls:=λb q e=>⟨(u.tbls b q e).1,λc o f g=>⟨k.keep c o ((u.tbls b q e).2 c o f g).1 (λz=>by have m:=((u.tbls b q e).2 c o f g).2;simp_all) (j c o g),((u.tbls b q e).2 c o f g).2⟩⟩
theorem QC(x:cZ P w H h)(k:Kp fs X h a)(d:∀b∈fs,H b=ac)(g:∀b,X b->H b=ac):cZ P w H a:=λb u e=>
 (x b u e).stay (λc v f q=>k.keep c v q (λz=>by
   simp_all) λz=>by
   simp_all) (λ_ q=>q) λ_ _ q=>q
section
variable{P:aM}{w:aD}{K:aw}{n:Str->Option af}{l:ax}{N:List Str}{j:Str}{g:cV}{f:ab}{p:af}{A:aZ}{i:List Env}{d:ak}{m:Hp}{E:XK}
theorem bA:nH (hG P w) (ic (hG P w) P w K n l N j g f p A i d m E) E:=λae X H s e s' I h=>by
 obtain⟨a,T,c,W,rfl,G,J,un,y,O,⟨Q,fT,F,Y⟩,M⟩:=h;have r:=I.call' (s':=s') (ch:=[]) G un y J (λb z=>absurd z (by simp));refine Uw (L:=d.heap.objs.size) I.ok.frames r.stack rfl O λZ D k B x=>?_;have Qr:(ic (hG P w) P w K n l N j g f p A i d m E).ex=[]:=rfl;have C:d.heap.get? a=ac:=CJ I.base Q;have S:d.heap.get? T=ac:=CJ I.base fT;have v:d.heap.get? D=ac:=CJ r.base (Dx x);have u:∀b o,d.heap.get? b=aa o->b≠a/\b≠T:=λb o e=>⟨(by lia),(by lia)⟩
 refine⟨a,D,c,W,rfl,r.os,r.bare,T_ r.base k (λb o e z=>?_) (λb o e z=>z.elim (u b o e).1 (u b o e).2) r.stkFree,QC r.hok k r.stkFree (λb z=>by lia),B,⟨C,v,F,r.hok.fresh x⟩,M⟩;rcases b8.mp (I.stkSub b z)with q|q
 .exact absurd (bu e) (by rw[q];exact rf _)
 trivial
end
noncomputable def XP(X:Cx)(g:List (ab×Obj))(d:St)(h:af->Hp->Prop)(e:af)(f:ak):Prop:=∃a b,Inv X g d b a/\hG X.prog X.w X.stack b a (λc _ i=>h c i) e f
section
variable{X:Cx}{K:aw}
theorem RQ(b:X.mg x=aa (.ref D))(c:Gl X x^0)(d:av x^1):DE X E (.Name x a) (dC (.raw (.ref D))):=λF S g f H Q r q=>bT (B3 (v:=.ref D) c b rfl d) (q F S H r (bI.refl ..) _ rfl)
variable{de:ad PV}{a:Pos}{y:Str}
def Cj(b:List PV)(y:PV):Option PV:=(dP y).bind λv=>(mE b).bind λc=>(c.findIdx? λz=>gf z v).map λj=>.int j
end
def jI(g:Tx):List Tx->Tx
 |[]=>[]
 |[x]=>x
 |x::y::r=>x++g++jI g (y::r)
theorem Fb(a b:Tx):tS (a++b)=tS a++tS b:=by apply Str.ext';simp[tS,Str.cps_append]
theorem Ih(g:Tx):∀a:List Tx,Str.join (tS g) (a.map tS)=tS (jI g a)
 |[]=>rfl
 |[x]=>rfl
 |x::y::r=>by show tS x++tS g++Str.join (tS g) ((y::r).map tS)=tS (x++g++jI g (y::r));rw[Ih g (y::r),Fb,Fb]
theorem IT(g:Tx)(a:List Tx):Txt.join (tS g) (a.map tS)=tS (jI g a):=by unfold Txt.join;rw[StrLaws.glued_eq_join,Ih]
theorem Fc(c:Nat):∀l:List Nat,PyProof.Rows.cnt c l=(l.count c:Nat)
 |[]=>rfl
 |a::l=>by rw[PyProof.Rows.cnt_cons,Fc c l,List.count_cons];lia
theorem Os(c:Nat)(x:Tx):Txt.count (tS x) (tS [c])=(x.count c:Nat):=by have:=PyProof.Rows.count_cnt (tS x) c;rw[jx,Fc]at this;trivial
theorem CU:∀{b:List Tx}{a:List af},bE (bz b) a->bR a (b.map tS)
 |[],_,r=>by cases r;exact .nil
 |x::b,_,r=>by
  cases r with
  |cons d c=>obtain⟨t,rfl⟩:=d;exact .cons _ t (CU c)
section
variable{X:Cx}{K:aw}
def pd(g:Tx)(a:List Tx):Nat:=(a.map n4).sum+a.length*g.length
theorem HR(g:Tx):∀a,(jI g a).length<=pd g a
 |[]=>gW _
 |[x]=>by simp[jI,pd]
 |x::y::r=>by have h:=HR g (y::r);show(x++g++jI g (y::r)).length<=_;generalize jI g (y::r)=z at h;unfold pd at *;simp only[lX,cN,List.sum_cons,gH,Nat.add_mul]at *;lia
def A_(K:aw):V->List V->Hp->VK->Prop:=λx b H Q=>∃g p a,x=tV g/\b=[.ref p]/\(cg K H p (bz a)\/cq K H p (bz a))/\pd g a<=ck/\Q (tV (jI g a)) H
theorem NY:pf X "str.join" (A_ X.K):=by
 intro A s w H x y v z Q I l n h;obtain⟨g,p,a,rfl,rfl,c,r,q⟩:=h;obtain⟨t,rfl⟩:=l;obtain⟨u,rfl,m⟩:=vals1 n;cases m;have b:((a.map tS).map (·.length)).sum+(a.map tS).length*(tS g).length<=16777216:=by
  have e:((a.map tS).map (·.length))=a.map n4:=by rw[fg];rfl
  rw[e,cy,mx];unfold pd ck at r;lia
 rcases c with c|c
 .obtain⟨j,f,i,o⟩:=I.list c;exact join_list i.isList (by simpa using CU f) b λd k=>⟨tV (jI g a),H,I.tok _,(by rw[IT];exact⟨d,rfl⟩),q⟩
 .obtain⟨j,f,i,o⟩:=I.tuple c;exact join_tuple i (by simpa using CU f) b λd k=>⟨tV (jI g a),H,I.tok _,(by rw[IT];exact⟨d,rfl⟩),q⟩
def Gy:V->List V->Hp->VK->Prop:=λx a H Q=>∃y c,x=tV y/\a=[tV [c]]/\Q (.int (y.count c:Nat)) H
theorem RV:pf X "str.count" Gy:=by intro j s d H x f v g Q I a b h;obtain⟨y,c,rfl,rfl,q⟩:=h;obtain⟨t,rfl⟩:=a;obtain⟨u,rfl,i,rfl⟩:=vals1 b;exact SC.count ⟨.int _,H,I.tok _,⟨_,by rw[Os]⟩,q⟩
def PM(K:aw)(r:V->List V->Hp->VK->Prop)(f:Tx->List PV->Option PV):Prop:=∀(F:ab->Prop) (H:Hp) (x:Tx) (b:List PV) (c:List V) (Q:VK) (pv:PV),x.length<=ck->bd K H F b c->f x b=aa pv->(∀w d a,Al F d H a->aT K a d pv w->Q w a)->r (tV x) c H Q
def Se:PV->Option Tx
 |.str x=>aa x
 |_=>ac
def xR(f:Tx->List PV->Option PV)(d:ad PV)(m:ad (List PV)):ad PV:=λc=>(d c).bind λx a=>(aW (Se x) a).bind λy a=>(m a).bind λg b=>aW (f y g) b
variable{E:XK}{o e:au}{l:List au}{d:ad PV}{m:ad (List PV)}{i:Str}{j b:Pos}{n:String}{r:V->List V->Hp->VK->Prop}{f:Tx->List PV->Option PV}
theorem Bs(g:PySem.Slot "str" i n)(T:typeOf (.builtin n)=pure (.type "method_descriptor"))(hm:pf X n r)(hp:PM X.K r f)(ho:DE X E o d)(ha:DA X E (e::l) m)(Y:(ko o i X.env (aS o X.env)=aS o X.env)^0)(L:(((c8 b (aV (e::l) X.env)).all (λx=>!x.1)&&(rA b (rB [] X.env)).all (λx=>x.1.isSome)&&decide ((e::l).length+([]:List kq).length+(if([]:List kq).isEmpty then 0 else 1)<30))=ag)^0)(W:((j.endLine == b.line)=ag)^0) (hs:(aV (e::l) X.env=(ai,aS e X.env)::aV l X.env)^0) (G:((c8 b (aV l X.env)).any (·.1)=ai)^0):DE X E (.Call (.Attribute o i j) (e::l) [] b) (xR f d m):=λF S D q H Q N h=>by
 refine bT (yH PySem.F.plainAttrs_str g T hm bL eC Y L W hs G) (ho F S D q H _ N ((Ok.bind h).imp λx c C A B P g1 p v M=>?_));cases x <;> first|exact(show False from p).elim|skip
 rename_i y;obtain⟨rfl,Z⟩:=M;refine⟨rfl,?_⟩;have p:Ok X.K E q C A B ((m c).bind λI a=>aW (f y I) a) _:=p;refine ha C A c q B _ P ((Ok.bind p).imp λz a F2 S2 H2 O g2 u J f9=>?_);cases e:f y z with
 |none=>rw[e]at u;trivial
 |some pv=>rw[e]at u;exact hp F2 H2 y z J Q pv Z f9 e λw F' H' al s=>u F' S2 H' (O.al al) al.grow w s
def AO(g:Tx):List PV->Option PV
 |[.lst c]=>(dS c).bind λa=>if pd g a<=ck then aa (.str (jI g a))else ac
 |[.tup c]=>(dS c).bind λa=>if pd g a<=ck then aa (.str (jI g a))else ac
 |_=>ac
theorem Rf:PM K (A_ K) AO:=λF H g D G Q pv I z e q=>by
 have u:∀(w:List PV) (p:ab) (c:List V),bd K H F w c->(cg K H p c\/cq K H p c)->((dS w).bind λs=>if pd g s<=ck then aa (PV.str (jI g s))else ac)=aa pv->A_ K (tV g) [.ref p] H Q:=λw p c h C e=>by
  cases x:dS w with
  |none=>rw[x]at e;cases e
  |some s=>
   rw[x,iZ]at e;split at e
   .rename_i A;cases e;have B:=(Ws.mp (jG x ▸ h)).1;subst B;exact⟨g,p,s,rfl,rfl,C,A,q _ F H (Al.refl ..) ⟨rfl,dD (HR g s) A⟩⟩
   trivial
 unfold AO at e;split at e
 .obtain⟨v,rfl,a,c,rfl,y,_,h⟩:=dH z;exact u _ a c h (.inl (.inl y)) e
 .obtain⟨v,rfl,a,c,rfl,y,h⟩:=dH z;exact u _ a c h (.inr (cq.of y)) e
 trivial
def AK(y:Tx):List PV->Option PV
 |[.str [c]]=>aa (.int (y.count c:Nat))
 |_=>ac
theorem S9:PM K Gy AK:=λF H y g h Q pv p a e q=>by
 unfold AK at e;split at e
 .rename_i c;cases e;obtain⟨v,rfl,rfl,_⟩:=dH a;exact⟨y,c,rfl,rfl,q _ F H (Al.refl ..) rfl⟩
 trivial
end
section
variable{X:Cx}{E:XK}{n:cV}{x:Str}{N':List Str}{cap:List Nat}
variable{p:List Nat}
theorem FT(W:i∉p)(rl:aY X.K F S m f H)(h:jP X.K E p f F S H (bG i (dF dn) m) D):Ok X.K E f F S H (dn m) (λs _ r v l=>∀a d,eR X.K l r s a d->(∀b,d b->H b=ac/\¬r b/\¬U v b/\∃o,l b=aa o/\eA o)->D.nx (f.set i (aa (.ref a))) l):=by
 unfold bG dF at h;cases u:dn m with
 |no=>rw[u]at h;trivial
 |er c L=>rw[u]at h;exact λx r v l P g'=>h x r v f l P g' (ju.refl _ _)
 |ok s J=>
  rw[u]at h;intro I G q O j a d Q B;cases s with
  |dK g=>exact h.elim
  |lls g8=>exact h.elim
  |dL g8=>exact h.elim
  |ins C fs=>exact h.elim
  |dT g=>exact h.elim
  |dN g=>exact h.elim
  |inl C fs y A=>exact h.elim
  |lst A=>
   have hN:∀b,d b->¬U G b/\∃o,q b=aa o:=λb z=>let ⟨_,_,x3,o,x4,_⟩:=B b z;⟨x3,o,x4⟩
   obtain⟨⟨M,Y,T⟩,Z⟩:=Q;have g2:bI (U S) (U G) F (λb=>I b\/d b) H q:=⟨λb z=>.inl (j.fro b z),j.keep,j.there,λb z=>z.elim (j.fnew b) λw=>.inr (.inl (B b w).1),j.onew⟩
   have N:aT X.K q (λb=>I b\/d b) (.lst A) (.ref a):=⟨a,M,rfl,.inl Y,.inr ((Z a).mpr rfl),bd.mono (λ_ z=>.inl z) (λ_ _ _ z=>z) (λ_ _ z _=>z) _ _ T⟩
   exact h _ _ _ q ((O.more hN).set N) (g2.trans (bI.less i)) (ju.set W)
section
variable{c a:au}{y:Str}{g j f d:Pos}{l:ad (List PV)}{m:ad PO}
theorem Ff(i:Nat)(Y:X.N.Nodup)(B:iy X n x N' cap)(W:X.calm=ag)(O:DI X E (.Name x g) a l)(L:∀C o q u r,DF (bO X n N' C o q u r) E0 b dt) (T:∀C o q u r,DE (bO X n N' C o q u r) E0 c de)(N:(i∉p)^1) (A:(X.N[i]?=aa y)^0) (J:Loc X.env.scope y^6) (G:(iG (.ListComp c [⟨.Name x g,a,b,0⟩] n f) (aa (.Name y j)) d.line X.env=pure ag)^0)(P:a3 X y^3) (M:(∀x,km a X.env x=pure x)^4):DS X E p (.Assign [.Name y j] (.ListComp c [⟨.Name x g,a,b,0⟩] n f) d) (bG i (dF (eD cap l dt de))):=λF S Z v H D z h=>eY (Ve (wi:=nQ X (.Name x g) a) (ts:=λv H Q=>∀C o q u r,qH (bO X n N' C o q u r) b v H Q) (te:=λv H Q=>∀C o q u r,ix (bO X n N' C o q u r) c v H Q) B W vS (λC o q u r w s v H Q I h=>(h C o q u r).run w s I) (λC o q u r w s v H Q I h=>(h C o q u r).run w s I) Y A J G P M) (Hx O L T z (FT N z h))
end
end
def kN(a:List Nat):Nat->ah->Bool
 |_,[]=>ag
 |i,.own c::b=>a.contains i&&ki c&&kN a (i+1) b
 |i,_::b=>kN a (i+1) b
theorem qi:∀{b:ah}{k:Nat},kN c k b=ag->∀(i:Nat) a,b[i]?=aa (.own a)->k+i∈c/\ki a=ag
 |[],_,_,i,a,e=>by trivial
 |.own q::b,k,h,0,a,e=>by simp only[List.getElem?_cons_zero,Option.some.injEq,Slot.own.injEq]at e;subst e;simp only[kN,iX]at h;exact⟨~~~h.1.1,h.1.2⟩
 |.own q::b,k,h,i+1,a,e=>by simp only[kN,iX]at h;have:=qi (k:=k+1) h.2 i a (by trivial);lia
 |.val q::b,k,h,0,a,e=>by simp at e
 |.none::b,k,h,0,a,e=>by simp at e
 |.val q::b,k,h,i+1,a,e=>by have:=qi (k:=k+1) (by trivial) i a (by trivial);lia
 |.none::b,k,h,i+1,a,e=>by have:=qi (k:=k+1) (by trivial) i a (by trivial);lia
noncomputable def dU(len:Nat)(b:List Nat)(g:ad Slot):ad Slot:=λa=>if a.length=len/\kN b 0 a=ag then g a else .no
theorem xG{K:aw}{o:Str->Option af}{c:ax}{x:Str}{a:aR}{N b:List Str}{k n:Nat}{d:ad aG}{pin:List Nat}(D:bw K o x a)(F:bq N b (aQ a))(v:N.length=b.length+n)(y:∀(kV p u:af) (C:Option ab) (l B:af) (m:List af),m.length=b.length->fH (iW x x (ji a) (eT a) (aQ a) .none kV p u C l B) ⟨m,[]⟩=pure (b.zip m))(z:∀(f:ab) (l:af) (A:aZ) (j:List Env) (s:ak) (H:Hp) (E:XK),Room k (A.deeper (iV x (aQ a) s.heap.objs.size f l))->fP (ic q P w K o c N x (aQ a) f l A j s H E) E pin (eT a) d):jk q P w K o c x (k+1) b (dO K (dU b.length pin (bg n d))):=by
 have no:∀{g},dU b.length pin (bg n d) g≠.no->g.length=b.length/\kN pin 0 g=ag:=λ{g} h=>by unfold dU at h;simp_all
 exact VT D F v y (λg h=>(no h).1) (λg h i r e=>by have:=qi (no h).2 i r e;rwa[ou]at this) (λg h=>by unfold dU;rw[if_pos (no h)]) z
theorem PJ{P:aM}{w:aD}{K:aw}{q:Str->Option af}{g:ax}{x a:Str}{b:aR}{N c:List Str}{k n:Nat}{d:ad aG}{pin:List Nat}(I:qr K x a b f r)(G:bq N c (aQ b))(z:N.length=c.length+n)(B:∀(kV p y:af) (F:Option ab) (m D:af) (o:List af),o.length=c.length->fH (iW x a (ji b) (eT b) (aQ b) .none kV p y F m D) ⟨o,[]⟩=pure (c.zip o))(C:∀(f:ab) (m:af) (A:aZ) (l:List Env) (s:ak) (H:Hp) (E:XK),Room k (A.deeper (iV a (aQ b) s.heap.objs.size f m))->fP (ic u P w K q g N a (aQ b) f m A l s H E) E pin (eT b) d):jf P w K q g u (k+1) f r c (dO K (dU c.length pin (bg n d))):=by
 have no:∀{j},dU c.length pin (bg n d) j≠.no->j.length=c.length/\kN pin 0 j=ag:=λ{j} h=>by unfold dU at h;simp_all
 exact HK I G z B (λj h=>(no h).1) (λj h i v e=>by have:=qi (no h).2 i v e;rwa[ou]at this) (λj h=>by unfold dU;rw[if_pos (no h)]) C
theorem JI{P:List af->Prop}(h:∀a,P [a])(b:List af)(c:b.length=1):P b:=by
 cases b with
 |nil=>trivial
 |cons a r=>simp_all
theorem JZ{P:List af->Prop}(h:∀a b,P [a,b])(c:List af)(d:c.length=2):P c:=by
 cases c with
 |nil=>trivial
 |cons a r=>exact JI (P:=λr=>P (a::r)) (h a) r (Ec d)
theorem Gz{P:List af->Prop}(h:∀a b c,P [a,b,c])(d:List af)(f:d.length=3):P d:=by
 cases d with
 |nil=>trivial
 |cons a r=>exact JZ (P:=λr=>P (a::r)) (h a) r (Ec f)
theorem UQ{P:List af->Prop}(h:∀a b c d,P [a,b,c,d])(f:List af)(g:f.length=4):P f:=by
 cases f with
 |nil=>trivial
 |cons a r=>exact Gz (P:=λr=>P (a::r)) (h a) r (Ec g)
theorem Hv{d:gT}{c:List Str}(h:∀a,fH d ⟨[a],[]⟩=pure (c.zip [a]))(b:List af)(f:b.length=1):fH d ⟨b,[]⟩=pure (c.zip b):=JI (P:=λb=>fH d ⟨b,[]⟩=pure (c.zip b)) h b f
theorem E3{f:gT}{d:List Str}(h:∀a b,fH f ⟨[a,b],[]⟩=pure (d.zip [a,b]))(c:List af)(g:c.length=2):fH f ⟨c,[]⟩=pure (d.zip c):=JZ (P:=λc=>fH f ⟨c,[]⟩=pure (d.zip c)) h c g
theorem G1{g:gT}{f:List Str}(h:∀a b c,fH g ⟨[a,b,c],[]⟩=pure (f.zip [a,b,c]))(d:List af)(i:d.length=3):fH g ⟨d,[]⟩=pure (f.zip d):=Gz (P:=λd=>fH g ⟨d,[]⟩=pure (f.zip d)) h d i
theorem JG{i:gT}{g:List Str}(h:∀a b c d,fH i ⟨[a,b,c,d],[]⟩=pure (g.zip [a,b,c,d]))(f:List af)(j:f.length=4):fH i ⟨f,[]⟩=pure (g.zip f):=UQ (P:=λf=>fH i ⟨f,[]⟩=pure (g.zip f)) h f j
theorem eF:nH (hG P w) X E0:=λ_ _ _ _ _ _ _ h=>by obtain⟨a,T,c,b,_,_,_,_,_,_,_,z⟩:=h;trivial
theorem c4:dX "len"=aa (.builtin "len"):=by decide +kernel
theorem Dg:dX "all"=aa (.builtin "all"):=by decide +kernel
theorem RT:dX "any"=aa (.builtin "any"):=by decide +kernel
theorem jL:dX "sorted"=aa (.builtin "sorted"):=by decide +kernel
theorem o5:dX "isinstance"=aa (.builtin "isinstance"):=by decide +kernel
theorem R6:dX "int"=aa (.type "int"):=by decide +kernel
theorem RU:dX "bool"=aa (.type "bool"):=by decide +kernel
theorem Hr:dX "str"=aa (.type "str"):=by decide +kernel
theorem qo:dX "list"=aa (.type "list"):=by decide +kernel
theorem sG:dX "tuple"=aa (.type "tuple"):=by decide +kernel
theorem oV:dX "set"=aa (.type "set"):=by decide +kernel
def jj:au->Bool
 |.Starred _ _=>ag
 |_=>ai
theorem dA(h:jj e=ai):aV (e::es) env=(ai,aS e env)::aV es env:=by
 cases e <;> first|rfl|cases h
section
theorem ay(g:DE X E e d)(f:DA X E a b)(h:(jj e=ai)^0):DA X E (e::a) (ap d b):=QE g f (dA h)
theorem aB(g:DE X E e d)(f:DG X E a c)(h:(jj e=ai)^0):DG X E (e::a) (gV d c):=NH g f (dA h)
end
noncomputable def EZ(K:aw):Bool:=K.all λp=>match p.2.cls with
 |.type t=>t != "list"
 |_=>ag
theorem Jo:∀{K:aw},K.lookup a=aa o->(a,o)∈K
 |[],e=>by cases e
 | (b,u)::K,e=>by
  rw[n_]at e;cases q:a == b with
  |true=>simp_all
  |false=>rw[q]at e;exact gr _ (Jo e)
theorem HE{K:aw}:∀a:List Int,bd K H F (a.map .int) (a.map V.int)
 |[]=>rfl
 |x::a=>⟨.int x,a.map V.int,rfl,rfl,HE a⟩
theorem TX{K:aw}{b:List V}(h:EZ K=ag)(s:cg K H a b):Rd H a (.lst b):=by
 rcases s with s|⟨o,d,n,c,f,_⟩
 .exact s
 .have:=tW.mp h _ (Jo c);rw[f]at this;trivial
theorem UJ{K:aw}{a:ab}{c:List Int}{E:XK}(d:Rd H a (.lst (c.map V.int)))(h:g [.val (.lst (c.map .int))]=.ok (.val (.bl ag)) [.val (.lst (c.map .int))]):dO K g [.ref a] H (λv _=>v=.bl ag) E:=by
 refine⟨λb=>b=a,λ_ _=>False,[.val (.lst (c.map .int))],⟨rfl,λb e=>?_,λi pv e=>?_,λi l e=>?_,λi b z=>z.elim,λi j b z=>z.elim⟩,?_⟩
 .subst e;rcases d with d|⟨o,d⟩ <;> exact⟨_,d⟩
 .cases i with
  |zero=>cases e;exact⟨_,rfl,a,_,rfl,d,rfl,HE c⟩
  |succ i=>trivial
 .cases i with
  |zero=>cases e
  |succ i=>trivial
 .rw[h];exact λv q n p m _ _ f _ _=>f.1
theorem WD{K:aw}{t:Tok}(e:dZ K cx x=aa (aa (.int i t))):∃t,dZ K cx x=aa (aa (.int i t)):=⟨t,e⟩
theorem Wy{K:aw}{t:Tok}(e:dZ K cx x=aa (aa (.str (tS l) t))):∃t,dZ K cx x=aa (aa (.str (tS l) t)):=⟨t,e⟩
def bJ(K:aw)(x:Str)(a:aR):Prop:=∃f h g kV i d l b j c,dZ K cx x=aa (aa (.ref f))/\K.lookup f=aa ⟨h,g,.func (iW x x (ji a) (eT a) (aQ a) .none kV i d l b j),c⟩/\zg K b x=ag/\pr K (.ref f)=ag
theorem Wm{K:aw}{b:aR}{f:ab}{j kV m h d n:af}{i o:Option ab}{g:Array (Option af)}(a:dZ K cx x=aa (aa (.ref f)))(l:K.lookup f=aa ⟨j,i,.func (iW x x (ji b) (eT b) (aQ b) .none kV m h o d n),g⟩)(c:zg K d x=ag) (k:pr K (.ref f)=ag):bJ K x b:=⟨f,j,i,kV,m,h,o,d,n,g,a,l,c,k⟩
theorem bJ.at{K:aw}{x:Str}{st:aR}(d:bJ K x st)(X:K.In h)(G:h.Ns cx mg):bw K mg x st:=by obtain⟨f,j,i,kV,m,g,p,o,n,b,a,l,c,k⟩:=d;exact⟨f,_,Ed X G a,I_ l c k⟩
noncomputable def mq(a:List (aF×PV))(k:aF):Option PV:=(a.find? λb=>decide (b.1=k)).map (·.2)
noncomputable def sA(a:List (aF×PV))(k:aF)(v:PV):List (aF×PV):=if(a.any λb=>decide (b.1=k))=ag then a.map (λb=>if b.1=k then(b.1,v)else b)else a++[(k,v)]
def jh:PV->Option aF
 |.int i=>aa (.inl i)
 |.str x=>aa (.inr (tS x))
 |_=>ac
section
variable{K:aw}{F:ab->Prop}{S:Nat->ab->Prop}{ε:ah}{l:St}{H:Hp}{i:Nat}{d:List (aF×PV)}{f:List (aF×V)}{a:ab}
theorem sZ(r:aT K H F x v)(e:jh x=aa k):v=kV k:=by
 cases x <;> simp[jh]at e
 .subst e;exact r
 .subst e;exact r.1
theorem gQ.len(h:gQ K H F d f):f.length=d.length:=by
 unfold gQ at h
 induction h with
 |nil=>rfl
 |cons _ _ b=>simp[b]
theorem gQ.val(h:gQ K H F d f)(k:aF):(∃x v,mq d k=aa x/\gh f k=aa v/\aT K H F x v)\/(mq d k=ac/\gh f k=ac):=by
 unfold gQ at h
 induction h with
 |nil=>exact .inr ⟨rfl,rfl⟩
 |@cons p q ps qs r _ ih=>
  by_cases e:p.1=k
  .refine .inl ⟨p.2,q.2,by simp[mq,jX,e],?_,r.2⟩;rw[sT (by rw[<-r.1];exact e)]
  .have b:¬q.1=k:=by rw[<-r.1];exact e
   rw[sK b];have:mq (p::ps) k=mq ps k:=by simp[mq,jX,e]
   rw[this];trivial
theorem gQ.any(h:gQ K H F d f)(k:aF):(d.any λb=>decide (b.1=k))=f.any λb=>decide (b.1=k):=by
 unfold gQ at h
 induction h with
 |nil=>rfl
 |cons r _ c=>rw[n9,n9,c,r.1]
theorem gQ.put(h:gQ K H F d f)(k:aF)(r:aT K H F x v):gQ K H F (sA d k x) (gk f k v):=by
 unfold sA gk;rw[h.any k];split
 .rename_i b;clear b;unfold gQ at h ⊢
  induction h with
  |nil=>exact .nil
  |@cons p q ps qs r1 _ ih=>refine .cons ?_ ih;lia
 .exact vZ h ⟨rfl,r⟩
theorem aY.dkAt(r:aY K F S ε l H)(e:ε[i]?=aa (.own (.dK d))):∃a f,l[i]?=aa (aa (.ref a))/\H a=aa (.dK f)/\gQ K H F d f/\S i a/\∀b,S i b->b=a:=by obtain⟨a,n,⟨g,m,j⟩,c⟩:=r.own i _ e;exact⟨a,g,n,m,j,(c a).mpr rfl,λb h=>(c b).mp h⟩
theorem aY.updO(r:aY K F S ε l H)(e:ε[i]?=aa (.own p))(O:ki p=ag)(G:l[i]?=aa (aa (.ref a)))(N:eA o')(h:∀A,(∀x v,aT K H F x v->aT K A F x v)->(∀x v,bd K H F x v->bd K A F x v)->A a=aa o'->∀J:ab->Prop,(∀b,J b↔b=a)->eR K A F po' a J):aY K F S (ε.set i (.own po')) l (L2.upd H a o')/\bI (U S) (U S) F F H (L2.upd H a o'):=by
 obtain⟨Q,I,M⟩:=r.own i p e;rw[G]at I;cases I;have s:=GR M O;have C:S i a:=(s a).mpr rfl;have E:∀b,S i b->b=a:=λb z=>(s b).mp z;have B:i<ε.length:=(cW.mp e).1;have g:bI (U S) (U S) F F H (L2.upd H a o'):=⟨λ_ z=>z,λb o q n=>by rw[aU (by rintro rfl;exact n ⟨i,C⟩)];exact q,λb o q=>by
  by_cases D:b=a
  .subst D;exact⟨_,upd_same⟩
  .exact⟨o,by rw[aU D];exact q⟩,λ_ z=>.inl z,λ_ z=>.inl z⟩
 refine⟨⟨by rw[kn];exact r.len,λb z=>let ⟨o,q⟩:=r.ex b z;g.there b o q,λj pv q=>?_,λj p q=>?_,λj b z=>?_,r.dist⟩,g⟩
 .have m:i≠j:=by rintro rfl;rw[iT B]at q;cases q
  rw[ff m]at q;obtain⟨v,y,u⟩:=r.val j pv q;exact⟨v,y,u.grow g r.fit⟩
 .by_cases m:i=j
  .subst m;rw[iT B]at q;cases q;exact⟨a,G,h _ (λ_ _ z=>z.grow g r.fit) (λ_ _ z=>z.grow g r.fit) upd_same _ s⟩
  .rw[ff m]at q;obtain⟨c,y,u⟩:=r.own j p q;refine⟨c,y,u.mono (λ_ _ z=>z.grow g r.fit) (λ_ _ z=>z.grow g r.fit) λb o z w=>?_⟩;rw[aU (by rintro rfl;exact m (r.dist i j b C z))];exact w
 .obtain⟨⟨p,y⟩,u,o,P,L⟩:=r.foot j b z;by_cases m:i=j
  .subst m;rw[E b z];exact⟨⟨_,iT B⟩,by rw[<-E b z];trivial,_,upd_same,N⟩
  .exact⟨⟨p,by rw[ff m];trivial⟩,u,o,by rw[aU (by rintro rfl;exact m (r.dist i j b C z))];trivial,L⟩
end
noncomputable def dW(b:ah)(i:Nat):Option (List (aF×PV)):=match b[i]? with
 |some (.own (.dK a))=>aa a
 |_=>ac
theorem lc(h:dW b i=aa a):b[i]?=aa (.own (.dK a)):=by
 unfold dW at h;split at h
 .cases h;trivial
 trivial
section
variable{X:Cx}{E:XK}{pin:List Nat}{e b c:au}{de db f:ad PV}{d:Pos}
def uS:ad PO:=λa=>.ok (.dK []) a
theorem AG:DN X E (.Dict [] [] d) uS:=λF S l i H Q a h=>bT OI λp g=>by
 have al:Al F F H (upd H p (.dK [])):=Al.new0 g;refine h F S _ (a.al al) al.grow p (λb=>b=p) ⟨⟨[],upd_same,.nil⟩,λb=>i5⟩ λb z=>?_;subst z;refine⟨g,λz=>?_,λ⟨j,z⟩=>?_,_,upd_same,trivial⟩
 .obtain⟨o,q⟩:=a.ex b z;lia
 .obtain⟨_,_,o,q,_⟩:=a.foot j b z;lia
def nN(i:Nat)(db:ad PV):ad PV:=λg=>(aW (dW g i) g).bind λ_ g=>(db g).bind λk a=>(aW (dW a i) a).bind λh a=>aW ((jh k).bind λk=>mq h k) a
theorem xS(i:Nat)(hu:X.A.units+64<cLine)(M:DE X E b db)(O:(X.N[i]?=aa y)^0)(P:cO X.env.scope y^2)(L:av y^1) (T:a4 y^1) (I:u6 b^8):DE X E (.Subscript (.Name y A) b d) (nN i db):=λF S o z H Q p h=>by
 unfold nN at h;cases n:dW o i with
 |none=>rw[n]at h;exact h.elim
 |some s=>
  rw[n]at h;simp only[cA,R.bind_ok]at h;obtain⟨a,B,w,_⟩:=p.dkAt (lc n);refine bT (LZ ∅ (dR O P L T) bL I) ⟨.ref a,w,M F S o z H _ p ((Ok.bind h).imp λk j Z W Y r g1 q u C=>?_)⟩;cases m:dW j i with
  |none=>rw[m]at q;trivial
  |some G=>
   rw[m]at q;simp only[cA,R.bind_ok]at q;obtain⟨a',ws,g,N,J,_⟩:=r.dkAt (lc m);rw[w]at g;cases g;cases l:jh k with
   |none=>rw[l]at q;trivial
   |some D=>
    rw[l,iZ]at q;rw[sZ C l];rcases J.val D with⟨x,v,h1,h2,h3⟩|⟨h1,h2⟩
    .rw[h1]at q;exact⟨a,v,rfl,by rw[<-h2];exact lF.k N,q Z W Y r (bI.refl ..) v h3⟩
    .rw[h1]at q;trivial
def lP(i:Nat)(db f:ad PV):ad PV:=λg=>(aW (dW g i) g).bind λ_ g=>(db g).bind λk h=>(f h).bind λz a=>(aW (dW a i) a).bind λj a=>aW ((jh k).map λk=>(mq j k).getD z) a
theorem yz(i:Nat){g:Pos}(hu:X.A.units+64<cLine)(hb:DE X E b db)(hc:DE X E c f)(hN:(X.N[i]?=aa y)^0)(cJ:cO X.env.scope y^2)(hd:av y^1) (bj:a4 y^1)(l:(ko (.Name y j) "get" X.env (aS (.Name y j) X.env)=aS (.Name y j) X.env)^0) (A:((g.endLine == d.line)=ag)^0) (s1:(jj b=ai)^0) (s2:(jj c=ai)^0):DE X E (.Call (.Attribute (.Name y j) "get" g) [b,c] [] d) (lP i db f):=λF S I G H Q L h=>by
 have J:aV [b,c] X.env=[(ai,aS b X.env),(ai,aS c X.env)]:=by rw[dA s1,dA s2];rfl
 have m:M2 X (.Name y j) "get" g b c d:=⟨l,by rw[J];rfl,A,by rw[J];rfl⟩
 unfold lP at h;cases D:dW I i with
 |none=>rw[D]at h;exact h.elim
 |some M=>
  rw[D]at h;simp only[cA,R.bind_ok]at h;obtain⟨a,Y,O,Z,_⟩:=L.dkAt (lc D);refine bT (OL ∅ (dR hN cJ hd bj) bL bL m) ⟨.ref a,O,a,rfl,.inl ⟨_,.inl Z⟩,hb F S I G H _ L ((Ok.bind h).imp λk p F1 S1 H1 r1 g1 q u ru=>?_)⟩;refine hc F1 S1 p G H1 _ r1 ((Ok.bind q).imp λz o W P T s g2 q w r=>?_);cases C:dW o i with
  |none=>rw[C]at q;trivial
  |some kvs=>
   rw[C]at q;simp only[cA,R.bind_ok]at q;obtain⟨a',ws,n,N,hk,_⟩:=s.dkAt (lc C);rw[O]at n;cases n;cases B:jh k with
   |none=>rw[B]at q;trivial
   |some ky=>
    rw[B,mQ]at q;rw[sZ ru B];rcases hk.val ky with⟨x,v,l,h2,A⟩|⟨l,h2⟩
    .rw[l]at q;exact⟨aa v,by rw[<-h2];exact lF.k N,q W P T s (bI.refl ..) v A⟩
    .rw[l]at q;exact⟨ac,by rw[<-h2];exact lF.k N,q W P T s (bI.refl ..) w r⟩
def jF(i:Nat)(db de:ad PV):ad aG:=λj=>(de j).bind λy g=>(aW (dW g i) g).bind λ_ g=>(db g).bind λk a=>(aW (dW a i) a).bind λh a=>(aW (jh k) a).bind λk a=>if h.length<ck then .ok .next (a.set i (.own (.dK (sA h k y))))else .no
theorem pb(i:Nat)(hu:X.A.units+64<cLine)(hb:DE X E b db)(he:DE X E e de)(hN:(X.N[i]?=aa y)^0)(cJ:cO X.env.scope y^2)(hd:av y^1) (bj:a4 y^1) (Z:(iG e (aa (.Subscript (.Name y B) b g)) d.line X.env=pure ai)^0):DS X E pin (.Assign [.Subscript (.Name y B) b g] e d) (jF i db de):=λF S J o H D Q h=>by
 refine eY (FY ∅ (dR hN cJ hd bj) bL bL Z) (he F S J o H _ Q (h.bindE.imp λy l F1 S1 H1 r g1 q v O=>?_));cases A:dW l i with
 |none=>rw[A]at q;trivial
 |some G=>
  rw[A]at q;simp only[cA,R.bind_ok]at q;obtain⟨a,L,x,wN,_⟩:=r.dkAt (lc A);refine⟨.ref a,x,hb F1 S1 l o H1 _ r (q.bindE.imp λk p F2 S2 H2 C g2 j u P=>?_)⟩;cases n:dW p i with
  |none=>rw[n]at j;trivial
  |some w=>
   rw[n]at j;simp only[cA,R.bind_ok]at j;obtain⟨a',M,m,ha,I,_⟩:=C.dkAt (lc n);rw[x]at m;cases m;cases z:jh k with
   |none=>rw[z]at j;trivial
   |some s=>
    rw[z]at j;simp only[cA,R.bind_ok]at j;split at j
    .rename_i hl;rw[sZ P z];have dG:=I.put s (O.grow g2 r.fit);obtain⟨T,g3⟩:=C.updO (po':=.dK (sA w s y)) (o':=.dK (gk M s v)) (lc n) rfl x trivial λH' Y m2 N Sa W=>⟨⟨_,N,dG.mono Y⟩,W⟩
     exact⟨a,_,rfl,y4.k ha (by rw[I.len];exact fe hl kP),j F2 S2 o _ T g3 (ju.refl _ _)⟩
    trivial
end
section
variable{X:Cx}
def iQ(a d:ab):HO:=.ext λh=>h.IsValuesView a d
theorem HQ:pf X "dict.values" (λx c H Q=>∃d b,x=.ref d/\c=[]/\H d=aa (.dK b)/\∀a,H a=ac->Q (.ref a) (upd H a (iQ a d))):=by
 intro B s u H x c v w Q I i j h;obtain⟨d,b,rfl,rfl,r,q⟩:=h;cases i;cases j.zero;obtain⟨z,p,g,l,f⟩:=vk I.hok r;refine call_meetsIn KY f.typeIs PySem.F.entry_dict_values (PySem.F.args_dict_values_1 _) (meets_dict_values (gB X.prog X.w) d p) ⟨⟨g,f⟩,?_⟩;refine⟨.ref s.heap.objs.size,_,I.laid (a:=s.heap.objs.size) (o:=iQ s.heap.objs.size d) (t':=s.toks) (λ_ _ q=>bi _ q) (a_ _) ?_,rfl,q _ I.fresh⟩;exact⟨⟨_,bU _ rfl,rfl,rfl⟩,⟨_,bU _ rfl⟩,λA y ⟨o,n,m⟩ k=>⟨o,k o n,m⟩⟩
theorem KV.at(r:KV kvs vs){i:Nat}{k:aF}{u:af}(h:vs[i]?=aa (k,u)):∃v,kvs[i]?=aa (k,v)/\RelV v u:=by
 unfold KV at r
 induction r generalizing i with
 |nil=>trivial
 |@cons p q ps qs r1 _ ih=>
  cases i with
  |zero=>simp at h;subst h;exact⟨p.2,by simp[show k=p.1 from r1.1.symm],r1.2⟩
  |succ i=>exact ih (by trivial)
noncomputable def qS(a:List (aF×V)):Option Bool:=match a with
 |[]=>aa ai
 | (_,.int i)::r=>(qS r).map λb=>(decide (i≠0))||b
 |_=>ac
theorem Hn:∀{a:List (aF×V)}{b:Bool},qS a=aa b->(∀(i:Nat) k v,a[i]?=aa (k,v)->∃n,v=.int n)/\b=(ce a.length).any λi=>match a[i]? with|aa (_,.int n)=>decide (n≠0)|_=>ai
 |[],b,h=>by simp[qS]at h;subst h;exact⟨by simp,rfl⟩
 | (k,.int n)::r,b,h=>by
  simp only[qS,gU]at h;obtain⟨l,j,g⟩:=h;obtain⟨f,d⟩:=Hn j;refine⟨λi c v e=>?_,?_⟩
  .cases i with
   |zero=>simp at e;exact⟨n,e.2.symm⟩
   |succ i=>exact f i c v (by trivial)
  .rw[gH,zn,n9,List.any_map,<-g,d];rfl
 | (_,.non)::_,_,h=>by trivial
 | (_,.bl _)::_,_,h=>by trivial
 | (_,.str _)::_,_,h=>by trivial
 | (_,.ref _)::_,_,h=>by trivial
 | (_,.ty _)::_,_,h=>by trivial
theorem NN(S:X.calm=ag):c_ X (.builtin "any") (λy H Q=>∃(p d:ab) (a:List (aF×V)) (b:Bool),y=[.ref p]/\H p=aa (iQ p d)/\H d=aa (.dK a)/\qS a=aa b/\Q (.bl b) H):=by
 intro ae s D H y us Q I r h;obtain⟨p,d,a,b,rfl,m,P,W,q⟩:=h;obtain⟨u,rfl,F⟩:=vals1 r;cases F;obtain⟨l,_,_⟩:=(show bN X.prog X.w H s.heap p (iQ p d)from I.hok p _ m)
 obtain⟨z,hs,g,f,dd⟩:=vk I.hok P;obtain⟨B,j⟩:=dd.dictAt;obtain⟨N,M⟩:=Hn W;refine call_any_walk (wpAny_pyIter_values l j ?_);refine⟨s.heap.objs.size,_,_,_,_,_,λi=>match a[i]? with|aa (_,.int n)=>decide (n≠0)|_=>ai,rfl,Walks.dictValues (np (I.ok.hd S)) _ d (cr j.lt_size) g B,⟨⟨_,bU _ rfl,rfl,rfl⟩,j.push _⟩,λi v s' Q' E' l A=>?_,λh' E k=>?_⟩
 .obtain⟨L,O⟩:=l;obtain⟨w,C,Z⟩:=KV.at f O;obtain⟨n,rfl⟩:=N i L w C;obtain⟨t,rfl⟩:=Z;dsimp only at A;rw[C]at A;exact PyProof.Rows.truthy_int (by rw[show(n != 0)=decide (n≠0) by by_cases z:n=0 <;> simp[z]];trivial)
 .have I1:Inv X ae D H {s with heap:=s.heap.push {cls:=.type "dict_valueiterator",data:=.fields #[.ref d,.int 0 0,.int g.length 0,.int B 0]},toks:=s.toks}:=I.kept (t':=s.toks) λb o e=>bi _ e;have Y:(ce g.length).any (λi=>match a[i]? with|aa (_,.int n)=>decide (n≠0)|_=>ai)=b:=by rw[<-f.length];exact M.symm
  rw[Y];exact⟨.bl _,H,Inv.turned (t':=E) I1 (it:=s.heap.objs.size) (λb o T e=>k b o (~~~T) e) I.fresh (ln I.lt) (.inr I.sz) (λx c e z=>by obtain⟨v,G⟩:=I.cell x c e;exact absurd G.lt (by rw[z];simp)) (λJ m z=>absurd (bu (I.pin J m).1) (by rw[z];simp)),rfl,q⟩
end
section
variable{X:Cx}{E:XK}{pin:List Nat}{b c:au}{db I:ad PV}
def qM:List (aF×PV)->Option Bool
 |[]=>aa ai
 | (_,.int i)::r=>(qM r).map λb=>(decide (i≠0))||b
 |_=>ac
theorem Ss{K:aw}{a:List (aF×PV)}{d:List (aF×V)}{k:Bool}(h:gQ K H F a d)(e:qM a=aa k):qS d=aa k:=by
 unfold gQ at h
 induction h generalizing k with
 |nil=>exact e
 |@cons p q D qs r _ ih=>
  obtain⟨l,pv⟩:=p;obtain⟨j,g⟩:=q;cases pv <;> simp only[qM,gU]at e <;> try cases e
  obtain⟨i,f⟩:=r;obtain rfl:g=V.int _:=f;rename_i h;simp only[qS,ih h.1,mQ];rw[<-h.2]
def uZ(i:Nat):ad PV:=λa=>(aW (dW a i) a).bind λd a=>aW ((qM d).map .bl) a
theorem Rk(i:Nat){f d:Pos}(G:X.calm=ag)(z:X.mg "any"=ac)(J:(X.N[i]?=aa y)^0)(N:cO X.env.scope y^2)(D:av y^1) (O:a4 y^1) (C:Gl X "any"^0)(w:(ko (.Name y g) "values" X.env (aS (.Name y g) X.env)=aS (.Name y g) X.env)^0) (v:((f.endLine == d.line)=ag)^0)(r:(aV [.Call (.Attribute (.Name y g) "values" f) [] [] d] X.env=(ai,aS (.Call (.Attribute (.Name y g) "values" f) [] [] d) X.env)::aV [] X.env)^0) (M:((c8 A (aV [] X.env)).any (·.1)=ai)^0):DE X E (.Call (.Name "any" p) [.Call (.Attribute (.Name y g) "values" f) [] [] d] [] A) (uZ i):=λF S u T H Q o h=>by
 unfold uZ at h;cases m:dW u i with
 |none=>rw[m]at h;exact h.elim
 |some j=>
  rw[m]at h;simp only[cA,R.bind_ok]at h;obtain⟨a,n,L,s,B,W,_⟩:=o.dkAt (lc m);cases l:qM j with
  |none=>rw[l]at h;exact h.elim
  |some k=>
   rw[l,mQ]at h;refine bT (jQ (NN G) C z RT (fU (Gr KC KY PySem.F.type_dict_values HQ (dR J N D O) w v) gM r) (by decide) (by rfl) r M) ⟨.ref a,L,.inr (.inr (.inl ⟨rfl,.inl ⟨_,s⟩⟩)),a,n,rfl,rfl,s,λq x=>?_⟩;have al:Al F F H (L2.upd H q (iQ q a)):=Al.new0 x;have P:a≠q:=by lia
   exact⟨q,a,n,k,rfl,upd_same,by rw[aU P];trivial,Ss B l,h F S _ (o.al al) al.grow _ rfl⟩
def xQ(X:Cx)(E:XK)(m:List au)(d:ad (PO×List cu)):Prop :=
 ∀F S i f H Q,aY X.K F S i f H->Ok X.K E f F S H (d i) (λp _ h n g=>∀a l j,eR X.K g h p.1 a l->(∀b,l b->H b=ac/\¬h b/\¬U n b/\∃o,g b=aa o/\eA o)->jt X.K (f++[aa (.ref a)]) h g p.2 j->Q j g)->qb X m f H Q
theorem jt.app{K:aw}{H:Hp}(a:St):∀{l:List cu}{j:List V},jt K g F H l j->jt K (g++a) F H l j
 |[],_,h=>h
 |.inl _::_,_,⟨v,r,e,f,d⟩=>⟨v,r,e,f,d.app a⟩
 |.inr i::_,_,⟨v,r,e,f,d⟩=>⟨v,r,e,by rw[jV (cW.mp f).1];trivial,d.app a⟩
theorem eR.stay{K:aw}{F h:ab->Prop}{H f:Hp}{po:PO}{a:ab}{Sa:ab->Prop}(n:eR K H F po a Sa)(g:bI O i F h H f)(fit:ny O F H)(d:∀b,Sa b->¬F b/\¬O b/\∃o,H b=aa o/\eA o):eR K f h po a Sa/\∀b,Sa b->¬h b/\¬i b/\∃o,f b=aa o/\eA o:=by refine⟨n.mono (λ_ _ z=>z.grow g fit) (λ_ _ z=>z.grow g fit) λb o z w=>(g.stay w (d b z).2.1 (d b z).1).1,λb z=>?_⟩;obtain⟨s,r,o,q,p⟩:=d b z;obtain⟨m,l,j⟩:=g.stay q r s;exact⟨l,j,o,m,p⟩
variable{dn:ad PO}{C:ad (List cu)}{B:ad (PO×List cu)}
def gN(dn:ad PO)(C:ad (List cu)):ad (PO×List cu):=λf=>(dn f).bind λg d=>(C d).bind λh a=>.ok (g,.inr a.length::h) a
theorem GM(w:DN X E e dn)(v:DG X E m C)(u:(jj e=ai)^0):xQ X E (e::m) (gN dn C):=λF S q i H Q r h=>by refine qp (fU bL eC (dA u)) (w F S q i H _ r ((Ok.bind h).imp λW d T M O n Y y a J s o=>?_));refine v T M d i O _ n ((Ok.bind y).imp λZ p P L N l D x j G=>?_);obtain⟨f,g⟩:=s.stay D n.fit λb z=>(o b z).2;refine x P L N l (bI.refl ..) a J (.ref a::j) f (λb z=>⟨(o b z).1,g b z⟩) ⟨.ref a,j,rfl,?_,G.app _⟩;rw[l.len,vX (a_ _),Nat.sub_self];rfl
def o0(d:ad PV)(B:ad (PO×List cu)):ad (PO×List cu):=λg=>(d g).bind λx f=>(B f).bind λp a=>.ok (p.1,.inl x::p.2) a
theorem xr(y:DE X E e de)(w:xQ X E m B)(u:(jj e=ai)^0):xQ X E (e::m) (o0 de B):=λF S l f H Q q h=>by refine qp (fU bL eC (dA u)) (y F S l f H _ q ((Ok.bind h).imp λx d Z P W g L G v o=>?_));refine w Z P d f W _ g ((Ok.bind G).imp λp j Y O T r J D a N n s i M=>?_);exact D Y O T r (bI.refl ..) a N _ s (λb z=>⟨jv L (i b z).1,(i b z).2⟩) ⟨v,n,rfl,o.grow J g.fit,M⟩
theorem aY.push{K:aw}{d:ah}{u:St}{H:Hp}{w:PO}{a:ab}{h:ab->Prop}(r:aY K F S d u H)(G:eR K H F w a h)(x:∀b,h b->¬F b/\¬U S b/\∃o,H b=aa o/\eA o):aY K F (λj b=>S j b\/(j=d.length/\h b)) (d++[.own w]) (u++[aa (.ref a)]) H:=by
 have lt:∀j b,S j b->j<d.length:=λj b z=>by obtain⟨⟨p,q⟩,_⟩:=r.foot j b z;exact(cW.mp q).1
 refine⟨by simp[r.len],r.ex,λj pv q=>?_,λj p q=>?_,λj b z=>?_,λj k b g f=>?_⟩
 .by_cases s:j<d.length
  .rw[jV s]at q;obtain⟨v,y,l⟩:=r.val j pv q;exact⟨v,by rw[jV (by rw[<-r.len];trivial)];trivial,l⟩
  .rw[vX ∅]at q;cases i:j-d.length with
   |zero=>rw[i]at q;simp at q
   |succ n=>rw[i]at q;trivial
 .by_cases s:j<d.length
  .rw[jV s]at q;obtain⟨v,y,l⟩:=r.own j p q;refine⟨v,by rw[jV (by rw[<-r.len];trivial)];trivial,?_⟩;have:(λb=>S j b\/(j=d.length/\h b))=S j:=by funext b;exact propext ⟨λz=>z.elim id λz=>absurd z.1 (cr s),.inl⟩
   rw[this];trivial
  .rw[vX ∅]at q;cases i:j-d.length with
   |zero=>
    rw[i]at q;simp at q;subst q;have D:j=d.length:=∅
    subst D;refine⟨a,by rw[r.len,vX (a_ _),Nat.sub_self];rfl,?_⟩;have:(λb=>S d.length b\/(d.length=d.length/\h b))=h:=by
     grind
    rw[this];trivial
   |succ n=>rw[i]at q;trivial
 .rcases z with z|⟨rfl,z⟩
  .obtain⟨⟨p,q⟩,l⟩:=r.foot j b z;exact⟨⟨p,by rw[jV (lt j b z)];exact q⟩,l⟩
  simp_all
 .rcases g with g|⟨rfl,g⟩ <;> rcases f with f|⟨rfl,f⟩
  .exact r.dist j k b g f
  .exact absurd ⟨j,g⟩ (x b f).2.1
  .exact absurd ⟨k,f⟩ (x b g).2.1
  rfl
theorem aY.pop{K:aw}{a:ah}{l:Slot}{f:St}{u:Option V}{H:Hp}(r:aY K F S (a++[l]) (f++[u]) H):aY K F (λj b=>S j b/\j<a.length) a f H:=by
 have len:a.length=f.length:=by have:=r.len;simpa using this
 refine⟨len,r.ex,λj pv q=>?_,λj p q=>?_,λj b z=>?_,λj k b i h=>r.dist j k b i.1 h.1⟩
 .have n:=(cW.mp q).1;obtain⟨v,g,d⟩:=r.val j pv (by grind);exact⟨v,by rw[jV (by rw[<-len];trivial)]at g;trivial,d⟩
 .have n:=(cW.mp q).1;obtain⟨v,g,d⟩:=r.own j p (by grind);refine⟨v,by rw[jV (by rw[<-len];trivial)]at g;trivial,?_⟩;simp_all
 .obtain⟨⟨p,q⟩,d⟩:=r.foot j b z.1;exact⟨⟨p,by rw[jV z.2]at q;exact q⟩,d⟩
noncomputable def Hg{d:Type}:R d->R d
 |.ok s a=>.ok s a.dropLast
 |.er c a=>.er c a.dropLast
 |.no=>.no
def sw(g:ad Slot)(B:ad (PO×List cu)):ad Slot:=λd=>(B d).bind λp a=>(aW (if(cU p.2).Nodup then gm (a++[.own p.1]) p.2 else ac) a).bind λf a=>Hg (iL (a++[.own p.1]) p.2 (g f))
theorem Fl{a:ah}(h:a.length=n+1):∃l x,a=l++[x]/\l.length=n:=by refine⟨a.dropLast,a.getLast (by grind),(List.dropLast_concat_getLast _).symm,by rw[List.length_dropLast,h];rfl⟩
theorem bI.pushed{K:aw}{h:Nat->ab->Prop}{d H l:Hp}{n:Nat}{f:ab->Prop}(g:bI (U λj b=>S j b\/(j=n/\f b)) (U h) F r H l){p:ab->Prop}{i:Nat->ab->Prop}(a:bI (U i) (U S) p F d H)(s:∀b,f b->d b=ac):bI (U i) (U λj b=>h j b/\j<n) p r d l where
 fro:=λb z=>g.fro b (a.fro b z)
 keep:=λb o q no=>g.keep b o (a.keep b o q no) λ⟨j,z⟩=>by
  rcases z with z|⟨_,z⟩
  .rcases a.onew b ⟨j,z⟩with w|w
   all_goals lia
  grind
 there:=λb o q=>let ⟨o',q'⟩:=a.there b o q;g.there b o' q'
 fnew:=λb z=>by
  rcases g.fnew b z with w|w|⟨j,w|⟨_,w⟩⟩
  .exact a.fnew b w
  .exact .inr (.inl (jv a w))
  .exact .inr ((a.onew b ⟨j,w⟩).symm)
  simp_all
 onew:=λb ⟨j,z,_⟩=>by
  rcases g.onew b ⟨j,z⟩with⟨k,w|⟨_,w⟩⟩|w
  .exact a.onew b ⟨k,w⟩
  .exact .inr (s b w)
  .exact .inr (jv a w)
theorem Jf(c:jk G X.prog X.w X.K X.mg X.base x k D (dO X.K g))(hr:Room k X.A)(hx:nH G X E)(ha:xQ X E (e::m) B)(hg:Gl X x^0)(hd:av x^1) (h1:(aV (e::m) X.env=(ai,aS e X.env)::aV m X.env)^0) (h2:((c8 A (aV m X.env)).any (·.1)=ai)^0):DR X E (.Call (.Name x p) (e::m) [] A) (sw g B):=λF S ε W H Q rl h=>by
 obtain⟨f,fd,hm,Fn,hb,hk⟩:=c.ex;refine bT (Gw Fn hr hg hm hk hb .nil hx eC hd h1 h2) (ha F S ε W H _ rl ?_);unfold sw at h;cases ed:B ε with
 |no=>rw[ed]at h;trivial
 |er cv d=>rw[ed]at h;exact h
 |ok pa d=>
  obtain⟨P,q⟩:=pa;rw[ed]at h;simp only[R.bind_ok]at h;intro F1 S1 H1 r1 g1 a Sa vs ow Z T;dsimp only at h T ow;have O:=r1.push ow λb z=>(Z b z).2;by_cases L:(cU q).Nodup
  .rw[if_pos L]at h;cases m:gm (d++[.own P]) q with
   |none=>rw[m]at h;trivial
   |some ss=>
    rw[m]at h;simp only[cA,R.bind_ok]at h;rw[jU];refine⟨F1,mB q _,ss,O.cal T m L,?_⟩;have len:∀n,(iu (d++[.own P]) q n).length=d.length+1:=λn=>by rw[xH];simp
    cases eg:g ss with
    |no=>rw[eg]at h;trivial
    |er cv n=>
     rw[eg]at h;intro y F' S' H' Y g';unfold iL at h;dsimp only at h;by_cases u:iR q n=ag
     .rw[if_pos u]at h;obtain⟨S2,J,g2,_⟩:=O.called T m L Y g' (λ_ z=>z) (oY u);obtain⟨l,sl,N,ll⟩:=Fl (len n);rw[N]at J;have h:Ok X.K E W F S H (R.er cv (iu (d++[.own P]) q n).dropLast:R Slot) _:=h;rw[N,List.dropLast_concat]at h;have M:=bI.pushed (K:=X.K) g2 g1 λb z=>(Z b z).1;rw[<-ll]at M;exact h y F' _ H' J.pop M
     .rw[if_neg u]at h;trivial
    |ok s n=>
     rw[eg]at h;intro v F' S' H' Sr Y g' rv r fr;unfold iL at h;dsimp only at h;by_cases u:iR q n=ag
     .rw[if_pos u]at h;obtain⟨S2,J,g2,u2⟩:=O.called T m L Y g' (λ_ z=>.inl z) (oY u);obtain⟨l,sl,N,ll⟩:=Fl (len n);rw[N]at J;have h:Ok X.K E W F S H (R.ok s (iu (d++[.own P]) q n).dropLast:R Slot) _:=h;rw[N,List.dropLast_concat]at h;have M:=bI.pushed (K:=X.K) g2 g1 λb z=>(Z b z).1;rw[<-ll]at M;refine h F' _ H' J.pop M v Sr rv λb z=>⟨jv g1 (fr b z),(r b z).1,λ⟨j,w,_⟩=>?_,(r b z).2.2⟩
      rcases u2 b ⟨j,w⟩with w|⟨i,w⟩
      .exact(r b z).2.1 w
      .obtain⟨_,_,o,y1,_⟩:=O.foot i b w
       grind
     .rw[if_neg u]at h;trivial
  .rw[if_neg L]at h;trivial
end
section
variable{X:Cx}{e b c:au}{de u d:ad PV}{g p:Pos}
def u5:List PV->Option PO
 |[.lst f]=>(dS f).bind λa=>if a≠[]/\(bP a).length<60 then aa (.lst (a6 (b_ (bP a))))else ac
 |_=>ac
def SG(X:Cx)(r:List V->Hp->VK->Prop):List V->Hp->VK->Prop:=λh H Q=>∃(p:ab) (f:List Tx),h=[.ref p]/\cg X.K H p (bz f)/\(bP f).length<4000/\∀a,H a=ac->r [.ref a] (upd H a (cY X a (bP f))) Q
def Oy(X:Cx):List V->Hp->VK->Prop:=λf H Q=>∃(p:ab) (a:List Tx),f=[.ref p]/\H p=aa (cY X p a)/\a≠[]/\a.length<64/\∀l,H l=ac->Q (.ref l) (upd H l (.lst (bz (b_ a))))
theorem OQ(h:l≠[]):bP l≠[]:=λz=>by
 cases l with
 |nil=>trivial
 |cons x r=>have:x∈bP (x::r):=(sL _ _).mpr (by simp);simp_all
theorem Nh:kc X.K (SG X (Oy X)) u5:=λF H L M Q O I s e q=>by
 unfold u5 at e;split at e
 .obtain⟨v,rfl,a,N,rfl,G,_,i⟩:=dH s;obtain⟨f,J,j⟩:=jZ.mp e;rw[jG J]at i;obtain⟨rfl,B⟩:=Ws.mp i;split at j
  .rename_i C;cases j;refine⟨a,f,rfl,.inl G,∅,λb D=>⟨b,bP f,rfl,upd_same,OQ C.1,∅,λl h=>?_⟩⟩;have r:l≠b:=by rintro rfl;rw[upd_same]at h;trivial
   have y:H l=ac:=by rw[aU r]at h;trivial
   have al:Al F F H (upd (upd H b (cY X b (bP f))) l (.lst (bz (b_ (bP f))))):=(Al.new0 D).trans (Al.new0 h);refine q l F _ (λc=>c=l) al ⟨⟨_,upd_same,Ws.mpr ⟨rfl,λx A=>B x ((sL _ _).mp ((nt _).mem_iff.mp A))⟩⟩,λc=>i5⟩ λc z=>?_;subst z;exact⟨y,λz=>rQ (I _ z) (λo w=>by lia),_,upd_same,trivial⟩
  trivial
 trivial
theorem Qt(a:X.calm=ag)(r:DA X E [e] n)(j:X.mg "sorted"=ac)(v:X.mg "set"=ac)(l:Gl X "sorted"^0)(i:Gl X "set"^0)(h:(jj e=ai)^0):DN X E (.Call (.Name "sorted" p) [.Call (.Name "set" q) [e] [] m] [] g) (dL u5 n):=λF S x w H Q f s=>bT (jQ (MO a) l j jL (fU (lO (uN a) i v oV eC (by decide) (by rfl) (dA h) rfl) gM (dA rfl)) (by decide) (by rfl) (dA rfl) rfl) (qE Nh r f s)
def yj(i j:Nat)(d:ad PV):ad aG:=λε=>(d ε).bind λx f=>match x with
 |.tup [a,b]=>.ok .next ((f.set i (.val a)).set j (.val b))
 |_=>.no
theorem Vp(i j:Nat)(hc:X.calm=ag)(s:X.N.Nodup)(he:DE X E e de)(hp:(i∉pin)^1)(fi:(j∉pin)^1)(hi:(X.N[i]?=aa x)^0)(hj:(X.N[j]?=aa y)^0)(W:Loc X.env.scope x^6) (T:Loc X.env.scope y^6)(hf:a3 X x^3) (Q:a3 X y^3)(Z:(swapsWithSole [.Tuple [.Name x r,.Name y l] k f] e g.line X.env=pure ai)^0) (Y:(swappedStores [.Tuple [.Name x r,.Name y l] k f] e X.env=pure ac)^0):DS X E pin (.Assign [.Tuple [.Name x r,.Name y l] k f] e g) (yj i j de):=λF S C A H D M h=>by
 refine eY (Hj bL (Cr hc (tq (nV s hi W hf) (tq (nV s hj T Q) Co))) Z Y rfl) (he F S C A H _ M (h.bindE.imp λz B F1 S1 H1 P g1 w v J=>?_));split at w
 .rename_i a b;obtain⟨p,us,rfl,fj,L⟩:=J;obtain⟨I,ra,rfl,O,G,rb,rfl,N,rfl⟩:=L;refine⟨p,_,rfl,cq.of fj,rfl,I,_,rfl,G,_,rfl,rfl,?_⟩;exact w F1 _ _ H1 ((P.set O).set N) ((bI.less i).trans (bI.less j)) ((ju.set hp).trans (ju.set fi))
 trivial
noncomputable def Pc(K:aw)(r:V->List V->Hp->VK->Prop)(i:TE)(t:TA):TE:=λf H Q=>i f H λx h=>(∃p a,x=.ref p/\h p=aa (.tup a))/\t f h λa j=>r x a j Q
theorem Mz{w:String}{B:TE}{t:TA}{j f:Pos}{es:List au}(l:PySem.Slot "tuple" i w)(Z:typeOf (.builtin w)=pure (.type "method_descriptor"))(hm:pf X w r)(ho:PE X o B)(ha:PA X (e::es) t)(i6:(ko o i X.env (aS o X.env)=aS o X.env)^0)(N:(((c8 f (aV (e::es) X.env)).all (λx=>!x.1)&&(rA f (rB [] X.env)).all (λx=>x.1.isSome)&&decide ((e::es).length+([]:List kq).length+(if([]:List kq).isEmpty then 0 else 1)<30))=ag)^0)(i7:((j.endLine == f.line)=ag)^0) (hs:(aV (e::es) X.env=(ai,aS e X.env)::aV es X.env)^0) (zP:((c8 f (aV es X.env)).any (·.1)=ai)^0):PE X (.Call (.Attribute o i j) (e::es) [] f) (Pc X.K r B t):=by
 intro A s y H Q I h;refine wpAny_Call_method_late i6 N i7 rfl (aP (ho A s y H _ I h) λv C h'=>?_);obtain⟨x,G,F,S,⟨p,J,rfl,hp⟩,W⟩:=h';cases S;obtain⟨_,its,_,⟨Y,e1,e2,_⟩,o2,e3,e4⟩:=(show bN X.prog X.w G C.heap p (.tup J)from F.hok p _ hp)
 refine⟨"tuple",w,PySem.F.plainAttrs_tuple,l,Z,⟨Y,e1,e2⟩,λa z=>?_,?_⟩
 .grind
 have D:=ha f A C y G _ F W;rw[hs]at D ⊢;refine DY (by trivial) (Ky ?_);exact aP D λM O h2=>by obtain⟨L,H2,I2,P,T⟩:=h2;exact hm A O y H2 (.ref p) L (.ref p) M Q I2 rfl P T
def Gh(f:List PV->PV->Option PV)(d de:ad PV):ad PV:=λi=>(d i).bind λx h=>match x with
 |.tup j=>(de h).bind λk a=>aW (f j k) a
 |_=>.no
end
def kJ:List Tx->Tx
 |[]=>[]
 |x::r=>r.foldl (λb y=>if y<b then y else b) x
theorem My(l:List Tx)(y:Tx)(h:l≠[]):kJ (l++[y])=if y<kJ l then y else kJ l:=by
 cases l with
 |nil=>lia
 |cons x r=>show(r++[y]).foldl _ x=_;rw[v_];rfl
theorem Fg(a:Nat->Nat->Bool):∀k,jC a k<=k
 |0=>a_ _
 |k+1=>by
  unfold jC;split
  .simp
  .exact Nat.le_succ_of_le (Fg a k)
theorem EY(a:List Tx):∀k,k<a.length->a[jC (λi j=>decide (a.getD i []<a.getD j [])) k]?=aa (kJ (a.take (k+1)))
 |0,h=>by
  cases a with
  |nil=>cases h
  |cons x r=>rfl
 |k+1,h=>by
  have b:=EY a k ∅;have e:a.take (k+1+1)=a.take (k+1)++[a[k+1]]:=by simp
  have g:=Fg (λi j=>decide (a.getD i []<a.getD j [])) k;rw[e,My _ _ (by intro z;simp_all)];unfold jC;have f:a.getD (k+1) []=a[k+1]:=by simp[List.getD,h]
  have d:a.getD (jC (λi j=>decide (a.getD i []<a.getD j [])) k) []=kJ (a.take (k+1)):=by rw[KZ,b];rfl
  rw[f,d];by_cases c:a[k+1]<kJ (a.take (k+1))
  .rw[if_pos (~~~c),if_pos c];simp
  .rw[if_neg (~~~c),if_neg c];trivial
section
variable{X:Cx}
theorem Av(r:bE (bz b) a){i:Nat}(h:a.toArray[i]?=aa v):∃t,v=.str (tS (b.getD i [])) t:=by
 have d:=r.length;rw[qR]at d;have f:i<a.length:=by have:=(tO.mp h).1;trivial
 have e:(bz b)[i]?=aa (tV (b.getD i [])):=by unfold bz;rw[cT,eh ⋯];simp[List.getD,eh (show i<b.length by simp_all)]
 obtain⟨u,c,g⟩:=r.get e;have:a[i]?=aa v:= ~~~h
 rw[this]at c;cases c;trivial
theorem Np(n:X.calm=ag):c_ X (.builtin "min") (λw H Q=>∃(p:ab) (a:List Tx),w=[.ref p]/\cg X.K H p (bz a)/\a≠[]/\Q (tV (kJ a)) H):=by
 intro P s B H w Y Q I r h;obtain⟨p,a,rfl,J,b7,q⟩:=h;obtain⟨u,rfl,D⟩:=vals1 r;cases D;obtain⟨d,l,m,hz⟩:=I.list J;have y:=l.length;rw[qR]at y;have hn:0<a.length:=by grind
 refine call_min_walk (zo m.isList ?_);have g:p≠s.heap.objs.size:=by obtain⟨o,f,_⟩:=m.isList;exact cr (bu f)
 refine⟨s.heap.objs.size,_,_,_,_,_,λi j=>decide (a.getD i []<a.getD j []),rfl,zp (np (I.ok.hd n)) s.heap.objs.size p g d.toArray,⟨⟨_,bU _ rfl,rfl,rfl⟩,?_⟩,?_,⋯,λi j W T Z Q' E' N M hQ=>?_,λv h' C G k=>?_⟩
 .obtain⟨o,f,n,O⟩:=m.isList;exact⟨o,bi _ f,n,O⟩
 .intro b A;obtain⟨o,f,_⟩:=m.isList;have pR:p<s.heap.objs.size:=bu f;have sz:∀o:Obj,(s.heap.push o).objs.size=s.heap.objs.size+1:=λo=>by simp
  grind
 .obtain⟨t,rfl⟩:=Av l N;obtain⟨t',rfl⟩:=Av l M;refine lt_str ?_;trivial
 .obtain⟨t,rfl⟩:=Av l G;have e:a.getD (jC (λi j=>decide (a.getD i []<a.getD j [])) (d.toArray.size-1)) []=kJ a:=by rw[eJ,<-y,KZ,EY a _ ∅,show a.length-1+1=a.length by lia,Ee];rfl
  rw[e];have S:Inv X P B H {s with heap:=s.heap.push {cls:=.type "list_iterator",data:=.fields #[.ref p,.int 0 0]},toks:=s.toks}:=I.kept (t':=s.toks) λb o e=>bi _ e;exact⟨tV (kJ a),H,Inv.turned (t':=C) S (it:=s.heap.objs.size) (λb o A e=>k b o (~~~A) e) I.fresh (ln I.lt) (.inr I.sz) (λx c e z=>by obtain⟨v,E⟩:=I.cell x c e;exact absurd E.lt (by rw[z];simp)) (λF L z=>absurd (bu (I.pin F L).1) (by rw[z];simp)),⟨t,rfl⟩,q⟩
def A2:List PV->Option PV
 |[.lst b]=>(dS b).bind λa=>if a≠[] then aa (.str (kJ a))else ac
 |_=>ac
theorem Ua:∀{a:List Tx},a≠[]->kJ a∈a:=by
 have c:∀(r:List Tx) (x:Tx),r.foldl (λb y=>if y<b then y else b) x∈x::r:=by
  intro r
  induction r with
  |nil=>simp
  |cons y r d=>grind
 intro a h;cases a with
 |nil=>lia
 |cons x r=>exact c r x
theorem Q9{K:aw}:PL K (λc H Q=>∃(p:ab) (b:List Tx),c=[.ref p]/\cg K H p (bz b)/\b≠[]/\Q (tV (kJ b)) H) A2:=λF H c m Q pv h e q=>by
 unfold A2 at e;split at e
 .obtain⟨v,rfl,a,n,rfl,j,_,d⟩:=dH h;obtain⟨b,l,g⟩:=jZ.mp e;rw[jG l]at d;obtain⟨rfl,i⟩:=Ws.mp d;split at g
  .rename_i f;cases g;exact⟨a,b,rfl,.inl j,f,q _ F H (Al.refl ..) ⟨rfl,i _ (Ua f)⟩⟩
  trivial
 trivial
theorem zW:dX "min"=aa (.builtin "min"):=by decide +kernel
theorem uJ:∀(a:List af) (ss:List Str),a.length=ss.length->(∀(i:Nat) v x,a[i]?=aa v->ss[i]?=aa x->∃t,v=.str x t)->bR a ss
 |[],[],_,_=>.nil
 |v::a,x::ss,b,h=>by obtain⟨t,rfl⟩:=h 0 v x rfl rfl;exact .cons x t (uJ a ss (Ec b) λi v x d c=>h (i+1) v x (by trivial) (by trivial))
 |[],_::_,b,_=>by trivial
 |_::_,[],b,_=>by trivial
theorem VI(T:X.calm=ag):c_ X (.builtin "sorted") (λn H Q=>∃(d:ab) (kvs:List (aF×V)) (a:List Tx),n=[.ref d]/\H d=aa (.dK kvs)/\kvs.map (·.1)=a.map (λx=>Sum.inr (tS x))/\a.length<64/\∀l,H l=ac->Q (.ref l) (upd H l (.lst (bz (b_ a))))):=by
 intro ae s E H n us Q I r h;obtain⟨d,kvs,a,rfl,S,p,N,q⟩:=h;obtain⟨u,rfl,F⟩:=vals1 r;cases F;obtain⟨z,O,o,b,dd⟩:=vk I.hok S;obtain⟨ep,L⟩:=dd.dictAt;have C:o.length=a.length:=by have w:=congrArg n4 p;simp only[cy]at w;rw[<-b.length];trivial
 refine Bj (PySem.W.kdu_collect (PySem.W.kdl_dict (knd:=gB X.prog X.w) (kvs:=o) (ep:=ep) O) (np (I.ok.hd T)) L (by rw[<-b.length];exact z) λA g aL k j=>?_);have c:bR aL.toList (a.map tS):=by
  refine uJ _ _ (by rw[cy,iF,j.1,C]) λi v x w f=>?_;obtain⟨J,y,Z,Y⟩:=j.2 i v (by rw[<-wb];trivial);obtain⟨wv,W,_⟩:=KV.at b Z;have m:(kvs.map (·.1))[i]?=aa J:=by rw[cT,W];rfl
  rw[p,cT]at m;rw[cT]at f;cases B:a[i]? with
  |none=>rw[B]at f;trivial
  |some l=>
   rw[B]at m f;cases m;cases f;exact Value.isStrOf_shape Y
 have D:Inv X ae E H {s with heap:=A,toks:=g}:=I.kept (t':=g) k;refine⟨a.map tS,c,by rw[iF,j.1,C];trivial,λf G aO e M P b1 b2 b3=>?_⟩;exact⟨.ref _,_,Inv.sorted (s1:={s with heap:=A,toks:=g}) (ss:=a.map tS) D rfl N M P b1 b2 b3,rfl,q _ D.fresh⟩
def vn:List (aF×PV)->Option (List Tx)
 |[]=>aa []
 | (.inr k,_)::r=>(vn r).map (k.cps.toList::·)
 |_=>ac
theorem IP:∀{a:List (aF×PV)}{b:List Tx},vn a=aa b->a.map (·.1)=b.map (λx=>Sum.inr (tS x))
 |[],b,h=>by cases h;rfl
 | (.inr k,_)::r,b,h=>by simp only[vn,gU]at h;obtain⟨l,c,rfl⟩:=h;rw[cN,cN,IP c,sO]
 | (.inl _,_)::_,_,h=>by cases h
def G8(b:List (aF×PV)):Option PO:=(vn b).bind λa=>if a.length<64/\(∀x∈a,x.length<=ck)then aa (.lst (a6 (b_ a)))else ac
def yR(i:Nat):ad PO:=λa=>(aW (dW a i) a).bind λb a=>aW (G8 b) a
theorem gQ.keys{K:aw}{a:List (aF×PV)}{b:List (aF×V)}(h:gQ K H F a b):b.map (·.1)=a.map (·.1):=by
 unfold gQ at h
 induction h with
 |nil=>rfl
 |cons r _ c=>simp_all
theorem Hy{E:XK}(i:Nat){p f:Pos}(J:X.calm=ag)(C:X.mg "sorted"=ac)(M:(X.N[i]?=aa y)^0)(O:cO X.env.scope y^2)(I:av y^1) (P:a4 y^1) (G:Gl X "sorted"^0):DN X E (.Call (.Name "sorted" p) [.Name y v] [] f) (yR i):=λF S u T H Q d h=>by
 unfold yR at h;cases n:dW u i with
 |none=>rw[n]at h;exact h.elim
 |some g=>
  rw[n]at h;simp only[cA,R.bind_ok]at h;obtain⟨a,A,N,L,D,W,_⟩:=d.dkAt (lc n);unfold G8 at h;cases m:vn g with
  |none=>rw[m]at h;exact h.elim
  |some q=>
   rw[m,iZ]at h;split at h
   .rename_i s;refine bT (jQ (VI J) G C jL (fU (dR M O I P) gM (dA rfl)) (by decide) (by rfl) (dA rfl) rfl) ⟨.ref a,N,a,A,q,rfl,L,by rw[D.keys];exact IP m,s.1,λl r=>?_⟩;have al:Al F F H (L2.upd H l (.lst (bz (b_ q)))):=Al.new0 r;refine h F S _ (d.al al) al.grow l (λc=>c=l) ⟨⟨_,upd_same,Ws.mpr ⟨rfl,λx B=>s.2 x ((nt _).mem_iff.mp B)⟩⟩,λc=>i5⟩ λb z=>?_;subst z;exact⟨r,λz=>rQ (d.ex _ z) (λo w=>by lia),λ⟨j,z⟩=>rQ (d.foot j b z).2.2 (λo w=>by lia),_,upd_same,trivial⟩
   .exact h.elim
end
end Pu
namespace L2
inductive FO{ζ:Type}(st t:d7)(c:Option ζ×Nat×Nat)(P:Nat->Nat->Prop):Prop
 |mk (e:t=st) (l o:Nat) (f:c=(ac,l,o)) (p:P l o)
noncomputable def kO(κ:KeyKind)(p:Keyed):κ.α:=(κ.keyOf p.1).getD κ.dflt
noncomputable def xC(b:KeyKind)(p:Keyed):Prop:=∃a,b.keyOf p.1=aa a
theorem xC.k(h:xC κ p):κ.keyOf p.1=aa (kO κ p):=by obtain⟨a,e⟩:=h;unfold kO;rw[e];rfl
noncomputable def lQ(κ:KeyKind)(kz:il)(c:aM)(w:aD)(A:aZ)(s:ak):Prop :=
 ∀(E:af->ak->Prop) (x y:af) (a b:κ.α) {Q:Bool->ak->Prop},κ.keyOf x=aa a->κ.keyOf y=aa b->Q (κ.blt a b) s->ao (ar c w) A (keyLt' kz x y) Q E s
theorem OneLt.ok{κ:KeyKind}(f:κ.OneLt):lQ κ oneType' prog w A s:=λE x y a b _ d c h=>by rw[keyLt'_oneType];exact f prog w A E s x y a b d c h
structure SB(kz:il)(st:d7):Prop where
 kind:kindOf st=kz
 failed:failedOf st=ac
section
variable{b:KeyKind}
theorem VD(j:lQ b c a w A s){d:d7}{Q:Option Bool->d7->Prop}(i:SB c d)(g:xC b x)(f:xC b y)(h:Q (aa (b.blt (kO b x) (kO b y))) d):wpS (ar a w) A E s (lt' x y) Q d:=by rw[lt'_eq];refine dy (wpS_get ?_);rw[i.kind];exact dy (wpS_lift (D8 (j _ x.1 y.1 _ _ g.k f.k ⟨rfl,gu h⟩)))
theorem Gi{f:d7}{d:Array Keyed}(g:i<d.size)(h:Q d[i] f):wpS (ar a w) A E s (elem' d i) Q f:=by rw[elem'_eq,getElem?_pos d i g];exact gu h
end
section
variable{c:KeyKind}{f:il}
def U1(c:KeyKind)(x y:Keyed):Prop:=c.kle (kO c x) (kO c y)
end
section
theorem yb{c:Prop}[Decidable c]{t e:StateT d Sem g}{Q:g->d->Prop}{f:d}(i:c->wpS M A E s t Q f)(h:¬c->wpS M A E s e Q f):wpS M A E s (if c then t else e) Q f:=by
 split
 .exact i ‹_›
 .exact h ‹_›
end
section
variable{d:KeyKind}{h:il}
theorem Qr(a:Array Keyed)(n:Nat):(a.extract 0 n).toList=a.toList.take n:=by simp
end
section
variable{κ:KeyKind}{kz:il}
def Run(κ:KeyKind)(a:Array Keyed)(b n:Nat):Prop:=∀i j x y,b<=i->i<=j->j<b+n->a[i]?=aa x->a[j]?=aa y->U1 κ x y
structure Wr(a a':Array Keyed)(lo n:Nat):Prop where
 perm:a'.toList.Perm a.toList
 size:a'.size=a.size
 out:∀k,k<lo\/lo+n<=k->a'[k]?=a[k]?
end
section
theorem Wr.same{lo:Nat}:Wr a a lo n:=⟨mP _,rfl,λ_ _=>rfl⟩
end
section
variable{κ:KeyKind}{kz:il}
theorem A6(h:a[i]?=aa x):KK κ a i=kO κ x:=by unfold KK kO;rw[h]
theorem sU{a:Array Keyed}(h:i<a.size):KK κ a i=kO κ a[i]:=A6 (getElem?_pos _ _ _)
noncomputable def js(κ:KeyKind)(a:Array Keyed)(lo n:Nat):Prop:=∀i j,lo<=i->i<=j->j<lo+n->κ.kle (KK κ a i) (KK κ a j)
noncomputable def oN(κ:KeyKind)(a:Array Keyed)(lo n:Nat):Prop:=∀i j,lo<=i->i<=j->j<lo+n->κ.kle (KK κ a j) (KK κ a i)
theorem js.run{b:Nat}(h:js κ a b n):Run κ a b n:=by intro i j x y l g f d c;have:=h i j l g f;rw[A6 d,A6 c]at this;trivial
theorem Wr.trans{d:Nat}(g:Wr a b d n)(f:Wr b c d n):Wr a c d n :=⟨f.perm.trans g.perm,f.size.trans g.size,λk h=>(f.out k h).trans (g.out k h)⟩
theorem Wr.mono{d f:Nat}(h:Wr a b d n)(j:c<=d)(i:d+n<=c+f):Wr a b c f :=⟨h.perm,h.size,λk g=>h.out k ∅⟩
theorem L4{a:Array Keyed}(b:j<=a.size)(c:i<=j):Wr a (mirror a i j ((j-i) / 2)) i (j-i) :=⟨Ef.mp (mirror_perm _ _ _ _),mirror_size _ _ _ _,λk d=>by rw[getElem?_mirror_all b,if_neg ∅]⟩
theorem QI{a:Array Keyed}(c:b<a.size)(f:d<=b):Wr a (bubble a b d) (b-d) (d+1) :=⟨Ef.mp (bubble_perm _ _ _),bubble_size _ _ _,λk g=>by rw[getElem?_bubble c d f,if_neg ∅,if_neg ∅]⟩
def AllK(κ:KeyKind)(a:Array Keyed):Prop:=∀i (b:i<a.size),xC κ a[i]
theorem AllK.of{b:Array Keyed}(h:AllK κ a)(p:b.toList.Perm a.toList):AllK κ b:=by intro i f;have c:b[i]∈a.toList:=p.mem_iff.mp (by simp);obtain⟨j,d,e⟩:=tX c;rw[<-e];simpa using h j (by trivial)
end
section
theorem sC(m:lQ κ f d w A s){a:d7}(l:SB f a)(g:AllK κ (arrOf a)){Q:Option Bool->d7->Prop}(c:i<(arrOf a).size)(b:j<(arrOf a).size)(h:Q (aa (κ.blt (KK κ (arrOf a) i) (KK κ (arrOf a) j))) a):wpS (ar d w) A E s (ltAt' i j) Q a:=by rw[sU c,sU b]at h;rw[ltAt'_eq];refine dy (wpS_get ?_);exact dy (Gi c (dy (Gi b (VD m l (g i c) (g j b) h))))
theorem yc{b a:d7}{lo n i j:Nat}{Q:Unit->d7->Prop}(l:SB f a)(p:dj a=dj b)(g:Wr (arrOf b) (arrOf a) lo n)(o:i<=j)(r:j<=(arrOf b).size)(q:lo<=i)(u:j<=lo+n)(h:∀c,SB f c->dj c=dj b->Wr (arrOf b) (arrOf c) lo n->(∀k,KK κ (arrOf c) k=if i<=k/\k<j then KK κ (arrOf a) (i+j-1-k)else KK κ (arrOf a) k)->Q () c):wpS (ar d w) A E s (reverseSlice' i j) Q a:=by
 have m:j<=(arrOf a).size:=by rw[g.size];trivial
 exact wpS_reverse (h _ ⟨l.kind,l.failed⟩ p (g.trans ((L4 m o).mono q ⋯)) λk=>KK_mirror m k)
theorem Ke[Decidable c]{i:StateT d7 Sem h}{Q:h->d7->Prop}{g:d7}{J:d7->Prop}(l:¬c->J g)(a:∀b,J b->wpS (ar d w) A E s i Q b)(m:c->(∀b,J b->wpS (ar d w) A E s i Q b)->wpS (ar d w) A E s j Q g):wpS (ar d w) A E s (if c then j else i) Q g :=yb (λe=>m e a) λe=>a g (l e)
theorem HU{lo:Nat}(b:js κ a lo x)(h:1<=x)(e:κ.kle (KK κ a (lo+x-1)) (KK κ a (lo+x))):js κ a lo (x+1):=λi j c n o=>by
 by_cases g:j<lo+x
 .exact b i j c n g
 .have m:j=lo+x:=∅
  subst m;by_cases l:i=lo+x
  .subst l;exact pJ _
  .exact tY (b i (lo+x-1) c ∅ ∅) e
theorem Fh{lo:Nat}(b:oN κ a lo x)(h:1<=x)(e:κ.kle (KK κ a (lo+x)) (KK κ a (lo+x-1))):oN κ a lo (x+1):=λi j c n o=>by
 by_cases g:j<lo+x
 .exact b i j c n g
 .have m:j=lo+x:=∅
  subst m;by_cases l:i=lo+x
  .subst l;exact pJ _
  .exact tY e (b i (lo+x-1) c ∅ ∅)
theorem PR{lo:Nat}(c:∀i,lo+x-(b+1)<=i->i<lo+x->KK κ a i=KK κ a (lo+x-1))(g:KK κ a (lo+x)=KK κ a (lo+x-1)):∀i,lo+(x+1)-(b+1+1)<=i->i<lo+(x+1)->KK κ a i=KK κ a (lo+(x+1)-1):=λi j h=>by
 grind
theorem Ga(c:∀k,KK κ b k=if i<=k/\k<j then KK κ a (i+j-1-k)else KK κ a k)(g:∀k,i<=k->k<j->KK κ a k=KK κ a n):∀k,KK κ b k=KK κ a k:=λk=>by
 grind
theorem Nl(Z:lQ κ f d w A s){p:d7}(P:SB f p)(hA:AllK κ (arrOf p)){lo g:Nat}(h1:1<=g)(hsz:lo+g<=(arrOf p).size){Q:Option Nat->d7->Prop}(h:∀n b,SB f b->dj b=dj p->Wr (arrOf p) (arrOf b) lo g->1<=n->n<=g->js κ (arrOf b) lo n->Q (aa n) b):wpS (ar d w) A E s (countRun' lo g) Q p:=by
 have one:js κ (arrOf p) lo 1:=λi j o y H=>by
  have:i=j:=∅
  subst this;exact pJ _
 have go:∀{B:d7},Wr (arrOf p) (arrOf B) lo g->(arrOf B).size=(arrOf p).size:=λw=>w.size;unfold countRun';refine dy (tZ (t4 (I:=λx c r=>r=p/\c=(ac,x)/\js κ (arrOf p) lo x) (Q:=λc r=>r=p/\∃n,c=(ac,n)/\1<=n/\n<=g/\js κ (arrOf p) lo n/\(n=g\/κ.klt (KK κ (arrOf p) (lo+n)) (KK κ (arrOf p) (lo+n-1)))) ?_ ?_ ?_) ?_)
 .rintro x c r pW pX ⟨rfl,rfl,C⟩;dsimp only;refine dy (sC Z P hA ∅ ∅ ?_);cases e:κ.blt (KK κ (arrOf r) (lo+x)) (KK κ (arrOf r) (lo+x-1))with
  |true=>exact gu ⟨rfl,x,rfl,nofun,∅,C,.inr e⟩
  |false=>exact gu ⟨rfl,rfl,HU C ⋯ e⟩
 .simp_all
 .trivial
 rintro c b ⟨rfl,n,rfl,n1,n2,C,hn⟩;dsimp only;refine yb (λe1=>gu (h n b P rfl Wr.same n1 n2 C)) λe1=>?_;have e1':n≠g:= ~~~e1
 replace hn:κ.klt (KK κ (arrOf b) (lo+n)) (KK κ (arrOf b) (lo+n-1)):=hn.resolve_left e1';refine Ke (J:=λF=>SB f F/\dj F=dj b/\Wr (arrOf b) (arrOf F) lo g/\oN κ (arrOf F) lo (n+1)) (λen=>⟨P,rfl,Wr.same,λi j o y H=>?_⟩) (λF ⟨dG,fi,pY,hD⟩=>?_) λen M=>?_
 .have en':n=1:=∅
  by_cases hi:i=j
  .subst hi;exact pJ _
  .have e1:i=lo+n-1:=∅
   have e2:j=lo+n:=∅
   rw[e1,e2];exact Eg hn
 .refine dy (wpS_lift (lu ⟨rfl,?_⟩));refine dy (tZ (t4 (I:=λx c l=>∃a,c=(ac,x,a)/\SB f l/\dj l=dj b/\Wr (arrOf b) (arrOf l) lo g/\oN κ (arrOf l) lo x/\a+1<=x/\(∀i,lo+x-(a+1)<=i->i<lo+x->KK κ (arrOf l) i=KK κ (arrOf l) (lo+x-1))) (Q:=λc l=>∃m a,c=(ac,m,a)/\SB f l/\dj l=dj b/\Wr (arrOf b) (arrOf l) lo g/\1<=m/\m<=g/\oN κ (arrOf l) lo m/\a+1<=m/\(∀i,lo+m-(a+1)<=i->i<lo+m->KK κ (arrOf l) i=KK κ (arrOf l) (lo+m-1))) ?_ ?_ ?_) ?_)
  .rintro x c l pW pX ⟨a,rfl,v,z,u,D,O,G⟩;have sz3:=u.size;dsimp only;refine dy (sC Z v (hA.of u.perm) ∅ ∅ ?_);cases e3:κ.blt (KK κ (arrOf l) (lo+x)) (KK κ (arrOf l) (lo+x-1))with
   |true=>
    have j0:oN κ (arrOf l) lo (x+1):=Fh D ∅ (Eg e3);dsimp only;rw[if_pos rfl];refine yb (λLx=>?_) λLx=>?_
    .refine dy (yc (κ:=κ) (lo:=lo) (n:=g) v z u (by simp) ∅ ∅ ∅ λL X W T ES=>?_);have S:=Ga ES G;exact gu ⟨0,rfl,X,W,T,λi j o y H=>by rw[S,S];exact j0 i j o y H,∅,λi o y=>by congr 1;lia⟩
    .exact gu ⟨0,rfl,v,z,u,j0,∅,λi o y=>by congr 1;lia⟩
   |false=>
    dsimp only;rw[if_neg (by simp)];refine dy (sC Z v (hA.of u.perm) ∅ ∅ ?_);cases e4:κ.blt (KK κ (arrOf l) (lo+x-1)) (KK κ (arrOf l) (lo+x))with
    |true=>exact gu ⟨x,a,rfl,v,z,u,∅,∅,D,O,G⟩
    |false=>have ex:KK κ (arrOf l) (lo+x)=KK κ (arrOf l) (lo+x-1):=KeyOrd.kle_antisymm e4 e3;exact gu ⟨a+1,rfl,v,z,u,Fh D ∅ (by trivial),∅,PR G ex⟩
  .rintro c l ⟨a,rfl,v,z,u,D,O,G⟩;rw[show max (n+1) g=g by lia]at D O G ⊢;exact⟨g,a,rfl,v,z,u,nofun,by simp,D,O,G⟩
  .grind
  rintro c l ⟨m,a,rfl,v,z,u,m1,m2,D,O,G⟩;dsimp only;refine Ke (J:=λL=>SB f L/\dj L=dj b/\Wr (arrOf b) (arrOf L) lo g/\oN κ (arrOf L) lo m) (λ_=>⟨v,z,u,D⟩) (λL ⟨X,W,T,hd4⟩=>?_) λLx M=>?_;rotate_left
  .refine dy (yc (κ:=κ) (lo:=lo) (n:=g) v z u (by simp) ∅ ∅ ⋯ λL X W T ES=>?_);have S:=Ga ES G;exact M _ ⟨X,W,T,λi j o y H=>by rw[S,S];exact D i j o y H⟩
  clear v z u D O G;refine dy (yc (κ:=κ) (lo:=lo) (n:=g) X W T (by simp) ∅ (by simp) ⋯ λB Y hp5 N Ly=>?_);have hr5:js κ (arrOf B) lo m:=λi j o y H=>by rw[Ly,Ly,if_pos ⟨o,∅⟩,if_pos ⟨∅,H⟩];exact hd4 _ _ nofun nofun nofun
  have sz5:=N.size;refine dy (tZ (t4 (I:=λx c r=>r=B/\c=(ac,x)/\js κ (arrOf B) lo x) (Q:=λc r=>r=B/\∃n,c=(ac,n)/\1<=n/\n<=g/\js κ (arrOf B) lo n/\(n=g\/κ.klt (KK κ (arrOf B) (lo+n)) (KK κ (arrOf B) (lo+n-1)))) ?_ ?_ ?_) ?_)
  .rintro x c r pW pX ⟨rfl,rfl,C⟩;dsimp only;refine dy (sC Z Y (hA.of N.perm) ∅ ∅ ?_);cases e:κ.blt (KK κ (arrOf r) (lo+x)) (KK κ (arrOf r) (lo+x-1))with
   |true=>exact gu ⟨rfl,x,rfl,∅,∅,C,.inr e⟩
   |false=>exact gu ⟨rfl,rfl,HU C ∅ e⟩
  .simp_all
  .trivial
  rintro c r ⟨rfl,q,rfl,q1,q2,hrq,_⟩;exact gu (h q r Y hp5 N q1 q2 hrq)
 .refine dy (sC Z P hA nofun nofun ?_);cases e2:κ.blt (KK κ (arrOf b) lo) (KK κ (arrOf b) (lo+n-1))with
  |true=>exact gu (h n b P rfl Wr.same n1 n2 C)
  |false=>
   dsimp only;rw[if_neg (by simp)];have i8:∀i,lo<=i->i<lo+n->KK κ (arrOf b) i=KK κ (arrOf b) lo:=λi o y=>KeyOrd.kle_antisymm (tY (C i (lo+n-1) o nofun nofun) e2) (C lo i (a_ _) o y);refine dy (yc (κ:=κ) (lo:=lo) (n:=g) P rfl Wr.same (by simp) nofun (by simp) nofun λF dG fi pY pV=>?_);have hD:oN κ (arrOf F) lo (n+1):=by
    have hv:∀i,lo<=i->i<lo+n->KK κ (arrOf F) i=KK κ (arrOf b) lo:=λi o y=>by
     grind
    have hl:κ.klt (KK κ (arrOf F) (lo+n)) (KK κ (arrOf b) lo):=by
     grind
    intro i j o y H;by_cases hj:j<lo+n
    .rw[hv i o ∅,hv j ∅ hj];exact pJ _
    .have gw:j=lo+n:=∅
     subst gw;by_cases hi:i=lo+n
     .subst hi;exact pJ _
     .rw[hv i o ∅];exact Eg hl
   exact M F ⟨dG,fi,pY,hD⟩
theorem R8{c:d7}{lo n a b:Nat}{Q:Unit->d7->Prop}(l:SB f c)(o:dj c=dj g)(j:Wr (arrOf g) (arrOf c) lo n)(p:b<=a)(q:a<(arrOf g).size)(u:lo<=b)(r:a<lo+n)(h:∀i,SB f i->dj i=dj g->Wr (arrOf g) (arrOf i) lo n->(∀k,KK κ (arrOf i) k=if k=b then KK κ (arrOf c) a else if b<k/\k<=a then KK κ (arrOf c) (k-1)else KK κ (arrOf c) k)->Q () i):wpS (ar d w) A E s (moveDown' a b) Q c:=by
 have m:a<(arrOf c).size:=by rw[j.size];trivial
 rw[moveDown'_eq];refine wpS_modify (h _ ⟨l.kind,l.failed⟩ o (j.trans ((QI m (show a-b<=a by simp)).mono ∅ ∅)) λk=>?_);have:=KK_bubble (κ:=κ) m (show a-b<=a by simp) k;rw[show a-(a-b)=b by lia]at this;trivial
theorem Mh(S:lQ κ f d w A s){b:d7}(P:SB f b)(T:AllK κ (arrOf b)){lo n ok:Nat}(O:ok<=n)(M:lo+n<=(arrOf b).size)(N:js κ (arrOf b) lo ok){Q:Bool->d7->Prop}(h:∀u,SB f u->dj u=dj b->Wr (arrOf b) (arrOf u) lo n->js κ (arrOf u) lo n->Q ag u):wpS (ar d w) A E s (binarySort' lo n ok) Q b:=by
 unfold binarySort';refine dy (tZ (t4 (I:=λk c a=>c=(ac,())/\SB f a/\dj a=dj b/\Wr (arrOf b) (arrOf a) lo n/\js κ (arrOf a) lo (min k n)) (Q:=λc a=>c=(ac,())/\SB f a/\dj a=dj b/\Wr (arrOf b) (arrOf a) lo n/\js κ (arrOf a) lo n) ?_ ?_ ?_) ?_)
 .rintro k c a kF dG ⟨rfl,v,z,q,m⟩;have sz:=q.size;rw[show min k n=k by lia]at m;refine dy (tZ (t4 (I:=λx c g=>FO a g c λl r=>l<=r/\r<=k/\r-l<=k-x /\ (∀i,i<l->κ.kle (KK κ (arrOf a) (lo+i)) (KK κ (arrOf a) (lo+k)))/\(∀i,r<=i->i<k->κ.klt (KK κ (arrOf a) (lo+k)) (KK κ (arrOf a) (lo+i)))) (Q:=λc g=>FO a g c λl r=>l<=k /\ (∀i,i<l->κ.kle (KK κ (arrOf a) (lo+i)) (KK κ (arrOf a) (lo+k)))/\(∀i,l<=i->i<k->κ.klt (KK κ (arrOf a) (lo+k)) (KK κ (arrOf a) (lo+i)))) ?_ ?_ ?_) ?_)
  .rintro x c g _ hx ⟨rfl,l,r,rfl,Z,y,Y,p,o⟩;dsimp only;refine yb (λH=>?_) λH=>?_
   .have:l=r:=∅
    subst this;exact gu ⟨rfl,l,l,rfl,y,p,o⟩
   .refine dy (sC S v (T.of q.perm) ∅ ∅ ?_);cases e:κ.blt (KK κ (arrOf g) (lo+k)) (KK κ (arrOf g) (lo+(l+r) / 2))with
    |true=>exact gu ⟨rfl,l,(l+r) / 2,rfl,∅,∅,nofun,p,λi C W=>KeyOrd.klt_of_klt_of_kle e (m _ _ (by simp) ⋯ ⋯)⟩
    |false=>exact gu ⟨rfl,(l+r) / 2+1,r,rfl,∅,nofun,nofun,λi C=>tY (m (lo+i) (lo+(l+r) / 2) (by simp) ∅ ∅) e,o⟩
  .rintro c g ⟨rfl,l,r,rfl,Z,y,Y,p,o⟩;have:l=r:=∅
   subst this;exact⟨rfl,l,l,rfl,y,p,o⟩
  .exact⟨rfl,0,k,rfl,by simp,by simp,∅,λi hi=>∅,λi C W=>∅⟩
  .rintro c g ⟨rfl,l,r,rfl,y,p,o⟩;dsimp only;refine dy (R8 (κ:=κ) (lo:=lo) (n:=n) v z q ⋯ ∅ (by simp) ⋯ λdz B J L D=>gu ⟨rfl,B,J,L,?_⟩);rw[show min (k+1) n=k+1 by lia];intro i j G F X;rw[D,D]
   repeat' split
   all_goals first
    | (exfalso;lia)
    |exact pJ _
    | (have:=p (i-lo) ∅;rw[show lo+(i-lo)=i by lia]at this;exact this)
    | (have:=o (j-1-lo) ∅ ∅;rw[show lo+(j-1-lo)=j-1 by lia]at this;exact Eg this)
    |exact m _ _ ∅ ∅ ∅
 .lia
 .refine⟨rfl,P,rfl,Wr.same,λi j G F X=>?_⟩;by_cases C:ok=0
  .have:i=j:=∅
   subst this;exact pJ _
  .exact N i j G F ∅
 .rintro c a ⟨rfl,v,z,q,m⟩;exact gu (h a v z q m)
end
section
variable{a:aM}{w:aD}{A:aZ}{E:af->ak->Prop}{s:ak}{κ:KeyKind}{kz:il}
noncomputable def Jn(κ:KeyKind)(kz:il)(c b:d7):Prop:=SB kz b/\(arrOf b).toList.Perm (arrOf c).toList/\(dj b).size<=1/\Run κ (arrOf b) 0 (arrOf c).size
theorem Jn.mk'{st b:d7}{n:Nat}(h:0+n=(arrOf st).size)(k:SB kz b)(g:dj st=#[])(f:dj b=dj st)(c:Wr (arrOf st) (arrOf b) 0 n)(d:js κ (arrOf b) 0 n)(e:Nat×Nat×Nat):Jn κ kz st (setPending b ((dj b).push e)) :=⟨⟨k.kind,k.failed⟩,c.perm,by show((dj b).push e).size<=1;rw[f,g];exact a_ 1,by rw[<-h,ou];exact d.run⟩
theorem NB(C:lQ κ kz a w A s){st:d7}(B:SB kz st)(D:AllK κ (arrOf st))(o:dj st=#[])(X:(arrOf st).size<64)(h:∀d,SB kz d->(arrOf d).toList.Perm (arrOf st).toList->Run κ (arrOf d) 0 (arrOf st).size->Q () d):wpS (ar a w) A E s sortRuns' Q st:=by
 rw[sortRuns'_eq];refine dy (wpS_get ?_);dsimp only;obtain⟨b,r⟩:∃n,(arrOf st).size=n:=⟨_,rfl⟩
 have v:minRun' b b 0=b:=by
  cases b with
  |zero=>rfl
  |succ f=>rw[minRun'_succ,if_pos ⋯]
 simp only[r,v];refine dy (tZ (t4 (I:=λx c d=>(x=0/\c=(ac,0)/\d=st)\/(1<=x/\c=(ac,b)/\Jn κ kz st d)) (Q:=λc d=>SB kz d/\(arrOf d).toList.Perm (arrOf st).toList/\(dj d).size<=1/\Run κ (arrOf d) 0 b/\∃n,c=(ac,n)) ?_ ?_ (.inl ⟨rfl,rfl,rfl⟩)) ?_)
 .rintro x c d _ L (⟨rfl,rfl,rfl⟩|⟨pW,rfl,hD⟩)
  .dsimp only;rw[if_neg ∅];simp only[Nat.sub_zero,Nat.min_self,ou];refine dy (Nl C B D ∅ ⋯ λm S F p q W T z=>?_);dsimp only;by_cases G:m<b
   .rw[if_pos G];refine dy (wpS_lift (lu ⟨rfl,?_⟩));refine dy (Mh C F (D.of q.perm) ⋯ (by rw[q.size];simp_all) z λN H l J u=>?_);simp only[mS,fh,if_false];refine dy (wpS_get ?_);rw[show(dj N).back?=ac by rw[l,p,o];rfl];dsimp only;exact dy (wpS_modify (gu (.inr ⟨by simp,rfl,Jn.mk' ⋯ H o (l.trans p) (q.trans J) u _⟩)))
   .rw[if_neg G];obtain rfl:m=b:=∅
    refine dy (wpS_get ?_);rw[show(dj S).back?=ac by rw[p,o];rfl];dsimp only;exact dy (wpS_modify (gu (.inr ⟨by simp,rfl,Jn.mk' ⋯ F o p q z _⟩)))
  .dsimp only;rw[if_pos (a_ _)];exact gu ⟨hD.1,hD.2.1,hD.2.2.1,r ▸ hD.2.2.2,_,rfl⟩
 .rintro c d (⟨L,rfl,rfl⟩|⟨_,rfl,hD⟩)
  .exact⟨B,.refl _,by rw[o];simp,λi j x y _ _ Y=>⋯,_,rfl⟩
  .exact⟨hD.1,hD.2.1,hD.2.2.1,r ▸ hD.2.2.2,_,rfl⟩
 .rintro c d ⟨d1,d2,P,O,n,rfl⟩;dsimp only;refine dy (tZ (t4 (I:=λ_ c g=>g=d/\c=(ac,())) (Q:=λc g=>g=d/\c=(ac,())) ?_ (λ_ _ M=>M) ⟨rfl,rfl⟩) ?_)
  .rintro x c g _ _ ⟨rfl,rfl⟩;refine dy (wpS_get ?_);rw[if_pos P];exact gu ⟨rfl,rfl⟩
  .rintro c g ⟨rfl,rfl⟩;exact gu (h _ d1 d2 (r ▸ O))
end
theorem qB(h:n<=1000000):n<bh:=pt h (by decide)
theorem Run.sortedTo(h:Run κ a 0 n)(c:n<=a.size):SortedToK κ a n:=by intro i j b d;have:=h i j _ _ (gW _) b ⋯ (getElem?_pos a i ∅) (getElem?_pos a j ∅);rw[sU (show i<a.size by lia),sU (show j<a.size by ac_rfl)];trivial
theorem KeysOf.all(h:KeysOf κ a):AllK κ a:=λi b=>h _ (by simp)
section
variable{s:ak}
theorem FZ{c:List af}(p:s.heap.get? a=aa (dY "list" c.toArray n))(J:KeysOf κ (kt c))(z:c.length<64)(C:∀r:ax,(∀b o,b≠a->s.heap.get? b=aa o->r.get? b=aa o)->2<=c.length->lQ κ kz P w A {s with heap:=r}/\∀{E:af->ak->Prop}{Q:il->ak->Prop},Q kz {s with heap:=r}->ao (ar P w) A (wc c.toArray) Q E {s with heap:=r})(h:∀d:d7,(arrOf d).Perm (kt c)->SortedToK κ (arrOf d) (kt c).size->F (.done (.ret .none)) {s with heap:=sortedHeap s.heap a c ((arrOf d).map (·.2))}):ao (ar P w) A (Builtin.«list.sort» ⟨[.ref a],[]⟩) F E s:=by
 rw[list_sort_plain];have G:a<s.heap.objs.size:=bu p;have B:c.length<=bh:=ig (qB ∅);refine aj (listItems_at p rfl ?_);refine aj (Eb p rfl ?_);obtain⟨u,y⟩:∃u,(s.heap.update a (iH λ_=>#[])).get? a=aa (dY "list" #[] u):=⟨_,zC p (λ_=>#[])⟩
 refine aj (seqEpoch_at y rfl ?_);refine aj (wpAny_newTuple ?_ (hsz:=nofun));refine aj (zv ?_);refine d_ ?_;have g:(((s.heap.update a (iH λ_=>#[])).push (dY "tuple" c.toArray 0)).push (dY "list" #[] 0)).get? a=aa (dY "list" #[] u):=by rw[Heap.get?_push_ne _ _ _ (by rw[kr,Heap.size_update];lia),Heap.get?_push_ne _ _ _ (by rw[Heap.size_update];exact cr G)];trivial
 have keep:∀b o,b≠a->s.heap.get? b=aa o->(((s.heap.update a (iH λ_=>#[])).push (dY "tuple" c.toArray 0)).push (dY "list" #[] 0)).get? b=aa o:=λb o l e=>bi _ (bi _ (by rw[KR _ _ _ _ l];exact e));show ao (ar P w) A _ F E {s with heap:=((s.heap.update a (iH λ_=>#[])).push (dY "tuple" c.toArray 0)).push (dY "list" #[] 0)};dsimp only;have f:∀d:d7,failedOf d=ac->(arrOf d).Perm (kt c)->SortedToK κ (arrOf d) (kt c).size ->
   ao (ar P w) A (do
    let touched:=(<-seqEpoch a) != u
    Builtin.List.listUpdate (.ref a) λ_=>(arrOf d).map (·.2)
    if let aa e:=failedOf d then rule "list.sort.comparison-raised";throw e
    if touched then rule "list.sort.modified";raiseError "ValueError" "list modified during sort"
    ret .none) F E {s with heap:=((s.heap.update a (iH λ_=>#[])).push (dY "tuple" c.toArray 0)).push (dY "list" #[] 0)}:=λd l m v=>by
  refine aj (seqEpoch_at g rfl ?_);refine aj (Eb g rfl ?_ (hsz2:=by refine dD (rE ((Array.size_map ..).trans (m.size_eq.trans (pairsOf_size _)))) (Nat.le_succ_of_le B)));rw[l];simp only[bne_self_eq_false,fh,if_false];exact aq (h d m v)
 by_cases q:c.toArray.size<2
 .rw[if_pos q,if_pos q];refine aj (aq ?_);refine aj (aq ?_);refine f (SortSt.mk' general' (c.toArray.zip c.toArray) #[] 7 ac) rfl (Array.Perm.refl _) λi j O D=>?_;have:i=j:=by rw[pairsOf_size]at D;grind
  subst this;exact pJ _
 .rw[if_neg q,if_neg q];obtain⟨H,I⟩:=C _ keep ∅;refine aj (I ?_);refine aj (eU (NB (κ:=κ) (kz:=kz) H (st:=SortSt.mk' kz (c.toArray.zip c.toArray) #[] 7 ac) (Q:=λ_ d=>SB kz d/\(arrOf d).toList.Perm (kt c).toList/\Run κ (arrOf d) 0 (kt c).size) ⟨rfl,rfl⟩ (KeysOf.all J) rfl (show(kt c).size<64 by rw[pairsOf_size];exact z) λd N M L=>⟨N,M,L⟩) ?_ λ_ _ e=>e);rintro⟨⟨⟩,d⟩ s' ⟨rfl,l,m,v⟩;have x:(arrOf d).Perm (kt c):=Ef.mpr m;exact f d l.failed x (v.sortedTo (by rw[x.size_eq];simp))
theorem UC{g:KeyKind}(o:g.OneLt){d:List af}(m:s.heap.get? a=aa (dY "list" d.toArray n))(p:KeysOf g (kt d)) (j:∀c b rest,d=c::b::rest->wc (c::b::rest).toArray=pure oneType') (l:d.length<64)(h:∀i:d7,(arrOf i).Perm (kt d)->SortedToK g (arrOf i) (kt d).size->F (.done (.ret .none)) {s with heap:=sortedHeap s.heap a d ((arrOf i).map (·.2))}):ao (ar P w) A (Builtin.«list.sort» ⟨[.ref a],[]⟩) F E s :=
 FZ m p l (λr _ f=>⟨OneLt.ok o,λq=>by
  obtain⟨c,b,rest,rfl⟩:∃c b rest,d=c::b::rest:=by
   match d,f with
   |[],f=>trivial
   |[_],f=>simp at f
   |c::b::rest,_=>lia
  rw[j _ _ _ rfl];exact aq q⟩) h
end
section
variable{A:aZ}
theorem Qy(x:ao (ar P w) A.in1 (tP v) (λd s1=>∃ss:List Str,bR d ss/\d.length<64/\∀(h:ax) (out:Array af) (f:List Str) (e:Nat),(∀b o,s1.heap.get? b=aa o->h.get? b=aa o) -> h.get? s1.heap.objs.size=aa (dY "list" out e)->bR out.toList f->f.Perm ss->sortedS f=ag->Q (.ref s1.heap.objs.size) {s1 with heap:=h}) E s):ao (ar P w) A (call (.builtin "sorted") [v]) Q E s:=by refine KF kind_sorted plain_sorted entry_sorted (args_sorted1 _) ?_;unfold KG;refine aj (m:=checkCount "sorted" 1 1 _) (aq ?_);refine aj (aP x λd s1 ⟨ss,l,p,i⟩=>?_);refine aj (zv ?_);have g:(s1.heap.push (dY "list" d.toArray 0)).get? s1.heap.objs.size=aa (dY "list" d.toArray 0):=bU _ rfl;refine aj (d_ (jm slot_list_sort ⟨_,g,rfl⟩ entry_list_sort (UC strKind_oneLt g l.keysOf (λa b c e=>keyKind_strs (by rw[<-e];trivial)) p λy r q=>⟨_,rfl,?_⟩) (args_list_sort _)));obtain⟨f,C,B,z⟩:=sorted_out_str l r q;obtain⟨e,u⟩:=sortedHeap_at (out:=(arrOf y).map (·.2)) g;refine aq ⟨_,rfl,i _ _ f e (λb o j=>?_) u C B z⟩;have n:b<s1.heap.objs.size:=bu j;rw[sortedHeap_old (cr n) (by rw[kr];exact v7 n)];exact bi _ j
end
section
theorem Inv.sorted2{c:List Tx}{f:ax}(I:Inv X h g H s1)(j:ss=c.map tS)(q:c.length<64)(k:∀b o,s1.heap.get? b=aa o->f.get? b=aa o) (r:f.get? s1.heap.objs.size=aa (dY "list" a e)) (p:bR a.toList d) (n:d.Perm ss) (m:sortedS d=ag):Inv X h g (upd H s1.heap.objs.size (.lst (bz (b_ c)))) {s1 with heap:=f}:=by
 have l:d.map (λz=>z.cps.toList)=b_ c:=by
  refine Jb ?_ (JX m);have:=n.map λz=>z.cps.toList;rw[j,fg]at this;have s:(c.map ((λz:Str=>z.cps.toList) ∘ tS))=c:=by simp[rH,jx]
  simp_all
 have i:bE (bz (b_ c)) a.toList:=by rw[<-l];exact Ij p
 refine I.laid (t':=s1.toks) k (a_ _) ⟨?_,a.toList,e,i,?_⟩
 .rw[qR,IS];exact ig (qB ∅)
 trivial
end
noncomputable def xw(a:Int)(n:Nat):It:=⟨λi _=>i<n,λi H x b=>b=H/\x=.int (a-i),λi _=>n<=i⟩
theorem P7{K:aw}{G:au}(c:ab)(f:Int)(n:Nat):nB P w K G (xw f n) [c] c (λi h=>DC h c (f+(i:Nat) * -1) ((n:Int)-(i:Nat)) (-1)) where
 mem:=by simp
 obj:=λi h a b d=>⋯
 keep:=λi h j a k=>k c (by simp) _ a
 item:=by intro X q l r p i D s B H E I g a m;subst q l r;obtain⟨A,z,M,y,x,u⟩:=g c (by simp);have W:=Walks.range (prog:=X.prog) (w:=X.w) (I.ok.hd p) c f (-1) n;refine W.item i s _ _ m a λv j C L F J=>?_;obtain⟨t,rfl⟩:=L;have O:Inv X D B H {s with heap:=j,toks:=C}:=I.turned (λb o d e=>J b o (~~~d) e) A z y x u;refine⟨_,rfl,qd (s:={s with heap:=j,toks:=C}) (n:="range_iterator") F rfl rfl (by rfl) ⟨.int (f-i),H,O,⟨t,?_⟩,⟨rfl,rfl⟩,F,λb d=>(g b d).1⟩⟩;lia
 done:=by intro X q l r p i D s B H E I g a m;subst q l r;obtain⟨A,z,M,y,x,u⟩:=g c (by simp);exact wpAny_pyNext_range_end (I.ok.hd p) a (by have:n<=i:=m;lia) λj N=>⟨rfl,I.turned (t':=s.toks) (λb o d e=>N b o d e) A z y x u⟩
 self:=λ_ _ _ _ _ a h=>wpAny_pyIter_rangeiter a h
theorem rangeSize_down(a b:Int):DD a b (-1)=if a > b then a-b else 0:=by unfold DD;simp
theorem small_down(g:-(2^62)<=a)(c:a<2^62)(f:-(2^62)<=b)(d:b<2^62):Builtin.Range.small a b (-1)=ag:=by unfold Builtin.Range.small;rw[rangeSize_down];simp only[Builtin.Range.rangeFitsLong,iX,zu,decide_eq_true_eq,beq_iff_eq,show ¬((-1:Int) > 0) by decide,if_false];split <;> lia
section
theorem Ur{c:Int}(I:Inv X h f H s)(p:-(2^62)<=a)(n:a<2^62)(m:-(2^62)<=c)(l:c<2^62)(q:R (xw a (a-c).toNat) H):ao X.zz X.A (mK (.ref s.heap.objs.size)) (uo X h f d R) E {s with heap:=s.heap.push {cls:=.type "range",data:=.fields #[.int a t,.int c u,.int (-1) v]},toks:=g}:=by
 refine wpAny_pyIter_range (IsRange.new ..) (small_down p n m l) ?_;have i:Inv X h f H {s with heap:=s.heap.push {cls:=.type "range",data:=.fields #[.int a t,.int c u,.int (-1) v]},toks:=g}:=I.kept λb o e=>bi _ e;refine⟨(s.heap.push {cls:=.type "range",data:=.fields #[.int a t,.int c u,.int (-1) v]}).objs.size,[(s.heap.push {cls:=.type "range",data:=.fields #[.int a t,.int c u,.int (-1) v]}).objs.size],_,_,H,rfl,i.kept (t':=g) λb o e=>bi _ e,P7 _ a (a-c).toNat,?_,λb j=>?_,q⟩
 .have w:a+((0:Nat):Int) * -1=a:=by simp
  have r:(((a-c).toNat:Nat):Int)-((0:Nat):Int)=DD a c (-1):=by rw[rangeSize_down];split <;> lia
  show DC _ _ (a+((0:Nat):Int) * -1) ((((a-c).toNat:Nat):Int)-((0:Nat):Int)) (-1);rw[w,r];exact bU _ rfl
 .have e:b=(s.heap.push {cls:=.type "range",data:=.fields #[.int a t,.int c u,.int (-1) v]}).objs.size:= ~~~j
  subst e;exact i.fpOk (a_ _) (i.hok.fresh (a_ _))
def Q7(c:TA):TI:=λa H R=>c a H λb f=>∃i j:Int,b=[.int i,.int j,.int (-1)]/\(-(2^62)<=i/\i<2^62/\-(2^62)<=j/\j<2^62)/\R (xw i (i-j).toNat) f
theorem Sz(D:Gl X "range")(C:X.mg "range"=ac)(E:PA X [a,b,c] n)(B:(aV [a,b,c] X.env=[(ai,aS a X.env),(ai,aS b X.env),(ai,aS c X.env)])^0)(o:(aV [b,c] X.env=[(ai,aS b X.env),(ai,aS c X.env)])^0):PI X d (.Call (.Name "range" p) [a,b,c] [] g) (Q7 n):=by
 intro F s u H R I h;refine Call_ (o8 I D C boot_range (za (aP (E g F s u H _ I h) λL N ⟨J,O,G,w,m⟩=>?_) (by rw[B,o]) (by rw[o];rfl)));obtain⟨i,j,e,⟨m,A,z,y⟩,q⟩:=m;subst e;cases w with
 |cons r f=>
  cases f with
  |cons x f=>
   cases f with
   |cons l f=>
    cases f;obtain⟨t,rfl⟩:=r;obtain⟨M,rfl⟩:=x;obtain⟨v,rfl⟩:=l;exact call_range_3 (by decide) (Ur G m A z y q) (.inl (PyProof.noPylong_small (by decide)))
def tf(a:Int)(n:Nat):List V:=(ce n).map λi=>V.int (a-(i:Nat))
theorem AW(a:Int)(n:Nat):(tf a n).length=n:=by simp[tf]
theorem Pi:Walk (xw a n) (tf a n) (λ_=>True):=λH _ i=>by
 refine⟨λx b=>?_,λa=>by rw[AW]at a;exact rE a.symm⟩;have c:i<n:=by have:=(cW.mp b).1;rw[AW]at this;trivial
 refine⟨c,λy g z=>⟨z.1,?_⟩⟩;unfold tf at b;rw[cT,zm c]at b;have f:V.int (a-(i:Nat))=x:=fG b;rw[z.2,<-f]
end
end L2
namespace Pu
open L2
section
variable{X:Cx}{K:aw}{l a c e:au}{d:ad PV}
noncomputable def CO(h:Int)(n:Nat):List PV:=(ce n).map λi=>PV.int (h-(i:Nat))
theorem Th(h:Int)(n:Nat):bd K H F (CO h n) (tf h n):=by
 unfold CO tf
 induction (ce n)with
 |nil=>rfl
 |cons x j i=>exact⟨_,_,rfl,rfl,i⟩
def Aw:List PV->Option (List PV)
 |[.int i,.int j,.int c]=>if c=-1/\j<=1000000/\-1000000<=j/\i<=1000000/\-1000000<=i then aa (CO i (i-j).toNat)else ac
 |_=>ac
theorem Ni(C:X.mg "range"=ac)(G:DA X E [a,b,c] g)(D:Gl X "range"^0)(B:(aV [a,b,c] X.env=[(ai,aS a X.env),(ai,aS b X.env),(ai,aS c X.env)])^0)(A:(aV [b,c] X.env=[(ai,aS b X.env),(ai,aS c X.env)])^0):DI X E m (.Call (.Name "range" p) [a,b,c] [] f) (dL Aw g):=λF S w r H Rr x h=>by
 refine A7 (Sz D C eC B A) (G F S w r H _ x ((Ok.bind h).imp λW s T P Q y g1 n Y O=>?_));unfold Aw at n;split at n
 .rename_i i j c;split at n
  .rename_i q;obtain⟨v,Z,rfl,N,M⟩:=O;obtain⟨u,z,rfl,L,J⟩:=M;obtain⟨t,rfl,I⟩:=dH J;obtain⟨rfl,q⟩:=q;refine⟨i,j,by rw[show v=V.int i from N,show u=V.int j from L,show t=V.int (-1)from I],⟨∅,nofun,∅,nofun⟩,n T P Q y (bI.refl ..) _ _ _ (Th i (i-j).toNat) (by rw[AW,rg];lia) Pi λ_ _ _ _=>trivial⟩
  trivial
 trivial
noncomputable def uk:List PV->Option PV
 |[.int i,.int j]=>aa (.int (if j<i then j else i))
 |_=>ac
theorem Ps:PL K (λh H Q=>∃i j,h=[.int i,.int j]/\Q (.int (if j<i then j else i)) H) uk:=λF H h x Q pv n e q=>by
 unfold uk at e;split at e
 .cases e;obtain⟨v,y,rfl,w,s⟩:=n;obtain⟨u,rfl,r⟩:=dH s;exact⟨_,_,by rw[show v=V.int _ from w,show u=V.int _ from r],q _ F H (Al.refl ..) rfl⟩
 trivial
end
theorem Oc(H:Hp)(p:ab)(a b:HO):L2.upd (L2.upd H p a) p b=L2.upd H p b:=by
 funext q;by_cases h:q=p
 .subst h;rw[upd_same,upd_same]
 .rw[aU h,aU h,aU h]
end Pu
namespace L2
section
variable{X:Cx}
theorem BC(z:X.calm=ag):c_ X (.builtin "sorted") (λc H Q=>∃(p:ab) (a:List Tx),c=[.ref p]/\H p=aa (cY X p a)/\a.length<64/\∀l,H l=ac->Q (.ref l) (upd H l (.lst (bz (b_ a))))):=by
 intro G s j H c L Q I r h;obtain⟨p,a,rfl,x,M,q⟩:=h;obtain⟨u,rfl,n⟩:=vals1 r;cases n;obtain⟨S,_,_⟩:=(show bN X.prog X.w H s.heap p (cY X p a)from I.hok p _ x)
 refine Qy (HA (np (I.ok.hd z)) S λm J ss g f P k C B=>?_);obtain⟨d,g',d',t',v⟩:=m;obtain rfl:g'=s.gens:=C;obtain rfl:v=s.os:=B;have i:Inv X G j H {s with heap:=d,drawn:=d',toks:=t'}:=by have:=Inv.call (ch:=[]) I (g':=s.gens) (d':=d') (t':=t') (Un.kept (fs:=gc X.stack) (ex:=[]) k) (I.hok.kept k) I.bare (λb A=>absurd A (by simp));trivial
 refine⟨ss,g,by have h:=f.length_eq;rw[cy]at h;have:=g.length;lia,λN o O e w y F E D=>?_⟩;exact⟨.ref _,_,Inv.sorted2 (s1:={s with heap:=d,drawn:=d',toks:=t'}) (ss:=a.map tS) i rfl ∅ w y F (E.trans f) D,rfl,q _ i.fresh⟩
end
theorem bB.perm(S:bB P w h a c)(p:c.Perm b):bB P w h a b:=by obtain⟨o,r,t,d,e,n,m,l,j,i,g,f⟩:=S.ex;exact⟨o,r,t,d,e,n,m.trans p,l,j,i,g,λz=>f λq=>z ⋯⟩
section
variable{P:aM}{w:aD}{s:ak}
theorem qZ(x y:Str)(a:Tok):(cn P w).is x (.str y a)=decide (y=x):=by rfl
theorem FB(S:bB P w s.heap a d)(h:∀r:Option Nat,r.isSome=decide (x∈d)->Q r s):ao (ar P w) A (setFind a (.str x c) ((cn P w).hash x)) Q E s:=by
 obtain⟨i,J,t,H,l,n,B,o,f,m,I,L⟩:=S.ex;have v:(cn P w).is x (.str x c)=ag:=by rw[qZ];simp
 have D:i.size<scanBound:=gG f (by decide);have b:x∈d↔∃e∈i.toList,(cn P w).is x e.2=ag:=by
  rw[<-B.mem_iff,yt n x];constructor
  .rintro⟨u,q⟩;obtain⟨e,g,G⟩:=cX.mp q;exact⟨e,g,by rw[G,qZ];simp⟩
  .rintro⟨e,g,q⟩;obtain⟨y,u,F⟩:=n.all e.2 (cX.mpr ⟨e,g,rfl⟩);rw[F,qZ]at q
   grind
 unfold setFind setFindIn;refine aj (fX l rfl m ?_);dsimp only;rw[byScan_of (knd:=cn P w) (x:=.str x c) rfl D o];simp only[if_true];refine aj (lu (aj (KH v l rfl m o ?_)));cases z:List.findIdx? (λe=>(cn P w).is x e.2) i.toList with
 |some j=>obtain⟨C,p,_⟩:=D6.mp z;exact aq (h _ (by rw[decide_eq_true (b.mpr ⟨_,rJ C,p⟩)];rfl))
 |none=>
  refine aq (h _ ?_)
  grind
structure p9(P:aM)(w:aD)(ks:List Str)(arr:Array (Int×af)):Prop where
 ex:∃ss:List Str,arr.toList.map (λe=>e.1)=ss.map (cn P w).hash/\bR (arr.toList.map (·.2)) ss/\ss.Perm ks
theorem F9:∀{l:List (Int×af)}{a:List Str},ElemsOf (cn P w) l->bR (l.map (·.2)) a->l.map (λe=>e.1)=a.map (cn P w).hash
 |[],[],_,_=>rfl
 |[],_::_,_,h=>by cases h
 |e::l,[],_,h=>absurd h.length (by simp)
 |e::l,x::a,c,h=>by
  obtain⟨g,v⟩:=e;cases h with
  |cons _ t f=>obtain⟨⟨k,b,d⟩,_⟩:=c.head;rw[qZ]at b;have:x=k:=of_decide_eq_true b;subst this;rw[cN,cN,F9 c.tail f,d]
theorem p9.of{es a:Array (Int×af)}(h:bR (es.toList.map (·.2)) b)(g:b.Perm d)(i:ElemsOf (cn P w) es.toList)(p:a.toList.Perm es.toList):p9 P w d a:=by obtain⟨j,c,f⟩:=uH (p.map (λe:Int×af=>e.2)) h;exact⟨j,F9 (i.perm p) c,c,f.trans g⟩
theorem Ju(S:bB P w s.heap a g)(z:cR w=ag\/(∃b m t,s.heap.get? a=aa {cls:=.type "set",dict:=ac,data:=.set b m t}/\(t.plain=ag\/b.size<=1)))(h:∀c,p9 P w g c->Q c s):ao (ar P w) A (setWalk a) Q E s:=by
 obtain⟨b,m,t,v,p,j,i,l,o,q,u,B⟩:=S.ex;unfold setWalk;refine aj (fX p rfl q ?_);unfold oq;dsimp only;refine aj (aj (lv (aq ?_)));show ao _ _ (if cR w=ag then _ else _) _ _ s;cases r:cR w with
 |true=>rw[if_pos rfl];refine aj (lv (aq ?_));exact h _ (p9.of j i l (Bb _ _))
 |false=>
  rw[if_neg (by simp)];have y:t.plain=ag\/b.size<=1:=by lia
  refine fK (λd=>absurd (show(!t.plain&&decide (b.size > 1))=ag from d) ?_) (λ_=>?_)
  .lia
  refine aj ?_;refine eU (Q:=λ_ f=>f=s) (E:=E) ?_ (λ_ f n=>?_) (λ_ _ x=>x)
  .refine fK (λd=>absurd (show(!t.led&&decide (b.size > 1))=ag from d) (by rw[u,r];simp)) (λ_=>aq rfl)
  .subst n;exact aq (h _ (p9.of j i l (mP _)))
theorem Ue:∀(a:List ab),(∀b∈a,∃l,bB P w s.heap b l)->∀{Q:Bool->ak->Prop},Q ag s->ao (ar P w) A (setsQuiet a) Q E s:=by
 intro a r Q u;unfold setsQuiet;refine aj (eU (oy _ (λrest (c:Option Bool×Unit) f=>f=s/\c=(ac,())/\∀b∈rest,b∈a) (λc f=>f=s/\c=(ac,())) ?_ (λc f h=>⟨h.1,h.2.1⟩) a _ ⟨rfl,rfl,λb j=>j⟩) (λc f i=>?_) (λ_ _ x=>x))
 .rintro b rest c f ⟨rfl,rfl,m⟩;obtain⟨l,S⟩:=r b (m b (by simp));obtain⟨o,N,t,F,z,C,I,L,q,B,M,O⟩:=S.ex;refine aj (D9 z rfl B ?_);refine aj (eU (K0 _ (λrest (c:Option Bool×Unit) d=>d=f/\c=(ac,())/\∀e∈rest,e∈o.toList) (λc d=>d=f/\c=(ac,())) ?_ (λc d h=>⟨h.1,h.2.1⟩) o _ ⟨rfl,rfl,λe g=>g⟩) (λc d i=>?_) (λ_ _ x=>x))
  .rintro e H T G ⟨rfl,rfl,n⟩;obtain⟨y,p,D⟩:=C.all e.2 (cX.mpr ⟨e,n e (by simp),rfl⟩);obtain⟨J,v⟩:=e;obtain rfl:v=.str y p:=D;exact aq ⟨rfl,rfl,λe g=>n e (by simp[g])⟩
  .obtain⟨rfl,rfl⟩:=i;exact aq ⟨rfl,rfl,λb j=>m b (by simp[j])⟩
 .obtain⟨rfl,rfl⟩:=i;exact aq u
theorem Go(S:bB P w s.heap a l)(R:bB P w s.heap r [])(G:∀b∈c,∃I,bB P w s.heap b I)(h:∀o d,eG r s.heap o->bB P w o r []->p9 P w l d->Q d {s with heap:=o}):ao (ar P w) A (zH a c (aa r)) Q E s:=by
 obtain⟨T,Z,t,W,L,x,v,y,J,N,O,cp⟩:=id S.ex;obtain⟨er,p,g,F,f,n,m,j,B,q,C,u⟩:=id R.ex;unfold zH;refine aj (fX L rfl N ?_);unfold oq;dsimp only;refine aj (aj (lv (aq ?_)));have same:∀d,p9 P w l d->Q d s:=λd D=>h s.heap d (pB r s.heap) R D;refine fK (λi=>?_) (λi=>?_)
 .have X:(cR w||(t.led&&t.plain)||decide (T.size<=1))=ag:=i;refine Ju S ?_ same
  grind
 .refine aj (Ue (a::c) (λb Y=>?_) ?_)
  .grind
  refine fK (λi=>absurd i (by decide)) (λ_=>?_);refine aj (lu ?_);refine aj (fX f rfl q ?_);dsimp only;refine fK (λi=>?_) (λi=>?_)
  .have M:(g.led&&t.led)=g.led:=by rw[C,O];simp
   have H:({g with led:=g.led&&t.led,plain:=g.plain&&t.plain}:b9).fits er.size=ag:=q;refine aj (pC f rfl ?_ (rK (gG B (by decide))));refine aq (h _ _ (iI ..) ⟨er,p+1,_,F,bB.put f,n,m,j,B,H,?_,λz=>absurd rfl z⟩ (p9.of x v y (mP _)));show(g.led&&t.led)=_;rw[M,C]
  .refine aq ?_;exact same _ (p9.of x v y (mP _))
end
theorem Qd:entryFor table "set.__and__"=aa Builtin.«frozenset.__and__»:=D7 (id':="frozenset.__and__") (by kernel_rfl) rfl (by decide +kernel) (by kernel_rfl)
section
variable{s:ak}
theorem bB.ty(S:bB P w s.heap a b):s.TypeIs (.ref a) "set":=by obtain⟨f,g,t,d,c,_⟩:=S.ex;exact⟨_,c,rfl⟩
theorem qf(S:bB P w s.heap a b)(h:Q ag s):ao (ar P w) A (Builtin.Frozenset.isAnySet (.ref a)) Q E s:=by unfold Builtin.Frozenset.isAnySet;refine aj (rO S.ty zx ?_);exact aq h
theorem sF(S:bB P w s.heap a b)(h:Q b.length s):ao (ar P w) A (KQ a) Q E s:=by
 obtain⟨d,p,t,f,j,m,i,n,g,l,o,u⟩:=S.ex;have c:b.length=d.size:=by
  have r:=i.length_eq;have q:f.length=d.size:=by rw[<-m.strs];simp
  simp_all
 unfold KQ;refine aj (D9 j rfl l (aq ?_));lia
theorem GC(h:∀a,bB P w a s.heap.objs.size []->(∀b o,s.heap.get? b=aa o->a.get? b=aa o)->a.objs.size=s.heap.objs.size+1->Q (.ref s.heap.objs.size) {s with heap:=a}):ao (ar P w) A (newSet (.type "set")) Q E s:=by unfold newSet oq;refine aj (aj (lv (aq ?_)));dsimp only;simp only[newObj];refine aj (D1 (aq (h _ ⟨#[],0,_,[],bU _ rfl,.nil,mP _,λe c=>by simp at c,by decide,rfl,rfl,λh=>absurd rfl h⟩ (λb o e=>bi _ e) (kr ..))))
theorem Uh{id:String}{l:Nat}{Q:PUnit->ak->Prop}(Sk:bB P w s.heap a q) (Sl:bB P w s.heap c j) (R:bB P w s.heap r []) (T:a≠r) (h2:c≠r) (nk:q.Nodup) (hk:q.length<4000) (X:p9 P w q n)(hw:∃I t,s.heap.get? a=aa {cls:=.type "set",dict:=ac,data:=.set I l t}/\t.fits I.size=ag)(h:∀d,eG r s.heap d->bB P w d r (q.filter (·∈j))->Q ⟨⟩ {s with heap:=d}):ao (ar P w) A (forIn n PUnit.unit λx _=>match x with
   | (F,x)=>do
    kl [x] (do
     let f <-setFind c x F
     if f.isSome=ag then do
      let _ <-tR r x F
      pure PUnit.unit
     else pure PUnit.unit)
    rR id a l
    pure (ForInStep.yield PUnit.unit)) Q E s:=by
 obtain⟨u,e1,e2,W⟩:=X.ex;have ns:u.Nodup:=W.nodup_iff.mpr nk;have N:∀{M:List Str},M=u->(M.filter (·∈j)).Perm (q.filter (·∈j)):=λ{M} e=>by grind
 refine K0 _ (λrest _ p=>∃d i g,p={s with heap:=d}/\u=i++g/\rest.map (λe=>e.1)=g.map (cn P w).hash/\bR (rest.map (·.2)) g/\eG r s.heap d/\bB P w d r (i.filter (·∈j))) Q ?_ ?_ n _ ⟨s.heap,[],u,rfl,rfl,e1,e2,pB r s.heap,R⟩
 .rintro⟨F,x⟩ rest _ p ⟨d,i,g,rfl,v,D,C,B,L⟩;cases g with
  |nil=>exact absurd C.length (by simp)
  |cons y g=>
   rw[cN,cN,t5]at D;obtain⟨f0,D⟩:=D;obtain rfl:F=(cn P w).hash y:=f0;cases C with
   |cons _ tk C=>
    have O:bB P w d c j:=Sl.at λo e=>(B.2 c h2).trans e;have nd:=ns;rw[v]at nd;have hy:y∉i:=λH=>by
     grind
    have bo:(i.filter (·∈j)).length<4000:=by
     have q1:=Eh (λz=>decide (z∈j)) i;have q2:=W.length_eq
     grind
    have stay:∀m,eG r d m->bB P w m r ((i++[y]).filter (·∈j))->∀{S:ForInStep PUnit->ak->Prop},(∀p,(∃d i g,p={s with heap:=d}/\u=i++g/\rest.map (λe=>e.1)=g.map (cn P w).hash/\bR (rest.map (·.2)) g/\eG r s.heap d/\bB P w d r (i.filter (·∈j)))->S (.yield PUnit.unit) p) ->
      ao (ar P w) A (do
      rR id a l
      pure (ForInStep.yield PUnit.unit)) S E {s with heap:=m}:=λm J R2 S oK=>by
     obtain⟨I,t,Y,Z⟩:=hw;have iK:m.get? a=aa {cls:=.type "set",dict:=ac,data:=.set I l t}:=(J.2 a T).trans ((B.2 a T).trans Y);unfold rR;refine aj (aj (tU (s:={s with heap:=m}) iK rfl Z ?_));refine fK (λhc=>absurd hc (by simp)) (λ_=>aq (aq ?_));exact oK _ ⟨m,i++[y],g,rfl,by rw[v];simp,D,C,B.trans J,R2⟩
    refine aj (d_ (aj (FB (s:={s with heap:=d}) O λr' G=>?_)));by_cases H:y∈j
    .rw[decide_eq_true H]at G;rw[if_pos G];refine aj (AC (s:={s with heap:=d}) L bo λm b J R2=>aq (stay m J ?_ λ_ z=>z));have:iP (i.filter (·∈j)) y=(i++[y]).filter (·∈j):=by unfold iP;simp_all
     rw[<-this];trivial
    .rw[decide_eq_false H]at G;rw[if_neg (by rw[G];simp)];refine aq (stay d (pB r d) ?_ λ_ z=>z);rw[Ei];simpa[H]using L
 .rintro _ p ⟨d,i,g,rfl,v,D,C,B,L⟩;cases g with
  |cons y g=>simp_all
  |nil=>rw[jU]at v;exact h d B (L.perm (N v.symm))
theorem UG{b a:List Str}(d:b.Nodup)(c:a.Nodup):(a.filter (·∈b)).Perm (b.filter (·∈a)):=by
 refine(List.perm_ext_iff_of_nodup (c.filter _) (d.filter _)).mpr λx=>?_
 grind
theorem Oo(iJ:a≠b)(y:bB P w s.heap a m)(B:bB P w s.heap b l)(Z:m.Nodup)(Y:l.Nodup)(hk:m.length<4000)(hl:l.length<4000)(h:∀g,bB P w g s.heap.objs.size (m.filter (·∈l))->(∀c o,s.heap.get? c=aa o->g.get? c=aa o)->Q (.ref s.heap.objs.size) {s with heap:=g}):ao (ar P w) A (gR .BitAnd (.ref a) (.ref b)) Q E s:=by
 refine wpAny_binaryOp_same (T:="set") (id:="set.__and__") y.ty B.ty F.fills_set_and F.slot_set_and ?_;refine jm F.slot_set_and y.ty Qd ?_ (F.args_set_and_2 _ _);unfold Builtin.«frozenset.__and__»;refine aj (aj (aq (aq ?_)));dsimp only;refine aj (aj (qf y ?_));refine(qf B ?_);refine fK (λi=>absurd i (by decide)) (λ_=>?_);refine aj (aq (aj ?_));unfold Builtin.Frozenset.intersection;refine fK (λi=>absurd (show(Value.ref b == Value.ref a)=ag from i) ⋯) (λ_=>?_);unfold K1;refine aj (aj (rO y.ty zx (aq ?_)));rw[if_pos rfl];refine aj (GC λj R H z1=>?_);have u:bB P w j a m:=y.at λo e=>H _ _ e;have n:bB P w j b l:=B.at λo e=>H _ _ e;have lt:∀{c:ab}{X:List Str},bB P w s.heap c X->c≠s.heap.objs.size:=λ{c X} S=>by obtain⟨_,_,_,_,e,_⟩:=S.ex;exact cr (bu e)
 refine aj (aq ?_);refine aj (d_ ?_);refine aj (qf (s:={s with heap:=j}) n ?_);rw[if_pos rfl];refine aj (aq ?_);refine aj (sF (s:={s with heap:=j}) n ?_);refine aj (sF (s:={s with heap:=j}) u ?_);have q:∀{f d:ab}{z r:List Str},bB P w s.heap f z->bB P w s.heap d r->bB P w j f z->bB P w j d r->r.Nodup->r.length<4000->(r.filter (·∈z)).Perm (m.filter (·∈l)) ->
   ∀{O:Unit->ak->Prop},(∀g,bB P w g s.heap.objs.size (m.filter (·∈l))->(∀c o,s.heap.get? c=aa o->g.get? c=aa o)->O () {s with heap:=g}) ->
   ao (ar P w) A.in1 (do
    let was <-setEpoch d
    for (hx,x) in <-zH d [f,s.heap.objs.size] (aa s.heap.objs.size) do
     kl [x] do
      if(<-setFind f x hx).isSome then
       let _ <-tR s.heap.objs.size x hx
     rR (toString "frozenset."++toString "__and__") d was) O E {s with heap:=j}:=λ{f d z r} Q1 W S1 M nw hw hp O oK=>by
  obtain⟨es,ep,t,ss,ho,hS,fj,fk,hsz,hf,fM,cp⟩:=id M.ex;refine aj (tU (s:={s with heap:=j}) ho rfl hf ?_);refine aj (Go (s:={s with heap:=j}) M R (λc i=>?_) λI arr C R2 wk=>?_)
  .grind
  have N:bB P w I f z:=S1.at λo e=>(C.2 _ (lt Q1)).trans e;have L:bB P w I d r:=M.at λo e=>(C.2 _ (lt W)).trans e;refine aj (Uh (s:={s with heap:=I}) L N R2 (lt W) (lt Q1) nw hw wk ⟨es,t,(C.2 _ (lt W)).trans ho,hf⟩ λh3 D R3=>?_);refine aq (oK h3 (R3.perm hp) λc o e=>?_);have i:c≠s.heap.objs.size:=cr (bu e);exact(D.2 c i).trans ((C.2 c i).trans (H c o e))
 have p:∀g,bB P w g s.heap.objs.size (m.filter (·∈l))->(∀c o,s.heap.get? c=aa o->g.get? c=aa o)->ao (ar P w) A.in1 (pure (Value.ref s.heap.objs.size)) (λa G=>ao (ar P w) A.in1 (ret a) (λJ G=>∃v,J=Fin.done (Flow.ret v)/\v≠Value.notImplemented/\Q v G) E G) E {s with heap:=g}:=λg S k=>aq (aq ⟨_,rfl,(by simp),h g S k⟩);by_cases i:l.length > m.length
 .rw[if_pos i];exact q B y n u Z hk (mP _) p
 .rw[if_neg i];exact q y B u n Y hl (UG Z Y) p
end
section
def lJ(b a:List Tx):List Tx:=b.filter λx=>decide (x∈a)
theorem SR(b a:List Tx):(b.map tS).filter (λx=>decide (x∈a.map tS))=(lJ b a).map tS:=by unfold lJ;rw[List.filter_map];congr 1;refine K2 λx _=>?_;simp only[wd];congr 1;refine propext ⟨λh=>?_,λh=>List.mem_map_of_mem h⟩;obtain⟨y,d,c⟩:=cX.mp h;rw[<-qx c];trivial
theorem CH{a:List Tx}(h:a.Nodup):(a.map tS).Nodup:=by rw[List.Nodup,pw];exact h.imp λb e=>b (qx e)
theorem OB:cj X (gR .BitAnd) (λx y H Q=>∃(p q:ab) (c b:List Tx),x=.ref p/\y=.ref q/\p≠q/\H p=aa (cY X p c)/\H q=aa (cY X q b)/\c.Nodup/\b.Nodup/\c.length<4000/\b.length<4000 /\ ∀a,H a=ac->Q (.ref a) (upd H a (cY X a (lJ c b)))):=by
 intro M s A H x y v u Q I i g h;obtain⟨p,q,c,b,rfl,rfl,f,w,r,n,m,D,C,k⟩:=h;cases i;cases g;obtain⟨Sp,_,_⟩:=(show bN X.prog X.w H s.heap p (cY X p c)from I.hok p _ w)
 obtain⟨z,_,_⟩:=(show bN X.prog X.w H s.heap q (cY X q b)from I.hok q _ r)
 refine Oo f Sp z (CH n) (CH m) (by rw[cy];trivial) (by rw[cy];trivial) λG S d=>?_;rw[SR]at S;refine⟨.ref s.heap.objs.size,_,I.laid (t':=s.toks) (o:=cY X s.heap.objs.size (lJ c b)) d (a_ _) ?_,rfl,k _ I.fresh⟩;obtain⟨J,L,t,B,e,_⟩:=S.ex;exact⟨S,⟨_,e⟩,λF E l j=>l.at j⟩
end
end L2
namespace Pu
open L2
section
variable{X:Cx}{u:List Nat}{e:au}{n f:ad (List PV)}{p:Pos}
theorem Ch(l:List Tx):(bP l).Nodup:=by
 unfold bP;have:∀(l b:List Tx),b.Nodup->(l.foldl (λa x=>if x∈a then a else a++[x]) b).Nodup:=by
  intro l
  induction l with
  |nil=>simp
  |cons x l c=>grind
 exact this l [] List.nodup_nil
def NM(X:Cx):List V->Hp->VK->Prop:=λb H Q=>∃(p:ab) (a:List Tx),b=[.ref p]/\H p=aa (cY X p a)/\a.length<64/\∀l,H l=ac->Q (.ref l) (upd H l (.lst (bz (b_ a))))
def mH:List PV->Option (List Tx)
 |[.lst b]=>(dS b).bind λa=>if(bP a).length<64 then aa (bP a)else ac
 |_=>ac
def J7(n f:ad (List PV)):ad PO:=λc=>(n c).bind λh b=>(aW (mH h) b).bind λl b=>(f b).bind λd a=>(aW (mH d) a).bind λi a=>.ok (.lst (a6 (b_ (lJ l i)))) a
theorem xJ(l:bd X.K H F c d)(e:mH c=aa i):∃(p:ab) (b:List Tx),d=[.ref p]/\cg X.K H p (bz b)/\(bP b).length<64/\i=bP b/\∀x∈b,x.length<=ck:=by
 unfold mH at e;split at e
 .obtain⟨v,rfl,a,A,rfl,w,_,h⟩:=dH l;obtain⟨b,z,g⟩:=jZ.mp e;rw[jG z]at h;obtain⟨rfl,o⟩:=Ws.mp h;split at g
  .cases g;exact⟨a,b,rfl,.inl w,by trivial,rfl,o⟩
  trivial
 trivial
theorem UF(h:x∈lJ a b):x∈a:=(y8.mp h).1
theorem Mj(hc:X.calm=ag)(ha:DA X E [e] n)(hb:DA X E [g] f)(hm:X.mg "sorted"=ac)(g_:X.mg "set"=ac)(hg:Gl X "sorted"^0)(kE:Gl X "set"^0)(h:(jj e=ai)^0)(h2:(jj g=ai)^0):DN X E (.Call (.Name "sorted" p) [.BinOp (.Call (.Name "set" q) [e] [] m) .BitAnd (.Call (.Name "set" r) [g] [] j) y] [] s) (J7 n f):=λF S ε M H Q rl h'=>by
 refine bT (jQ (BC hc) hg hm jL (fU (zY OB (lO (uN hc) kE g_ oV eC (by decide) (by rfl) (dA h) rfl) (lO (uN hc) kE g_ oV eC (by decide) (by rfl) (dA h2) rfl)) gM (dA rfl)) (by decide) (by rfl) (dA rfl) rfl) ?_;refine ha F S ε M H _ rl ((Ok.bind h').imp λxs D T N H1 r1 g1 q1 vs f9=>?_);cases e1:mH xs with
 |none=>rw[e1]at q1;trivial
 |some ls=>
  rw[e1]at q1;obtain⟨p,B,rfl,hp,hz,rfl,hx⟩:=xJ f9 e1;refine⟨p,B,rfl,hp,gG hz (by decide),λa fa=>?_⟩;have C:Al T T H1 (upd H1 a (cY X a (bP B))):=Al.new0 fa;have r:Ok X.K E M T N H1 ((f D).bind λW A=>(aW (mH W) A).bind λms A=>R.ok (PO.lst (a6 (b_ (lJ (bP B) ms)))) A) _:=q1;have q3:=Ok.from r (C.grow (O:=U N));refine hb T N D M _ _ (r1.al C) ((Ok.bind q3).imp λW A P S2 L Y g2 Z vs2 G=>?_);cases oE:mH W with
  |none=>rw[oE]at Z;trivial
  |some ms=>
   rw[oE]at Z;obtain⟨p2,v,rfl,fi,wU,rfl,pX⟩:=xJ G oE;have na:¬U N a:=λ⟨i,z⟩=>by obtain⟨_,_,o,w,_⟩:=r1.foot i a z;lia
   have ha2:L a=aa (cY X a (bP B)):=g2.keep a _ upd_same na;refine⟨p2,v,rfl,fi,gG wU (by decide),λb fb=>?_⟩;have iJ:a≠b:=by lia
   refine⟨a,b,bP B,bP v,rfl,rfl,iJ,by rw[aU iJ];trivial,upd_same,Ch _,Ch _,gG hz (by decide),gG wU (by decide),λc fc=>?_⟩;have bo:(lJ (bP B) (bP v)).length<64:=pt (Eh _ _) hz;refine⟨c,_,rfl,upd_same,bo,λl I=>?_⟩;have J:Al P P L (upd (upd (upd L b (cY X b (bP v))) c (cY X c (lJ (bP B) (bP v)))) l (.lst (bz (b_ (lJ (bP B) (bP v)))))):=((Al.new0 fb).trans (Al.new0 fc)).trans (Al.new0 I);have kD:L l=ac:=by
    have h1:l≠c:=by rintro rfl;rw[upd_same]at I;trivial
    rw[aU h1]at I;have h2:l≠b:=by rintro rfl;rw[upd_same]at I;trivial
    rwa[aU h2]at I
   have q5:Ok X.K E M P S2 L (R.ok (PO.lst (a6 (b_ (lJ (bP B) (bP v))))) A) _:=Z;refine q5 P S2 _ (Y.al J) J.grow l (λc=>c=l) ⟨⟨_,upd_same,Ws.mpr ⟨rfl,λx gZ=>hx x ((sL _ _).mp (UF ((nt _).mem_iff.mp gZ)))⟩⟩,λc=>i5⟩ λd z=>?_;subst z;refine⟨jv (g1.trans (C.grow.trans g2)) kD,λz=>?_,λ⟨i,z⟩=>?_,_,upd_same,trivial⟩
   .obtain⟨o,w⟩:=Y.ex _ z;lia
   .obtain⟨_,_,o,w,_⟩:=Y.foot i _ z;lia
end
theorem Bk:dX "max"=aa (.builtin "max"):=by decide +kernel
end Pu
namespace Mx
theorem Nf(p:Nat):∃o,5^(2^p)=1+2^(p+2)*(2*o+1):=by
 induction p with
 |zero=>exact⟨0,by rfl⟩
 |succ p a=>
  obtain⟨o,h⟩:=a;refine⟨o+2^p*(2*o+1)*(2*o+1),?_⟩;rw[show 2^(p+1)=2^p*2 from we ..,Nat.pow_mul,h];rw[show(2:Nat)^(p+1+2)=8*2^p from by rw[Nat.pow_add,we];lia,show(2:Nat)^(p+2)=4*2^p from by rw[Nat.pow_add];lia];generalize 2^p=q
  grind
def F5:Nat->Nat->Nat
 |0,x=>x
 |n+1,x=>F5 n (5*x+1)
theorem MQ(m n x:Nat):F5 (m+n) x=F5 n (F5 m x):=by
 induction m generalizing x with
 |zero=>simp[F5]
 |succ m a=>rw[K3];exact a _
theorem Ng(n x:Nat):4*F5 n x+1=5^n*(4*x+1):=by
 induction n generalizing x with
 |zero=>simp[F5]
 |succ n a=>show 4*F5 n (5*x+1)+1=_;rw[a,we];grind
theorem UI(p x:Nat):∃o,F5 (2^p) x=x+2^p*(2*o+1):=by obtain⟨o,h⟩:=Nf p;have c:=Ng (2^p) x;rw[h,show(2:Nat)^(p+2)=4*2^p from by lia]at c;refine⟨o*(4*x+1)+2*x,?_⟩;lia
theorem JL(p:Nat):∀x y,y<2^p->∃n,n<2^p/\F5 n x % 2^p=y:=by
 induction p with
 |zero=>lia
 |succ p d=>
  intro x y f;obtain⟨n,w,e⟩:=d x (y % 2^p) (oj _ (Nat.two_pow_pos p));have g:(2:Nat)^(p+1)=2*2^p:=by lia
  obtain⟨o,j⟩:=UI p (F5 n x);have c:=Nat.two_pow_pos p;by_cases q:F5 n x % 2^(p+1)=y
  .grind
  .refine⟨n+2^p,∅,?_⟩;rw[MQ,j];rw[g]at q f ⊢;generalize 2^p=N at *;generalize F5 n x=z at *;have l:z % (2*N) % N=z % N:=Nat.mod_mod_of_dvd _ ⟨2,∅⟩;have i:(z+N*(2*o+1)) % (2*N)=(z+N) % (2*N):=by rw[show z+N*(2*o+1)=(z+N)+(2*N)*o by grind,Nat.add_mul_mod_self_left]
   rw[i];have v:=oj z (show 2*N > 0 by ac_rfl);have h:(z+N) % (2*N)=(z % (2*N)+N) % (2*N):=by simp
   rw[h];generalize z % (2*N)=u at *;rw[<-l]at e;have a:=Nat.div_add_mod u N;have b:=Nat.div_add_mod y N;have r:u / N<2:=Nat.div_lt_of_lt_mul (by rw[zI];trivial);have m:y / N<2:=Nat.div_lt_of_lt_mul (by rw[zI];trivial);rw[e]at a;generalize u / N=uq at a r;generalize y / N=yq at b m;have s:=oj y c;rcases(show uq=0\/uq=1 by lia)with c1|c1 <;> rcases(show yq=0\/yq=1 by lia)with c2|c2 <;> subst c1 <;> subst c2 <;> simp only[Nat.mul_zero,Nat.mul_one,ou]at a b
   .exact absurd (a.symm.trans b) q
   .rw[Ej ∅];lia
   .rw[show u+N=y+2*N by lia,Nat.add_mod_right,Ej ⋯]
   .exact absurd (a.symm.trans b) q
end Mx
namespace L2
open Mx
noncomputable def eZ(mask:Nat):Nat->Nat->Nat->Nat×Nat
 |0,i,p=>(i,p)
 |n+1,i,p=>eZ mask n (mT mask i p).1 (mT mask i p).2
theorem AT(mask:Nat):∀(m n i p:Nat),eZ mask (m+n) i p=eZ mask n (eZ mask m i p).1 (eZ mask m i p).2
 |0,n,i,p=>by rw[ou];rfl
 |m+1,n,i,p=>by rw[K3];exact AT mask m n _ _
theorem B5(mask:Nat):∀(m i p:Nat),(eZ mask m i p).2=p / 32^m
 |0,i,p=>by simp[eZ]
 |m+1,i,p=>by show(eZ mask m _ _).2=_;rw[B5 mask m];show p / 32 / 32^m=_;rw[Nat.div_div_eq_div_mul,we,zI]
theorem BX(mask:Nat):∀(n i:Nat),(eZ mask n i 0).1 % (mask+1)=F5 n i % (mask+1)
 |0,i=>rfl
 |n+1,i=>by show(eZ mask n ((i*5+1+0 / 32) % (mask+1)) (0 / 32)).1 % _=F5 n (5*i+1) % _;rw[show 0 / 32=0 from rfl,BX mask n,Nat.add_zero,zI i 5];exact F5_mod n (mask+1) (5*i+1)
where
 F5_mod:∀(n N x:Nat),F5 n (x % N) % N=F5 n x % N
  |0,N,x=>by simp[F5]
  |n+1,N,x=>by show F5 n (5*(x % N)+1) % N=F5 n (5*x+1) % N;rw[<-F5_mod n N (5*(x % N)+1),<-F5_mod n N (5*x+1)];congr 2;rw[Nat.add_mod,Nat.mul_mod,Nat.mod_mod,<-Nat.mul_mod,<-Nat.add_mod]
theorem CQ(mask:Nat):∀(n i p:Nat),(eZ mask (n+1) i p).1<mask+1
 |0,i,p=>oj _ (t6 _)
 |n+1,i,p=>CQ mask n _ _
theorem FW{owner:Array (Option Nat)}:∀(a i p:Nat),(∃t,t<a/\(owner.getD (eZ mask t i p).1 (aa 0)).isNone=ag)->∃j,pK mask owner a i p=aa j/\(owner.getD j (aa 0)).isNone=ag
 |0,i,p,⟨t,h,_⟩=>absurd h (l9 _)
 |a+1,i,p,⟨t,h,e⟩=>by
  unfold pK;cases q:(ce (fY mask i+1-i)).find? (λk=>(owner.getD (i+k) (aa 0)).isNone)with
  |some k=>exact⟨i+k,rfl,by have:=List.find?_some q;trivial⟩
  |none=>
   cases t with
   |zero=>have:=List.find?_eq_none.mp q 0 (by rw[ph];unfold fY;split <;> omega);trivial
   |succ t=>exact FW a _ _ ⟨t,∅,e⟩
theorem MW{owner:Array (Option Nat)}(a:mask+1=2^q)(c:owner.size=mask+1)(r:y<owner.size)(u:owner[y]?=aa ac)(i p:Nat)(d:p<2^64):∃j,pK mask owner (pL mask) i p=aa j/\owner[j]?=aa ac:=by
 obtain⟨n,s,e⟩:=JL q (eZ mask 13 i p).1 y (by rw[<-a,<-c];trivial);have g:(eZ mask 13 i p).2=0:=by rw[B5];exact Nat.div_eq_of_lt (fe d (by simp))
 have m:(eZ mask (13+n) i p).1<mask+1:=by rw[show 13+n=(12+n)+1 by lia];exact CQ mask _ _ _
 have v:(eZ mask (13+n) i p).1=y:=by
  have l:(eZ mask (13+n) i p).1 % (mask+1)=y:=by rw[AT,g,BX,a];exact e
  rwa[Ej m]at l
 obtain⟨j,h,b⟩:=FW (mask:=mask) (owner:=owner) (pL mask) i p ⟨13+n,by unfold pL;lia,by simp_all⟩;refine⟨j,h,?_⟩;rw[Ek]at b;cases f:owner[j]? with
 |none=>rw[f]at b;trivial
 |some o=>simp_all
theorem JM:∀(l:List (Option Nat)) (j k:Nat),l[j]?=aa ac->((l.set j (aa k)).filterMap id).Perm (k::l.filterMap id)
 |[],j,k,h=>by trivial
 |x::l,0,k,h=>by simp at h;subst h;rfl
 |x::l,j+1,k,h=>by
  have a:=JM l j k (by trivial);cases x with
  |none=>trivial
  |some v=>simp only[List.set_cons_succ,lm,id];exact(a.cons v).trans (List.Perm.swap ..)
theorem Iv:∀(l:List (Option Nat)),(∀y,y<l.length->l[y]?≠aa ac)->(l.filterMap id).length=l.length
 |[],_=>rfl
 |x::l,h=>by
  have a:=Iv l λy b e=>h (y+1) (by simp;omega) (by trivial);cases x with
  |none=>exact absurd rfl (h 0 (by simp))
  |some v=>simp[a]
noncomputable def Laid(b:Nat)(a:Array (Option Nat))(k:Nat):Prop:=a.size=b+1/\(a.toList.filterMap id).Perm (ce k)
theorem JQ(g:b+1=2^q)(L:Laid b a k)(o:k<b+1)(h:Int):∃j,pK b a (pL b) (et h % (b+1)) (et h)=aa j/\Laid b (a.setIfInBounds j (aa k)) (k+1):=by
 obtain⟨d,f⟩:=L;have:∃y,y<a.toList.length/\a.toList[y]?=aa ac:=by
  by_cases z:∃y,y<a.toList.length/\a.toList[y]?=aa ac
  .exact z
  .have:=Iv a.toList λy c e=>z ⟨y,c,e⟩;have:=f.length_eq;simp_all
 obtain⟨y,c,i⟩:=this;have l:et h<2^64:=by unfold et;lia
 obtain⟨j,n,m⟩:=MW g d (by trivial) (~~~i) (et h % (b+1)) _ l;refine⟨j,n,~~~d,?_⟩;rw[Array.toList_setIfInBounds,rG];exact(JM a.toList j k (~~~m)).trans ((f.cons k).trans (List.perm_append_singleton ..).symm)
theorem Vf(i:b+1=2^q)(d:Array Int)(p:d.size<=b):∃a,v9 b d=aa a/\Laid b a d.size:=by
 unfold v9;have f:∀(l:List Int) (a:Array (Option Nat)) (k:Nat),Laid b a k->k+l.length<=b+1->∃c,l.foldl (λo h=>do
   let (a,k) <-o
   let j <-pK b a (pL b) (et h % (b+1)) (et h)
   pure (a.setIfInBounds j (aa k),k+1)) (aa (a,k))=aa (c,k+l.length)/\Laid b c (k+l.length):=by
  intro l
  induction l with
  |nil=>intro a k L _;exact⟨a,rfl,L⟩
  |cons h l g=>intro a k L m;simp only[gH]at m;obtain⟨j,n,L2⟩:=JQ i L ∅ h;obtain⟨c,e,r⟩:=g _ _ L2 ∅;refine⟨c,?_,by rw[gH,show k+(l.length+1)=k+1+l.length by lia];trivial⟩;rw[ot];show l.foldl _ ((pK b a (pL b) (et h % (b+1)) (et h)).bind λj=>aa (a.setIfInBounds j (aa k),k+1))=_;rw[n,gH,show k+(l.length+1)=k+1+l.length by lia];exact e
 obtain⟨c,e,L⟩:=f d.toList (Array.replicate (b+1) ac) 0 ⟨by simp,by simp⟩ (by simp;lia);simp_all
theorem Uk(n:Nat)(j:n<2^60):∃q,lY n=2^q/\n<lY n/\(lY n<=2*n\/lY n=8)/\8<=lY n:=by
 have f:∀(b a:Nat),(∃q,a=2^q)->(a<=2*n\/a=8)->8<=a->n<a*2^b->∃q,wg n b a=2^q/\n<wg n b a/\(wg n b a<=2*n\/wg n b a=8)/\8<=wg n b a:=by
  intro b
  induction b with
  |zero=>intro a ⟨q,c⟩ h g d;exact⟨q,c,by show n<a;simpa using d,h,g⟩
  |succ b i=>
   intro a ⟨q,c⟩ h g d;unfold wg;split
   .refine i (a*2) ⟨q+1,by rw[c,we]⟩ (.inl ∅) ∅ ?_;rw[we]at d;rw[Nat.mul_assoc,zI 2];trivial
   grind
 exact f 64 8 ⟨3,rfl⟩ (.inr rfl) (a_ _) (fe j (by simp))
theorem GU{moves:Nat}{led plain:Bool}(o:mask+1=2^q)(c:Array (Int×af))(i:c.size<=mask):∃(t:b9) (b:Array Nat),v8 mask finger moves led plain (c.map (·.1))=aa (t,b)/\b.toList.Perm (ce c.size)/\t.fits c.size=ag/\t.led=led/\t.plain=plain/\t.dummies=#[]/\t.mask=mask/\t.place.size=c.size:=by
 obtain⟨a,e,n,h⟩:=Vf o (c.map (·.1)) (~~~i);simp only[Array.size_map]at h;have r:((ce (mask+1)).filterMap λj=>(a.getD j ac).map (j,·)).map (·.2)=a.toList.filterMap id:=by
  rw[Ea];have:(λx=>Option.map (λx:Nat×Nat=>x.2) (Option.map (λd=>(x,d)) (a.getD x ac)))=λj=>a.getD j ac:=by
   funext j;cases a.getD j ac <;> rfl
  rw[this,<-n];have g:∀(l:List (Option Nat)),(ce l.length).filterMap (λj=>l.getD j ac)=l.filterMap id:=by
   intro l
   induction l with
   |nil=>rfl
   |cons x l m=>
    rw[gH,zn,lm,DK,lm];have p:((λj=>(x::l).getD j ac) ∘ Nat.succ)=λj=>l.getD j ac:=by rfl
    rw[p,m];rfl
  have:=g a.toList;simp_all
 have s:((ce (mask+1)).filterMap λj=>(a.getD j ac).map (j,·)).length=c.size:=by rw[<-cy (f:=λx:Nat×Nat=>x.2),r];have:=h.length_eq;simpa using this
 refine⟨_,_,by unfold v8;rw[e];rfl,?_,?_,rfl,rfl,rfl,rfl,?_⟩
 .simp_all
 .unfold pG pM;simp only[eJ,cy,s];simp[i]
 simp_all
theorem Tu{b:Array (Int×af)}{a:Array Nat}(h:a.toList.Perm (ce b.size)):(a.filterMap (b[·]?)).toList.Perm b.toList:=by
 rw[Array.toList_filterMap];refine(h.filterMap _).trans ?_;have:(ce b.size).filterMap (λx=>b[x]?)=b.toList:=by
  have c:∀l:List (Int×af),(ce l.length).filterMap (λx=>l[x]?)=l:=by
   intro l
   induction l with
   |nil=>rfl
   |cons x l d=>
    rw[gH,zn,lm,DK];have f:((λj=>(x::l)[j]?) ∘ Nat.succ)=λj=>l[j]?:=by rfl
    rw[f,d];rfl
  have:=c b.toList;simp_all
 rw[this]
section
variable{P:aM}{w:aD}{s:ak}
structure BW(P:aM)(w:aD)(h:ax)(a:ab)(ks:List Str)(es:Array (Int×af))(ep:Nat)(t:b9)(ss:List Str):Prop where
 at_:h.get? a=aa {cls:=.type "set",dict:=ac,data:=.set es ep t}
 texts:bR (es.toList.map (·.2)) ss
 perm:ss.Perm ks
 el:ElemsOf (cn P w) es.toList
 sz:es.size<4090
 fits:t.fits es.size=ag
 led:t.led=(!cR w)
 plain:t.plain=ai
 dum:t.dummies=#[]
 mask:7<=t.mask
theorem BW.toS(x:BW P w h a c d f t b):bB P w h a c :=⟨d,f,t,b,x.at_,x.texts,x.perm,x.el,x.sz,x.fits,x.led,λ_=>x.plain⟩
theorem bB.len{h:ax}{a:ab}{c:Array (Int×af)}(g:bR (c.toList.map (·.2)) b)(f:b.Perm d):d.length=c.size:=by
 have j:=f.length_eq;have i:b.length=c.size:=by rw[<-g.strs];simp
 lia
theorem Vl(S:bB P w s.heap a F)(h8:8<=F.length)(hk:F.length<4000)(h:∀h' d ep t L,BW P w h' s.heap.objs.size F d ep t L->(∀b o,s.heap.get? b=aa o->h'.get? b=aa o)->Q (.ref s.heap.objs.size) {s with heap:=h'}):ao (ar P w) A (Builtin.Frozenset.copyOf a) Q E s:=by
 obtain⟨d,ep,t,L,ho,Z,X,fk,u,hf,fM,cp⟩:=id S.ex;have klen:=bB.len (h:=s.heap) (a:=a) Z X;have b7:a≠s.heap.objs.size:=cr (bu ho);have zP:t.plain=ai:=cp λz=>by rw[z]at h8;trivial
 unfold Builtin.Frozenset.copyOf K1;refine aj (aj (rO S.ty zx (aq ?_)));rw[if_pos rfl];unfold newSet oq;refine aj (aj (aj (lv (aq ?_))));dsimp only;simp only[newObj];refine aj (D1 (aq ?_));refine aj (aq ?_);generalize j:(SetTable.fresh 0 0 _:b9)=t0;have H:t0.mask=7:=by rw[<-j];rfl
 have G:t0.place=#[]:=by rw[<-j];rfl
 have J:t0.dummies=#[]:=by rw[<-j];rfl
 have I:t0.led=(!cR w):=by rw[<-j];rfl
 have p:∀b o,s.heap.get? b=aa o->(s.heap.push {cls:=.type "set",data:=.set #[] 0 t0}).get? b=aa o:=λb o e=>bi _ e;have B:(s.heap.push {cls:=.type "set",data:=.set #[] 0 t0}).get? s.heap.objs.size=aa {cls:=.type "set",dict:=ac,data:=.set #[] 0 t0}:=bU _ rfl;have rZ:=p a _ ho;generalize s.heap.push {cls:=.type "set",data:=.set #[] 0 t0}=h1 at p B rZ;unfold setMerge;refine aj ?_;refine fK (λg=>absurd (show(s.heap.objs.size == a)=ag from g) ⋯) (λ_=>?_);refine aj (fX (s:={s with heap:=h1}) rZ rfl hf ?_);dsimp only;refine fK (λg=>by
  have g:d.isEmpty=ag:=g;rw[Array.isEmpty_iff]at g;have:d.size=0:=by rw[g];rfl
  simp_all) (λ_=>?_)
 obtain⟨q,hq,bc,hle,oJ⟩:=Uk (d.size*2) ∅;have n:∀{QQ:Unit->ak->Prop},(∀l (f:b9),l.get? s.heap.objs.size=aa {cls:=.type "set",dict:=ac,data:=.set #[] 1 f}->f.mask=lY (d.size*2)-1->f.place=#[]->f.dummies=#[]->f.led=(!cR w)->eG s.heap.objs.size h1 l->QQ () {s with heap:=l}) ->
   ao (ar P w) A (setRoomFor s.heap.objs.size d.size) QQ E {s with heap:=h1}:=λ{QQ} oK=>by
  have C:t0.fits (#[]:Array (Int×af)).size=ag:=by unfold pG pM;rw[G,J,H];rfl
  unfold setRoomFor;refine aj (fX (s:={s with heap:=h1}) B rfl C ?_);have EL:t0.roomFor d.size=aa (d.size*2):=by
   unfold SetTable.roomFor pM
   grind
  dsimp only;rw[EL];show ao _ _ (setRelay s.heap.objs.size (d.size*2)) _ _ _;unfold setRelay;refine aj (fX (s:={s with heap:=h1}) B rfl C ?_);dsimp only;refine fK (λg=>absurd (show lY (d.size*2) > bh from g) (Nat.not_lt.mpr (ig (qB ∅)))) (λ_=>?_);obtain⟨f,c,W,l2,l3,l4,l5,O,l7,l8⟩:=GU (mask:=lY (d.size*2)-1) (q:=q) (finger:=t0.finger) (moves:=t0.movedTo (lY (d.size*2)-1)) (led:=t0.led) (plain:=t0.plain) ∅ #[] (gW _);have T:t0.relaid ((#[]:Array (Int×af)).map (·.1)) (d.size*2)=aa (f,c):=W;rw[T];have Y:c=#[]:=by simp_all
  subst Y;refine aj (eU (Q:=λr y=>r=((#[]:Array (Int×af)),f)/\y={s with heap:=h1}) (E:=E) ?_ (λr y N=>?_) (λ_ _ x=>x))
  .exact aq ⟨rfl,rfl⟩
  .obtain⟨rfl,rfl⟩:=N;refine pC (s:={s with heap:=h1}) B rfl ?_ (gW _);refine oK _ f (bB.put B) l7 (by have:=l8;simpa using this) O (l4.trans I) (iI ..)
 refine aj (n λl f D g2 g3 g4 g5 g6=>?_);have oF:f.fits (#[]:Array (Int×af)).size=ag:=by unfold pG pM;rw[g3,g4];rfl
 refine aj (fX (s:={s with heap:=l}) D rfl oF ?_);dsimp only;have wo:15<=f.mask:=by rw[g2];lia
 have v:f.road t=.slotForSlot/\f.mask=t.mask/\t.dummies=#[]\/f.road t=.clean:=by
  unfold SetTable.road pM
  grind
 have m:∀{h3:ax},eG s.heap.objs.size l h3->∀b o,s.heap.get? b=aa o->h3.get? b=aa o:=λ{h3} sb b o e=>by have hb:b≠s.heap.objs.size:=cr (bu e);exact(sb.2 b hb).trans ((g6.2 b hb).trans (p b o e))
 rcases v with⟨v,hm1,g_⟩|v
 .rw[v];dsimp only;refine pC (s:={s with heap:=l}) D rfl ?_ (rK (gG u (by decide)));refine aq (h _ d 2 _ L ⟨bB.put D,Z,X,fk,u,hf,?_,?_,g_,?_⟩ (m (iI ..)))
  all_goals lia
 .rw[v];dsimp only;obtain⟨t3,c,W,l2,l3,l4,l5,O,l7,l8⟩:=GU (mask:=f.mask) (q:=q) (finger:=f.finger) (moves:=f.moves) (led:=f.led&&t.led) (plain:=f.plain&&t.plain) (by lia) d (by rw[g2];lia);rw[W];have M:=Tu l2;have i:(c.filterMap (d[·]?)).size=d.size:=by have:=M.length_eq;omega
  refine aj (eU (Q:=λr y=>r=(c.filterMap (d[·]?),t3)/\y={s with heap:=l}) (E:=E) ?_ (λr y N=>?_) (λ_ _ x=>x))
  .refine fK (λg=>absurd (show((c.filterMap (d[·]?)).size != d.size)=ag from g) (by rw[i];simp)) (λ_=>aq ⟨rfl,rfl⟩)
  .obtain⟨rfl,rfl⟩:=N;refine pC (s:={s with heap:=l}) D rfl ?_ (rK (gG (by rw[i];trivial) (by decide)));obtain⟨aO,u1,u2⟩:=uH (M.map (λe:Int×af=>e.2)) Z;refine aq (h _ _ 2 t3 aO ⟨bB.put D,u1,u2.trans X,fk.perm M,by rw[i];exact u,by rw[i];exact l3,?_,?_,O,?_⟩ (m (iI ..)))
   all_goals lia
end
theorem N3:entryFor table "set.__sub__"=aa Builtin.«frozenset.__sub__»:=D7 (id':="frozenset.__sub__") (by kernel_rfl) rfl (by decide +kernel) (by kernel_rfl)
section
variable{s:ak}
theorem Vx{id:String}{l:Nat}{Q:PUnit->ak->Prop}(Sk:bB P w s.heap a q) (Sl:bB P w s.heap c j) (R:bB P w s.heap r []) (T:a≠r) (h2:c≠r) (nk:q.Nodup) (hk:q.length<4000) (W:p9 P w q n)(hw:∃H t,s.heap.get? a=aa {cls:=.type "set",dict:=ac,data:=.set H l t}/\t.fits H.size=ag)(h:∀d,eG r s.heap d->bB P w d r (q.filter (·∉j))->Q ⟨⟩ {s with heap:=d}):ao (ar P w) A (forIn n PUnit.unit λx __s=>do
    kl [x.snd] (do
     let f <-setFind c x.snd x.fst
     let there <-pure f.isSome
     if(!there)=ag then do
      let _ <-tR r x.snd x.fst
      pure ()
     else pure ())
    rR id a l
    pure (ForInStep.yield PUnit.unit)) Q E s:=by
 obtain⟨u,e1,e2,N⟩:=W.ex;have ns:u.Nodup:=N.nodup_iff.mpr nk;have M:∀{L:List Str},L=u->(L.filter (·∉j)).Perm (q.filter (·∉j)):=λ{L} e=>by subst e;exact N.filter _
 refine K0 _ (λrest _ p=>∃d i g,p={s with heap:=d}/\u=i++g/\rest.map (λe=>e.1)=g.map (cn P w).hash/\bR (rest.map (·.2)) g/\eG r s.heap d/\bB P w d r (i.filter (·∉j))) Q ?_ ?_ n _ ⟨s.heap,[],u,rfl,rfl,e1,e2,pB r s.heap,R⟩
 .rintro⟨hx,x⟩ rest _ p ⟨d,i,g,rfl,v,D,C,B,J⟩;cases g with
  |nil=>exact absurd C.length (by simp)
  |cons y g=>
   rw[cN,cN,t5]at D;obtain⟨f0,D⟩:=D;obtain rfl:hx=(cn P w).hash y:=f0;cases C with
   |cons _ tk C=>
    have O:bB P w d c j:=Sl.at λo e=>(B.2 c h2).trans e;have nd:=ns;rw[v]at nd;have hy:y∉i:=λG=>by
     grind
    have bo:(i.filter (·∉j)).length<4000:=by
     have q1:=Eh (λz=>decide (z∉j)) i;have q2:=N.length_eq
     grind
    have stay:∀m,eG r d m->bB P w m r ((i++[y]).filter (·∉j))->∀{S:ForInStep PUnit->ak->Prop},(∀p,(∃d i g,p={s with heap:=d}/\u=i++g/\rest.map (λe=>e.1)=g.map (cn P w).hash/\bR (rest.map (·.2)) g/\eG r s.heap d/\bB P w d r (i.filter (·∉j)))->S (.yield PUnit.unit) p) ->
      ao (ar P w) A (do
      rR id a l
      pure (ForInStep.yield PUnit.unit)) S E {s with heap:=m}:=λm I R2 S Z=>by
     obtain⟨H,t,X,Y⟩:=hw;have iK:m.get? a=aa {cls:=.type "set",dict:=ac,data:=.set H l t}:=(I.2 a T).trans ((B.2 a T).trans X);unfold rR;refine aj (aj (tU (s:={s with heap:=m}) iK rfl Y ?_));refine fK (λhc=>absurd hc (by simp)) (λ_=>aq (aq ?_));exact Z _ ⟨m,i++[y],g,rfl,by rw[v];simp,D,C,B.trans I,R2⟩
    refine aj (d_ (aj (FB (s:={s with heap:=d}) O λr' F=>?_)));refine aj (aq ?_);by_cases G:y∈j
    .rw[decide_eq_true G]at F;rw[if_neg (by rw[F];decide)];refine aq (stay d (pB r d) ?_ λ_ z=>z);rw[Ei];simpa[G]using J
    .rw[decide_eq_false G]at F;rw[if_pos (by rw[F];rfl)];refine aj (AC (s:={s with heap:=d}) J bo λm b I R2=>aq (stay m I ?_ λ_ z=>z));have:iP (i.filter (·∉j)) y=(i++[y]).filter (·∉j):=by unfold iP;simp_all
     rw[<-this];trivial
 .rintro _ p ⟨d,i,g,rfl,v,D,C,B,J⟩;cases g with
  |cons y g=>simp_all
  |nil=>rw[jU]at v;exact h d B (J.perm (M v.symm))
theorem yW(a:Array b)(i:Nat):(oz a i).toList=a.toList.eraseIdx i:=by unfold oz;rw[El,K4,K4,List.eraseIdx_eq_take_drop_succ];simp[List.extract];exact oa (by simp)
theorem Jj:∀{a:List af}{b:List Str} (i:Nat),bR a b->bR (a.eraseIdx i) (b.eraseIdx i)
 |_,_,i,.nil=>~~~StrsAre.nil
 |_,_,0,.cons y t h=>by trivial
 |_,_,i+1,.cons y t h=>by simpa using StrsAre.cons y t (Jj i h)
theorem Ji:∀{a:List Str}{i:Nat}{x:Str},a.Nodup->a[i]?=aa x->a.eraseIdx i=a.filter (·≠x)
 |[],i,x,_,h=>by rfl
 |y::a,0,x,nd,h=>by simp at h;subst h;have b:=(lr.mp nd).1;rw[List.eraseIdx_cons_zero,List.filter_cons_of_neg (by simp)];exact(Em.mpr λz d=>by lia).symm
 |y::a,i+1,x,nd,h=>by
  have c:a[i]?=aa x:=by trivial
  have b:=lr.mp nd;have f:x∈a:=mM c;rw[D_,List.filter_cons_of_pos (by lia),Ji b.2 c]
theorem Rs(X:BW P w s.heap r C a u t m)(nk:C.Nodup)(h:∀G b (p:Array (Int×af)) (f:b9) ep',eG r s.heap G->bB P w G r (C.filter (·≠x))->G.get? r=aa {cls:=.type "set",dict:=ac,data:=.set p ep' f}->f.fits p.size=ag->f.dummies.size<=1->7<=f.mask->Q b {s with heap:=G}):ao (ar P w) A (setDiscardHashed r (.str x L) ((cn P w).hash x)) Q E s:=by
 obtain⟨c,F,D,H,n,d,fM,cp,LB,wo⟩:=X;have ns:m.Nodup:=D.nodup_iff.mpr nk;have mU:(cn P w).is x (.str x L)=ag:=by rw[qZ];simp
 have hb:a.size<scanBound:=gG n (by decide);unfold setDiscardHashed;refine aj ?_;unfold setFind setFindIn;refine aj (fX c rfl d ?_);dsimp only;rw[byScan_of (knd:=cn P w) (x:=.str x L) rfl hb H];simp only[if_true];refine aj (lu (aj (KH mU c rfl d H ?_)));cases hr:List.findIdx? (λe=>(cn P w).is x e.2) a.toList with
 |some i=>
  obtain⟨hi,wI,_⟩:=D6.mp hr;refine aq ?_;dsimp only;simp only[ou];have iq:i<a.size:=by trivial
  have S:m[i]?=aa x:=by
   have e1:(a.toList.map (·.2))[i]?=aa a.toList[i].2:=by rw[cT,eh hi];rfl
   have W:∀{J:List af}{I:List Str} (j:Nat) (v:af),bR J I->J[j]?=aa v->(cn P w).is x v=ag->I[j]?=aa x:=by
    intro J I j v hh
    induction hh generalizing j with
    |nil=>intro e _;simp at e
    |cons y f _ O=>
     intro e q;cases j with
     |zero=>simp at e;subst e;rw[qZ]at q;have:y=x:=of_decide_eq_true q;subst this;rfl
     |succ j=>simpa using O j (by trivial) q
   exact W i _ F e1 wI
  refine aj (fX c rfl d ?_);dsimp only;have N:t.place.size=a.size:=by unfold pG at d;simp_all
  have wq:t.fill<=t.mask:=by unfold pG at d;simp_all
  have o:t.place[i]?=aa t.place[i]:=jY (by rw[N];trivial);have Y:(oz a i).size=a.size-1:=by rw[<-iF,yW,List.length_eraseIdx,if_pos hi,iF]
  have M:(oz t.place i).size=a.size-1:=by rw[<-iF,yW,List.length_eraseIdx,if_pos (by rw[iF,N];trivial),iF,N]
  have g:t.drop i={t with place:=oz t.place i,dummies:=pA t.dummies (jn t.dummies t.place[i]) t.place[i]}:=by unfold SetTable.drop;rw[o]
  have Z:(t.drop i).dummies.size=1:=by rw[g,LB];rfl
  have LC:(t.drop i).fits (oz a i).size=ag:=by unfold pG pM;rw[Z,Y];rw[g];simp only[M,beq_self_eq_true,Bool.true_and,decide_eq_true_eq];show a.size-1+1<=t.mask;unfold pM at wq;lia
  refine aj (pC c rfl ?_ (rK (gG (show(oz a i).size<4090 by lia) (by decide))));refine aj (wpAny_point (aq ?_));have B:(s.heap.update r (zw (oz a i) (t.drop i))).get? r=aa {cls:=.type "set",dict:=ac,data:=.set (oz a i) (u+1) (t.drop i)}:=bB.put c;refine h _ _ (oz a i) (t.drop i) (u+1) (iI ..) ⟨_,_,_,m.eraseIdx i,B,?_,?_,?_,∅,LC,by rw[g];trivial,λ_=>by rw[g];exact cp⟩ B LC ∅ (by rw[g];trivial)
  .have em:∀(l:List (Int×af)) (j:Nat),(l.eraseIdx j).map (·.2)=(l.map (·.2)).eraseIdx j:=by
    intro l
    induction l with
    |nil=>intro j;rfl
    |cons x l O=>intro j;cases j with|zero=>rfl|succ j=>simp[O]
   rw[yW,em];exact Jj i F
  .rw[Ji ns S];exact D.filter _
  .rw[yW];exact λe T=>H e (List.mem_of_mem_eraseIdx T)
 |none=>
  refine aq ?_;dsimp only;have hx:x∉C:=λhm=>by have g_:=D.mem_iff.mpr hm;obtain⟨f,q⟩:=(yt F x).mp g_;obtain⟨e,T,ee⟩:=cX.mp q;have:=List.findIdx?_eq_none_iff.mp hr e T;rw[ee,qZ]at this;simp at this
  refine aq (h s.heap _ a t u (pB ..) ?_ c d (by rw[LB];simp) wo);rw[Em.mpr λz hz=>by lia];exact⟨a,u,t,m,c,F,D,H,n,d,fM,λ_=>cp⟩
theorem MV(iJ:a≠b)(m:bB P w s.heap a l)(u:bB P w s.heap b [g])(nk:l.Nodup)(hk:l.length<4000)(h:∀q,bB P w q s.heap.objs.size (l.filter (·≠g))->(∀c o,s.heap.get? c=aa o->q.get? c=aa o)->Q (.ref s.heap.objs.size) {s with heap:=q}):ao (ar P w) A (gR .Sub (.ref a) (.ref b)) Q E s:=by
 refine wpAny_binaryOp_same (T:="set") (id:="set.__sub__") m.ty u.ty F.fills_set_sub F.slot_set_sub ?_;refine jm F.slot_set_sub m.ty N3 ?_ (F.args_set_sub_2 _ _);unfold Builtin.«frozenset.__sub__»;refine aj (aj (aq (aq ?_)));dsimp only;refine aj (aj (qf m ?_));refine(qf u ?_);refine fK (λd=>absurd d (by simp)) (λ_=>?_);refine aj (aq (aj ?_));unfold Builtin.Frozenset.difference;refine aj (qf u ?_);simp only[mS,fh,if_false,Bool.false_and,if_true];have lt:∀{c:ab}{zs:List Str},bB P w s.heap c zs->c≠s.heap.objs.size:=λ{c zs} S=>by obtain⟨_,_,_,_,e,_⟩:=S.ex;exact cr (bu e)
 have x:∀q,bB P w q s.heap.objs.size (l.filter (·≠g))->(∀c o,s.heap.get? c=aa o->q.get? c=aa o)->ao (ar P w) A.in1 (pure (Value.ref s.heap.objs.size)) (λa s'=>ao (ar P w) A.in1 (ret a) (λfin s'=>∃v,fin=Fin.done (Flow.ret v)/\v≠Value.notImplemented/\Q v s') E s') E {s with heap:=q}:=λq S k=>aq (aq ⟨_,rfl,(by simp),h q S k⟩);refine aj (aq ?_);refine aj (sF u ?_);refine aj (sF m ?_);refine fK (λd=>?_) (λd=>?_)
 .have hk8:8<=l.length:=by simp at d;lia
  refine aj (lu ?_);refine aj (Vl m hk8 hk λf es ep t ss X D=>?_);refine aj (aq ?_);refine aj (d_ ?_);have j:bB P w f b [g]:=u.at λo e=>D _ _ e;have hb:=lt u;unfold Builtin.Frozenset.differenceUpdate;refine fK (λd=>absurd (show(Value.ref b == Value.ref s.heap.objs.size)=ag from d) (by simp;trivial)) (λ_=>?_);refine aj (qf (s:={s with heap:=f}) j ?_);simp only[if_true];refine aj (aq ?_);refine aj (sF (s:={s with heap:=f}) j ?_);refine aj (sF (s:={s with heap:=f}) X.toS ?_);refine fK (λd=>absurd (show([g].length / 8 > l.length)from d) (by simp)) (λ_=>?_);obtain⟨N,J,M,sb,L,hSb,hpb,helb,hszb,y,hledb,hplb⟩:=id j.ex;refine aj (tU (s:={s with heap:=f}) L rfl y ?_);refine aj (d_ ?_);have lb:N.size=1:=(bB.len (h:=f) (a:=b) hSb hpb).symm;have GW:∀{QQ:Array (Int×af)->ak->Prop},(∀i,p9 P w [g] i->QQ i {s with heap:=f})->ao (ar P w) A.in1 (zH b [s.heap.objs.size] ac) QQ E {s with heap:=f}:=λ{QQ} oK=>by unfold zH;refine aj (fX (s:={s with heap:=f}) L rfl y ?_);unfold oq;dsimp only;refine aj (aj (lv (aq ?_)));refine fK (λ_=>?_) (λd=>absurd (show(cR w||(M.led&&M.plain)||decide (N.size<=1))=ag by rw[lb];simp) d);exact Ju (s:={s with heap:=f}) j (.inr ⟨N,J,M,L,.inr ∅⟩) oK
  refine aj (GW λi W=>?_);obtain⟨aO,O,e2,e3⟩:=W.ex;obtain rfl:aO=[g]:=List.perm_singleton.mp e3;obtain⟨Y,H⟩:∃Y,i.toList=[((cn P w).hash g,.str g Y)]:=by
   cases hl:i.toList with
   |nil=>rw[hl]at O;trivial
   |cons p r=>
    rw[hl]at O e2;obtain⟨hx,v⟩:=p;cases r with
    |cons=>simp at O
    |nil=>
     simp only[cN,rC,t5,and_true]at O;cases e2 with
     |cons _ Y n=>grind
  rw[<-wj,H,List.forIn_cons];refine aj (aj (aj (d_ (Rs (s:={s with heap:=f}) X nk λn bb es' t' ep' B S2 at2 I dm mk=>?_))));have G:n.get? b=aa {cls:=.type "set",dict:=ac,data:=.set N J M}:=(B.2 b hb).trans L;unfold rR;refine aj (aj (tU (s:={s with heap:=n}) G rfl y ?_));refine fK (λd=>absurd d (by simp)) (λ_=>aq (aq ?_));dsimp only;rw[List.forIn_nil];refine aq (aq ?_);unfold setTidy;refine aj (fX (s:={s with heap:=n}) at2 rfl I ?_);dsimp only;refine fK (λd=>absurd (show t'.tooManyDummies=ag from d) ?_) (λ_=>aq ?_)
  .unfold SetTable.tooManyDummies;lia
  .exact x n S2 λc o e=>(B.2 c (cr (bu e))).trans (D c o e)
 .have Q1:=m;unfold K1;refine aj (aj (rO m.ty zx (aq ?_)));rw[if_pos rfl];refine aj (GC λf R k1 z1=>?_);have C:bB P w f a l:=m.at λo e=>k1 _ _ e;have j:bB P w f b [g]:=u.at λo e=>k1 _ _ e;refine aj (aq ?_);obtain⟨es,ep,t,ss,ho,hS,fj,fk,hsz,hf,fM,cp⟩:=id C.ex;refine aj (tU (s:={s with heap:=f}) ho rfl hf ?_);refine aj (d_ ?_);refine aj (Go (s:={s with heap:=f}) C R (λc d=>?_) λn i B R2 W=>?_)
  .grind
  have Sa2:bB P w n a l:=C.at λo e=>(B.2 _ (lt m)).trans e;have Sb2:bB P w n b [g]:=j.at λo e=>(B.2 _ (lt u)).trans e;refine aj (Vx (s:={s with heap:=n}) Sa2 Sb2 R2 (lt m) (lt u) nk hk W ⟨es,t,(B.2 _ (lt m)).trans ho,hf⟩ λh3 Z R3=>?_);have e:l.filter (·∉[g])=l.filter (·≠g):=K2 λz _=>by simp
  refine aq (x h3 (e ▸ R3) λc o e=>?_);have d:c≠s.heap.objs.size:=cr (bu e);exact(Z.2 c d).trans ((B.2 c d).trans (k1 c o e))
end
section
def mG(a:List Tx)(x:Tx):List Tx:=a.filter λz=>decide (z≠x)
theorem Rj(a:List Tx)(x:Tx):(a.map tS).filter (λz=>decide (z≠tS x))=(mG a x).map tS:=by unfold mG;rw[List.filter_map];congr 1;refine K2 λz _=>?_;simp only[wd];congr 1;exact propext ⟨λh e=>h (by rw[e]),λh e=>h (qx e)⟩
theorem L5:cj X (gR .Sub) (λx y H Q=>∃(p q:ab) (b:List Tx) (m:Tx),x=.ref p/\y=.ref q/\p≠q/\H p=aa (cY X p b)/\H q=aa (cY X q [m])/\b.Nodup/\b.length<4000 /\ ∀a,H a=ac->Q (.ref a) (upd H a (cY X a (mG b m)))):=by
 intro J s z H x y v u Q I g f h;obtain⟨p,q,b,m,rfl,rfl,d,r,n,l,B,k⟩:=h;cases g;cases f;obtain⟨Sp,_,_⟩:=(show bN X.prog X.w H s.heap p (cY X p b)from I.hok p _ r)
 obtain⟨w,_,_⟩:=(show bN X.prog X.w H s.heap q (cY X q [m])from I.hok q _ n)
 refine MV d Sp w (CH l) (by rw[cy];trivial) λE S c=>?_;rw[Rj]at S;refine⟨.ref s.heap.objs.size,_,I.laid (t':=s.toks) (o:=cY X s.heap.objs.size (mG b m)) c (a_ _) ?_,rfl,k _ I.fresh⟩;obtain⟨F,G,t,A,e,_⟩:=S.ex;exact⟨S,⟨_,e⟩,λD C j i=>j.at i⟩
end
end L2
namespace Pu
open L2
section
variable{X:Cx}{m f:ad (List PV)}
def Iq(m f:ad (List PV)):ad PO:=λc=>(m c).bind λh a=>(aW (mH h) a).bind λi a=>(f a).bind λd b=>match d with
 |[.lst [.str t]]=>.ok (.lst (a6 (b_ (mG i t)))) b
 |_=>.no
theorem QA(hc:X.calm=ag)(ha:DA X E [e] m)(hb:DA X E [s] f)(hm:X.mg "sorted"=ac)(g_:X.mg "set"=ac)(hg:Gl X "sorted"^0)(kE:Gl X "set"^0)(h:(jj e=ai)^0)(h2:(jj s=ai)^0):DN X E (.Call (.Name "sorted" p) [.BinOp (.Call (.Name "set" q) [e] [] j) .Sub (.Call (.Name "set" n) [s] [] g) u] [] r) (Iq m f):=λF S ε L H Q rl h'=>by
 refine bT (jQ (BC hc) hg hm jL (fU (zY L5 (lO (uN hc) kE g_ oV eC (by decide) (by rfl) (dA h) rfl) (lO (uN hc) kE g_ oV eC (by decide) (by rfl) (dA h2) rfl)) gM (dA rfl)) (by decide) (by rfl) (dA rfl) rfl) ?_;refine ha F S ε L H _ rl ((Ok.bind h').imp λxs B P M H1 r1 g1 Y vs f9=>?_);cases e1:mH xs with
 |none=>rw[e1]at Y;trivial
 |some ls=>
  rw[e1]at Y;obtain⟨p,v,rfl,hp,Z,rfl,hx⟩:=xJ f9 e1;refine⟨p,v,rfl,hp,gG Z (by decide),λa fa=>?_⟩;have A:Al P P H1 (upd H1 a (cY X a (bP v))):=Al.new0 fa;have n:Ok X.K E L P M H1 ((f B).bind λT y=>match T with
   |[.lst [.str t]]=>R.ok (PO.lst (a6 (b_ (mG (bP v) t)))) y
   |_=>.no) _:=Y
  have q3:=Ok.from n (A.grow (O:=U M));refine hb P M B L _ _ (r1.al A) ((Ok.bind q3).imp λT y N S2 J W g2 q4 vs2 D=>?_);have hys:∃t,T=[.lst [.str t]]:=by
   revert q4;split
   .exact λ_=>⟨_,rfl⟩
   .exact λz=>z.elim
  obtain⟨t,rfl⟩:=hys;have q5:Ok X.K E L N S2 J (R.ok (PO.lst (a6 (b_ (mG (bP v) t)))) y) _:=q4;have elt:mH [.lst [.str t]]=aa [t]:=by rfl
  obtain⟨p2,C,rfl,fi,wU,hu2,pX⟩:=xJ D elt;have na:¬U M a:=λ⟨i,z⟩=>by obtain⟨_,_,o,w,_⟩:=r1.foot i a z;lia
  have ha2:J a=aa (cY X a (bP v)):=g2.keep a _ upd_same na;refine⟨p2,C,rfl,fi,gG wU (by decide),λb fb=>?_⟩;have iJ:a≠b:=by lia
  refine⟨a,b,bP v,t,rfl,rfl,iJ,by rw[aU iJ];trivial,by rw[upd_same,<-hu2],Ch _,gG Z (by decide),λc fc=>?_⟩;have bo:(mG (bP v) t).length<64:=pt (Eh _ _) Z;refine⟨c,_,rfl,upd_same,bo,λl G=>?_⟩;have I:Al N N J (upd (upd (upd J b (cY X b (bP C))) c (cY X c (mG (bP v) t))) l (.lst (bz (b_ (mG (bP v) t))))):=((Al.new0 fb).trans (Al.new0 fc)).trans (Al.new0 G);have kD:J l=ac:=by
   have h1:l≠c:=by rintro rfl;rw[upd_same]at G;trivial
   rw[aU h1]at G;have h2:l≠b:=by rintro rfl;rw[upd_same]at G;trivial
   rwa[aU h2]at G
  refine q5 N S2 _ (W.al I) I.grow l (λc=>c=l) ⟨⟨_,upd_same,Ws.mpr ⟨rfl,λx gZ=>hx x ((sL _ _).mp (y8.mp ((nt _).mem_iff.mp gZ)).1)⟩⟩,λc=>i5⟩ λd z=>?_;subst z;refine⟨jv (g1.trans (A.grow.trans g2)) kD,λz=>?_,λ⟨i,z⟩=>?_,_,upd_same,trivial⟩
  .obtain⟨o,w⟩:=W.ex _ z;lia
  .obtain⟨_,_,o,w,_⟩:=W.foot i _ z;lia
end
noncomputable def sS:List PV->Option PV
 |[.int i,.int j]=>aa (.int (if j > i then j else i))
 |_=>ac
theorem Gs{K:aw}:PL K (λa H Q=>∃i j,a=[.int i,.int j]/\Q (.int (if j > i then j else i)) H) sS:=λF H a g Q pv b e q=>by
 unfold sS at e;split at e
 .cases e;obtain⟨v,h,rfl,f,d⟩:=b;obtain⟨u,rfl,c⟩:=dH d;exact⟨_,_,by rw[show v=V.int _ from f,show u=V.int _ from c],q _ F H (Al.refl ..) rfl⟩
 trivial
end Pu
namespace L2
section
theorem Inv.recast(I:Inv X f d H s)(e:H a=aa p)(N:∀j,p≠.tup j)(M:∀o u,X.H₀ a≠aa (.frz o u))(L:∀l,p≠.tbl l)(J:∀x,p≠.own x)(new:bN X.prog X.w (upd H a q) s.heap a q):Inv X f d (upd H a q) s:=by
 have i:∀b,H b=ac->(upd H a q) b=ac:=λb m=>by rw[aU (by lia)];trivial
 refine⟨I.ok,I.os,I.bare,⟨I.base.keep,I.base.slot,λb o h n A=>i b (I.base.free b o h n A),I.base.there,λb j h=>?_,λb o u h=>?_,λb l h=>?_⟩,I.loc,I.cell,i _ I.free,λx c h=>i _ (I.freeC x c h),λp B=>?_,λb u m=>?_,I.len⟩
 .have z:=I.base.tups b j h;rw[aU (by grind)];exact z
 .have z:=I.base.frzs b o u h;rw[aU (by grind)];exact z
 .have z:=(I.base.tbls b l h).1;refine⟨by rw[aU (by grind)];exact z,λc y D g=>?_⟩;obtain⟨C,O⟩:=(I.base.tbls b l h).2 c y D g;exact⟨C,by rw[aU (by grind)];trivial⟩
 .obtain⟨G,F,E⟩:=I.pin p B;exact⟨G,i _ F,E⟩
 .by_cases w:b=a
  .subst w;rw[upd_same]at m;lia
  .rw[aU w]at m;refine(I.hok b u m).stay (λc v _ r=>r) (λc r=>?_) λc j r=>?_
   .rw[aU (by grind)];exact r
   .rw[aU (by grind)];exact r
def mj(o:Obj):Nat:=match o.data with
 |.dict _ ep=>ep
 |_=>0
theorem Do{h:ax}(g:h.get? a=aa o)(k:bN P w H h a (.dK b)):(a == iE)=ai/\∃c,KV b c/\h.DictAt (gB P w) a c (mj o):=by
 obtain⟨_,m,c,j,u,p,q,i,l,n,r⟩:=k;rw[g]at i;cases i;refine⟨m,c,j,o,p,g,l,?_,r⟩;have:mj o=q:=by unfold mj;rw[n]
 lia
theorem Inv.freeze(I:Inv X f d H s)(e:H a=aa (.dK b)):∃o,s.heap.get? a=aa o/\Inv X f d (upd H a (.frz o (.dK b))) s:=by
 have k:bN X.prog X.w H s.heap a (.dK b):=I.hok a _ e;obtain⟨z,i,g,h,o,j,l,c,r⟩:=id k;refine⟨o,c,I.recast e (λ_ q=>by cases q) (λo u q=>?_) (λ_ q=>by cases q) (λ_ q=>by cases q) ⟨c,⟨z,i,g,h,o,j,l,c,r⟩⟩⟩;have:=I.base.frzs a o u q;lia
theorem Inv.thaw(I:Inv X f d H s)(e:H a=aa (.frz o (.dK b)))(i:∀o u,X.H₀ a≠aa (.frz o u)):Inv X f d (upd H a (.dK b)) s:=by
 obtain⟨j,z,h,c,g,r⟩:=(show bN X.prog X.w H s.heap a (.frz o (.dK b))from I.hok a _ e)
 exact I.recast e (λ_ q=>by cases q) i (λ_ q=>by cases q) (λ_ q=>by cases q) ⟨z,h,c,g,r⟩
end
theorem KV.at(h:KV kvs vs){i:Nat}{p:aF×V}(e:kvs[i]?=aa p):∃q,vs[i]?=aa q/\p.1=q.1/\RelV p.2 q.2:=by
 unfold KV at h
 induction h generalizing i with
 |nil=>trivial
 |cons r _ a=>
  cases i with
  |zero=>simp at e;subst e;exact⟨_,rfl,r⟩
  |succ i=>exact a (by trivial)
theorem KV.len{vs:List (aF×af)}(h:KV a vs):a.length=vs.length:=by
 unfold KV at h
 induction h with
 |nil=>rfl
 |cons _ _ b=>simp[b]
theorem KV.keysD{b:List (aF×af)}(h:KV a b):a.map (·.1)=b.map (·.1):=by
 unfold KV at h
 induction h with
 |nil=>rfl
 |cons r _ c=>simp[c,r.1]
end L2
namespace Pu
open L2
section
variable{X:Cx}{g:List Nat}{c:au}{de f j:ad PV}
def yr(i:Nat):ad PV:=λa=>(aW (dW a i) a).bind λh a=>.ok (.int (h.length:Nat)) a
theorem Jt(i:Nat)(u:X.mg "len"=ac)(A:(X.N[i]?=aa y)^0)(D:cO X.env.scope y^2)(x:av y^1) (G:a4 y^1) (w:Gl X "len"^0)(n:(aV [.Name y l] X.env=(ai,aS (.Name y l) X.env)::aV [] X.env)^0) (C:((c8 d (aV [] X.env)).any (·.1)=ai)^0):DE X E (.Call (.Name "len" p) [.Name y l] [] d) (yr i):=λF S o I H Q r h=>by
 unfold yr at h;cases m:dW o i with
 |none=>rw[m]at h;exact h.elim
 |some s=>rw[m]at h;obtain⟨a,q,B,z,v,_⟩:=r.dkAt (lc m);refine bT (jQ Oz w u rfl (fU (dR A D x G) gM n) (by decide) (by rfl) n C) ⟨_,B,a,q,rfl,z,?_⟩;rw[v.len];exact h F S H r (bI.refl ..) _ rfl
def nz(h:Bool)(i:Nat)(f:ad PV):ad PV:=λm=>(f m).bind λk a=>(aW (dW a i) a).bind λl a=>aW ((jh k).map λk=>.bl (h^^(mq l k).isSome)) a
theorem E2(m:Bool){Q:VK}(N:DE X E b f)(J:aY X.K F S r l H)(h:Ok X.K E l F S H (nz m i f r) (λpv _ T _ C=>∀v,aT X.K C T pv v->Q v C)):ix X b l H λy n=>∃x,l[i]?=aa (aa x)/\∃a o,x=.ref a/\lF n a y o/\Q (.bl (m^^o.isSome)) n:=by
 unfold nz at h;refine N F S r l H _ J ((Ok.bind h).imp λk p D B n s W q u I=>?_);cases z:dW p i with
 |none=>rw[z]at q;trivial
 |some L=>
  rw[z]at q;simp only[cA,R.bind_ok]at q;obtain⟨a,G,P,O,M,_⟩:=s.dkAt (lc z);cases w:jh k with
  |none=>rw[w]at q;trivial
  |some A=>
   rw[w,mQ]at q;rw[sZ I w];refine⟨.ref a,P,a,gh G A,rfl,lF.k O,?_⟩;rcases M.val A with⟨x,v,h1,h2,h3⟩|⟨h1,h2⟩
   .rw[h1]at q;rw[h2];exact q D B n s (bI.refl ..) _ rfl
   .rw[h1]at q;rw[h2];exact q D B n s (bI.refl ..) _ rfl
theorem x_(i:Nat){a:Pos}(x:X.A.units+64<cLine)(o:DE X E b f)(p:(X.N[i]?=aa y)^0)(q:cO X.env.scope y^2)(n:av y^1) (r:a4 y^1) (m:(nY .In (.Name y a)=ai)^0):DT X E (.Compare b [.In] [.Name y a] d) (dB (nz ai i f)):=λF S w u H Q l h=>by refine qX (yK (QJ ∅ bL (dR p q n r)) m) ?_;have:=E2 (Q:=λv s=>∃k,v=.bl k/\Q k s) ai o l (qe h);simp only[Bool.false_xor]at this;trivial
theorem QT(i:Nat){a:Pos}(x:X.A.units+64<cLine)(o:DE X E b f)(p:(X.N[i]?=aa y)^0)(q:cO X.env.scope y^2)(n:av y^1) (r:a4 y^1) (m:(nY .NotIn (.Name y a)=ai)^0):DT X E (.Compare b [.NotIn] [.Name y a] d) (dB (nz ag i f)):=λF S w u H Q l h=>by refine qX (yK (SM ∅ bL (dR p q n r)) m) ?_;have:=E2 (Q:=λv s=>∃k,v=.bl k/\Q k s) ag o l (qe h);simp only[Bool.true_xor]at this;trivial
theorem VZ(e:H a=aa v)(m:l≠a):upd (upd (upd H a o) l u) a v=upd H l u:=by
 funext b;by_cases i:b=a
 .subst i;rw[upd_same,aU (fF m),e]
 .rw[aU i];by_cases h:b=l
  .subst h;rw[upd_same,upd_same]
  .rw[aU h,aU h,aU i]
theorem sO(x:Str):tS x.cps.toList=x:=by rfl
end
section
variable{g:List Nat}{e:au}{de d a:ad PV}
def FA(d a:ad PV):ad PO:=λj=>(d j).bind λk i=>(a i).bind λy h=>(aW (jh k) h).bind λl h=>.ok (.dK [(l,y)]) h
theorem O4(hb:DE X E b d)(hc:DE X E c a):DN X E (.Dict [aa b] [c] f) (FA d a):=λF S T L H Q x h=>by
 refine bT (Nm (HS bL bL JF) rfl rfl (by simp) (by simp)) λp C=>?_;have al:Al F F H (upd H p (.dK [])):=Al.new0 C;have nF:¬F p:=λz=>by obtain⟨o,q⟩:=x.ex p z;lia
 have nS:¬U S p:=λ⟨i,z⟩=>by obtain⟨_,_,o,q,_⟩:=x.foot i p z;lia
 have D:bI (U S) (U S) F F H (upd H p (.dK [])):=al.grow;refine hb F S T L _ _ (x.al al) ((Ok.bindB h D).imp λk r F1 S1 H1 M I h1 u W=>?_);obtain⟨e1,B,A⟩:=I.stay (upd_same:upd H p (.dK []) p=aa (.dK [])) nS nF;refine hc F1 S1 r L H1 _ M ((Ok.bindB h1 (D.trans I)).imp λy P O S2 H2 Z G n w s=>?_);obtain⟨N,l,j⟩:=G.stay e1 A B;cases J:jh k with
 |none=>rw[J]at n;exact n.elim
 |some m=>
  rw[J]at n;simp only[cA,R.bind_ok]at n;have v:aT X.K H2 O k u:=W.grow G M.fit;refine⟨N,[(m,w)],?_,by simp,?_⟩
  .rw[cN,rC,<-sZ v J]
  .rw[show tt [] [(m,w)]=[(m,w)] from rfl];obtain⟨gl,fit,Y⟩:=Z.lay (o':=.dK [(m,w)]) N trivial l j;have g3:=((D.trans I).trans G).lay (o':=.dK [(m,w)]) C;refine n O S2 _ Y g3 p (λb=>b=p) ⟨⟨_,upd_same,.cons ⟨rfl,s.grow gl fit⟩ .nil⟩,λb=>i5⟩ λb z=>?_;subst z;exact⟨C,l,j,_,upd_same,trivial⟩
end
end Pu
namespace L2
theorem OU(l:List af)(h:TriplesOk l)(e:vV d (l++[df a,df b,c])=aa f):vV d l=aa f\/f=c:=by
 fun_induction TriplesOk l with
 |case1=>simp[vV,df]at e;exact .inr e.2.symm
 |case2 n t m u x rest g=>simp only[K5,vV]at e ⊢;lia
 |case3 l j i=>exact h.elim
section
variable{X:Cx}
structure uL(X:Cx)(x:Str)(c P:ab):Prop where
 mem:x∈tm
 tab:lT X.K x=aa (c,P)
 hd:zj X.K c P=ag
 code:X.env.code=.ref c
theorem Uz(I:Inv X i d H s)(L:uL X x c P)(hq:X.env.qual++"<lambda>"=x++".<locals>.<lambda>") (pP:zk l X.env=pure w) (wz:defaultsOf j X.env=([],[]))(h:∀f c' p H' Y,Inv X i d H' Y->(∀b o,H b=aa o->H' b=aa o)->Y.heap.get? f=aa (En "<lambda>" (X.env.qual++"<lambda>") j y l w ((X.mg "__name__").getD .none) c' p)->f≠X.env.locals -> Y.heap.CodeRec (.ref c') (X.env.qual++"<lambda>")->c'≠X.env.locals->H' c'=aa (.own P)->s.heap.objs.size<=f->H' f=ac->Q (.ref f) Y):ao X.zz X.A (aS (.Lambda j y l E) X.env) Q X.xe s:=by
 have tb:=I.tab x L.mem c P L.tab;obtain⟨ps,hP,D,g⟩:=I.hok P _ tb;have J:s.heap.Ns cx X.mg:=I.mod.glob.keeps I.bk;have hgP:cx≠P:=λz=>by obtain⟨o,es,ep,e,hd,_⟩:=J;lia
 have S:s.heap.BuiltinsAt X.mg P:=by
  obtain⟨bm,ob,b1,b2,b3,b4,b5,b6⟩:=I.mod.bm;refine⟨bm,ob,b1,b2,λz=>?_,λz=>?_,I.bk _ _ b3,b4,b5,b6⟩
  .obtain⟨o,es,ep,e,hd,_⟩:=I.mod.glob;lia
  .have e:=I.bk _ _ b3;lia
 have hC:=PySem.W.codeHd_of_K I.kIn L.hd;have Lne:X.env.locals≠P:=λz=>by have:=I.free;lia
 refine PySem.W.kla_eval wz ?_;cases hf:vV E ps.toList with
 |some cv=>
  obtain⟨A,rfl,lz,ET⟩:=g E _ hf;refine PySem.W.kla_makeFunctionHit (mg:=X.mg) pP I.ok.glob J L.code hC hP D hf S λp T tk hk F=>?_;have C:∀b o,s.heap.get? b=aa o->(T.push (En "<lambda>" (X.env.qual++"<lambda>") j y l w ((X.mg "__name__").getD .none) A p)).get? b=aa o:=λb o e=>bi _ (hk b o e);refine h _ A p H _ (I.un (Un.kept C) (I.hok.kept C)) (λ_ _ e=>e) (bU _ rfl) (ln (fe I.lt F)) ?_ (λz=>?_) lz F (I.hok.fresh F)
  .have G:s.heap.CodeRec (.ref A) (X.env.qual++"<lambda>"):=by rw[hq];trivial
   exact G.keeps C
  .have:=I.free;lia
 |none=>
  refine PySem.W.kla_makeFunction (mg:=X.mg) pP I.ok.glob J L.code hC hP D hf hgP S λA p T tk hx M bc ET O=>?_;generalize ho:En "<lambda>" (X.env.qual++"<lambda>") j y l w ((X.mg "__name__").getD .none) A p=fo;have C:∀b o,b≠P->s.heap.get? b=aa o->(T.push fo).get? b=aa o:=λb o n e=>bi _ (hx b o n e);have fr:H A=ac:=I.hok.fresh M;have B:(T.push fo).CodeRec (.ref A) (X.env.qual++"<lambda>"):=ET.keeps λb o e=>bi _ e;have nP:∀b,H b=ac->b≠P:=λb n z=>by lia
  have nc:∀b o,s.heap.get? b=aa o->b≠A:=λb o e=>cr (fe (bu e) M);have up:∀b o,H b=aa o->(upd H A (.own P)) b=aa o:=λb o e=>by rw[aU (kg e fr)];exact e
  have I':Inv X i d (upd H A (.own P)) {s with heap:=T.push fo,gens:=s.gens,drawn:=s.drawn,toks:=tk}:=by
   refine I.step (ch:=[]) (λ_ z=>nomatch z) (λb o _ _ _ e n=>C b o (nP b n) e) (λb o _ _ _ e n=>⟨o.slots,C b o (nP b n) e⟩) (λb o _ e n=>by rw[aU (nc b o e)];exact n)
    (λb o _ e=>?_) (λb xs e=>up b _ e) (λb o u e=>up b _ e) (λb q e=>⟨up b _ e,λc o W g=>⟨C c o (λz=>by lia) g,up c _ W⟩⟩) (λm hm=>?_) (λa u e=>?_) I.bare
   .by_cases Z:b=P
    .subst Z;exact⟨_,bi _ O⟩
    .exact⟨o,C b o Z e⟩
   .exact(hm.extBut hx Lne).push _
   .by_cases ha:a=A
    .subst ha;rw[upd_same]at e;cases e;obtain⟨_,o,_,_,z,W,_⟩:=B;cases z;exact⟨o,W⟩
    .rw[aU ha]at e;by_cases Z:a=P
     .subst Z;rw[tb]at e;cases e;refine⟨_,bi _ O,by rw[El];exact TriplesOk_snoc _ _ _ _ D,λN cv hc=>?_⟩;rw[El]at hc;rcases OU _ D hc with z|rfl
      .obtain⟨c2,rfl,h1,h2⟩:=g N cv z;refine⟨c2,rfl,up c2 _ h1,?_⟩;obtain⟨c3,o,vs,t,z,W,r⟩:=h2;cases z;exact⟨c2,o,vs,t,rfl,C c2 o (λz=>by lia) W,r⟩
      .exact⟨A,rfl,upd_same,hq ▸ B⟩
     .refine(I.hok a u e).stay (λb v hc r=>C b v ?_ r) (λb r=>up b _ r) λb xs r=>up b _ r;lia
  exact h _ A p _ _ I' up (by rw[<-ho];exact bU _ rfl) (ln (fe I.lt (dD M (ig bc)))) B (ln (fe I.lt M)) upd_same (dD M (ig bc)) (by rw[aU (ln bc)];exact I.hok.fresh (dD M (ig bc)))
end
open Att
theorem yD:∀{c:List V}{vs:List af}{i:Nat}{v:af},bE c vs->vs[i]?=aa v->∃x,c[i]?=aa x/\RelV x v
 |_,_,_,_,.nil,e=>by trivial
 |_,_,0,_,.cons h _,e=>by simp at e;subst e;exact⟨_,rfl,h⟩
 |_,_,i+1,_,.cons _ t,e=>by obtain⟨x,a,b⟩:=yD (i:=i) t (by trivial);exact⟨x,by trivial,b⟩
section
variable{X:Cx}{d:St}{H:Hp}
theorem Inv.mapKept{i:ax}(I:Inv X f d H s)(x:s.heap.Ns X.env.locals m)(q:i.Ns X.env.locals m)(k:∀b o,b≠X.env.locals->s.heap.get? b=aa o->i.get? b=aa o):Inv X f d H {s with heap:=i,toks:=p}:=by
 refine I.step (g':=s.gens) (d':=s.drawn) (ch:=[]) (λ_ z=>nomatch z) (λb o h _ _ e _=>k b o h e) (λb o h _ _ e _=>⟨o.slots,k b o h e⟩) (λ_ _ _ _ n=>n) (λb o _ e=>?_) (λ_ _ e=>e) (λ_ _ _ e=>e) (λ_ _ e=>⟨e,λc o l g=>⟨k c o (λz=>by rw[z,I.free]at l;trivial) g,l⟩⟩) (λw y=>?_) (λa u e=>?_) I.bare
 .by_cases j:b=X.env.locals
  .subst j;obtain⟨A,_,_,C,_⟩:=q
   grind
  .exact⟨o,k b o j e⟩
 .have:w=m:=y.eq_nsMap.trans x.eq_nsMap.symm;lia
 .refine(I.hok a u e).stay (λb v B r=>k b v ?_ r) (λ_ r=>r) λ_ _ r=>r;rintro rfl;have:=I.free;lia
end
end L2
namespace Pu
open L2
structure yJ(K:aw)(mg:Str->Option af)(x:Str)(c T:ab):Prop where
 tab:lT K x=aa (c,T)
 hd:zj K c T=ag
 code:∀f fd oc od osl,mg x=aa (.ref f)->K.lookup f=aa ⟨oc,od,.func fd,osl⟩->fd.code=.ref c
theorem SK{K:aw}(X:K.In h)(G:h.Ns cx b)(a:lT K x=aa (c,T))(l:zj K c T=ag):yJ K b x c T:=by
 refine⟨a,l,λf o n m g i j=>?_⟩;unfold lT at a;split at a
 .rename_i p e;have d:=Ed X G e;rw[i]at d;cases d;rw[j]at a;dsimp only at a;split at a
  .rename_i r q;split at a
   .split at a
    .cases a;trivial
    trivial
   trivial
  trivial
 trivial
theorem T9{K:aw}{o:Str->Option af}{b:ax}{x:Str}{g:aR}{N m:List Str}{k n:Nat}{d:ad aG}{j:List Nat}(LF:∃c T,yJ K o x c T)(O:x∈tm)(D:bw K o x g)(Z:bq N m (aQ g))(S:N.length=m.length+n)(F:∀(kV z G:af) (Y:Option ab) (p X:af) (r:List af),r.length=m.length->fH (iW x x (ji g) (eT g) (aQ g) .none kV z G Y p X) ⟨r,[]⟩=pure (m.zip r))(W:∀(f:ab) (p:af) (c T:ab) (A:aZ) (a:List Env) (s:ak) (H:Hp) (E:XK),Room k (A.deeper (iV x (aQ g) s.heap.objs.size f p))->uL (ic B P w K o b N x (aQ g) f p A a s H E) x c T->fP (ic B P w K o b N x (aQ g) f p A a s H E) E j (eT g) d):jk B P w K o b x (k+1) m (dO K (dU m.length j (bg n d))):=by
 have no:∀{l},dU m.length j (bg n d) l≠.no->l.length=m.length/\kN j 0 l=ag:=λ{l} h=>by unfold dU at h;simp_all
 obtain⟨f,y,C,q⟩:=D.ex;obtain⟨c,T,L⟩:=LF;refine⟨f,y,C,Fu q Z S F (λl h=>(no h).1) (λl h i u e=>by have:=(qi (no h).2 i u e).1;rwa[ou]at this) (λl rs aO h=>.inr λi u e=>(qi (no ⋯).2 i u e).2) (λl h=>by unfold dU;rw[if_pos (no h)]) λA a s H E Q=>?_,q.binds F,q.kp⟩;obtain⟨J,I,_,_,_,_,_,_,v,_,M,_⟩:=q.ex;exact W f y.code c T A a s H E Q ⟨O,L.tab,L.hd,L.code f y J I v C M⟩
end Pu
theorem L2.Room.d1(r:L2.Room k A):A.depth+1<PySem.recursionLimit:=by have:=r.dp;lia
namespace L2
open Mx
theorem perm_mapE{g o:Type}{f:g->o}{l:List o}{m:List g}(h:l.Perm (m.map f)):∃d:List g,l=d.map f/\d.Perm m:=by
 generalize c:m.map f=mm at h
 induction h generalizing m with
 |nil=>simp_all
 |cons x _ w=>
  cases m with
  |nil=>trivial
  |cons y r=>rw[cN]at c;injection c with q n;obtain⟨d,e,p⟩:=w n;exact⟨y::d,⋯,p.cons y⟩
 |swap x y l=>
  match m,c with
  |a::b::r,c=>simp only[cN,t5]at c;obtain⟨q,n,z⟩:=c;exact⟨b::a::r,by simp[q,n,z],.swap ..⟩
 |trans _ _ j i=>obtain⟨C,A,s⟩:=i c;obtain⟨v,B,u⟩:=j A.symm;exact⟨v,B,u.trans s⟩
theorem below_go{c:Array Nat}(l:c.toList.Pairwise (· < ·)):∀(g f d:Nat),d-f<=g->f<=d->d<=c.size -> (∀i (h:i<c.size),i<f->c[i]<j)->(∀i (h:i<c.size),d<=i->j<=c[i]) -> Eo c j g f d<=c.size/\(∀i (h:i<c.size),i<Eo c j g f d->c[i]<j)/\∀i (h:i<c.size),Eo c j g f d<=i->j<=c[i]
 |0,f,d,h,hl,hs,h1,h2=>by
  have:f=d:=∅
  subst this;trivial
 |g+1,f,d,h,hl,hs,h1,h2=>by
  unfold Eo;split
  .rename_i v;have u:(f+d) / 2<c.size:=∅
   have mono:∀a b (s:a<c.size) (r:b<c.size),a<b->c[a]<c[b]:=λa b s r o=>by have:=zJ.mp l a b (by trivial) (by trivial) o;trivial
   have p:c.getD ((f+d) / 2) j=c[(f+d) / 2]:=by simp_all
   dsimp only;rw[p];split
   .rename_i q;refine below_go l g _ _ nofun ∅ hs (λi n m=>?_) h2;by_cases e:i=(f+d) / 2
    all_goals grind
   .rename_i q;refine below_go l g _ _ nofun ∅ ∅ h1 (λi n m=>?_);by_cases e:i=(f+d) / 2
    all_goals grind
  grind
theorem below_ok{a:Array Nat}(b:a.toList.Pairwise (· < ·))(j:Nat):jn a j<=a.size/\(∀i (h:i<a.size),i<jn a j->a[i]<j)/\∀i (h:i<a.size),jn a j<=i->j<=a[i] :=below_go b a.size 0 a.size (by simp) (by simp) (a_ _) (λi _ h=>absurd h (l9 _)) λi h c=>absurd h ∅
structure TOk(t:b9):Prop where
 dm:t.dummies=#[]
 ris:t.place.toList.Pairwise (· < ·)
 le:∀j∈t.place.toList,j<=t.mask
 sz:t.mask∈[7,31,127,511,2047,8191]
 roomy:t.place.size*5<t.mask*3
theorem TOk.pow(h:TOk t):∃q,t.mask+1=2^q:=by
 have:=h.sz;simp only[b8,fL,or_false]at this;rcases this with e|e|e|e|e|e <;> rw[e]
 .exact⟨3,rfl⟩
 .exact⟨5,rfl⟩
 .exact⟨7,rfl⟩
 .exact⟨9,rfl⟩
 .exact⟨11,rfl⟩
 .exact⟨13,rfl⟩
theorem TOk.most(h:TOk t):t.mask<=8191/\7<=t.mask/\t.mask % 2=1:=by
 have:=h.sz
 grind
theorem slot_of{t:b9}(h:t.dummies=#[])(a:t.place.toList.Pairwise (· < ·))(j:Nat):(j∉t.place.toList/\t.slot j=.empty)\/∃i,t.place[i]?=aa j/\t.slot j=.live i:=by
 obtain⟨r,p,l⟩:=below_ok a j;unfold SetTable.slot;dsimp only;by_cases b:t.place[jn t.place j]?=aa j
 .exact .inr ⟨_,b,by rw[b];simp⟩
 .refine .inl ⟨λd=>?_,?_⟩
  .obtain⟨i,m,e⟩:=tX d;have c:i<t.place.size:=by trivial
   have g:t.place[i]=j:=by trivial
   have o:¬i<jn t.place j:=λz=>by grind
   have f:jn t.place j<t.place.size:=∅
   have n:=l _ f (a_ _);have:jn t.place j=i:=by
    by_cases q:jn t.place j=i
    .exact q
    .have:=zJ.mp a _ i (by trivial) (by trivial) ∅
     grind
   exact b (by rw[this,jY c,g])
  .rw[if_neg (~~~b),h];rfl
noncomputable def stp(a i p:Nat):ku:={j:=i,more:=fY a i-i,i:=i,perturb:=p,dummy:=ac}
noncomputable def pth(t:b9):Nat->ku->ku
 |0,p=>p
 |n+1,p=>pth t n (t.advance p)
theorem pth_add(t:b9):∀(m n:Nat) (p:ku),pth t (m+n) p=pth t n (pth t m p)
 |0,n,p=>by rw[ou];rfl
 |m+1,n,p=>by rw[K3];exact pth_add t m n _
theorem pth_succ(t:b9)(n:Nat)(p:ku):pth t (n+1) p=t.advance (pth t n p):=pth_add t n 1 p
theorem adv_dummy(t:b9)(p:ku):(t.advance p).dummy=p.dummy:=by unfold Ep;split <;> rfl
theorem pth_dummy(t:b9):∀(n:Nat) (p:ku),(pth t n p).dummy=p.dummy
 |0,p=>rfl
 |n+1,p=>(pth_dummy t n _).trans (adv_dummy t p)
theorem pth_mask{t a:b9}(h:t.mask=a.mask):∀(n:Nat) (p:ku),pth t n p=pth a n p
 |0,p=>rfl
 |n+1,p=>by
  have:t.advance p=a.advance p:=by unfold Ep;rw[h]
  show pth t n (t.advance p)=pth a n (a.advance p);rw[this,pth_mask h n]
theorem pth_run(t:b9):∀(k:Nat) (p:ku),k<=p.more->pth t k p={p with j:=p.j+k,more:=p.more-k}
 |0,p,_=>rfl
 |k+1,p,h=>by
  show pth t k (t.advance p)=_;have:t.advance p={p with j:=p.j+1,more:=p.more-1}:=by unfold Ep;lia
  rw[this,pth_run t k _ (by dsimp only;lia)];lia
theorem run_le(a i:Nat):fY a i-i<=9:=by unfold fY;split <;> simp
theorem pth_leap(t:b9)(i p:Nat):pth t (fY t.mask i-i+1) (stp t.mask i p)=stp t.mask (mT t.mask i p).1 (mT t.mask i p).2:=by rw[pth_succ,pth_run t (fY t.mask i-i) (stp t.mask i p) (a_ _)];exact(if_neg (show ¬(fY t.mask i-i-(fY t.mask i-i) > 0) by simp)).trans rfl
theorem pth_orb(t:b9):∀(m i p:Nat),∃n,n<=10*m/\pth t n (stp t.mask i p)=stp t.mask (eZ t.mask m i p).1 (eZ t.mask m i p).2
 |0,i,p=>⟨0,a_ _,rfl⟩
 |m+1,i,p=>by obtain⟨n,b,a⟩:=pth_orb t m (mT t.mask i p).1 (mT t.mask i p).2;refine⟨fY t.mask i-i+1+n,by have:=run_le t.mask i;lia,?_⟩;rw[pth_add,pth_leap];trivial
theorem nat_len_sub:∀{l m:List Nat},l.Nodup->(∀x∈l,x∈m)->l.length<=m.length
 |[],m,_,_=>gW _
 |x::l,m,b,h=>by
  have d:x∈m:=h x (ii ..);have a:=lr.mp b;have:=nat_len_sub (l:=l) (m:=m.erase x) a.2 λy c=>by
   grind
  grind
theorem bits_lt(h:Int):et h<2^64:=by unfold et;lia
theorem pth_empty(ok:TOk t)(h:Int):∃n,n<=10*(t.mask+14)/\(pth t n (t.probeStart h)).j∉t.place.toList:=by
 obtain⟨q,o⟩:=ok.pow;have:∃y,y<t.mask+1/\y∉t.place.toList:=by
  by_cases z:∃y,y<t.mask+1/\y∉t.place.toList
  .exact z
  .have:=nat_len_sub (l:=ce (t.mask+1)) (m:=t.place.toList) List.nodup_range λx i=>by
    simp_all
   have:=ok.roomy
   grind
 obtain⟨y,g,r⟩:=this;obtain⟨n,j,e⟩:=JL q (eZ t.mask 13 (et h % (t.mask+1)) (et h)).1 y ⋯;have a:(eZ t.mask 13 (et h % (t.mask+1)) (et h)).2=0:=by rw[B5];exact Nat.div_eq_of_lt (fe (bits_lt h) (by simp))
 have f:(eZ t.mask (13+n) (et h % (t.mask+1)) (et h)).1<t.mask+1:=by rw[show 13+n=(12+n)+1 by lia];exact CQ t.mask _ _ _
 have d:(eZ t.mask (13+n) (et h % (t.mask+1)) (et h)).1=y:=by
  have c:(eZ t.mask (13+n) (et h % (t.mask+1)) (et h)).1 % (t.mask+1)=y:=by rw[AT,a,BX];simp_all
  rwa[Ej f]at c
 obtain⟨k,p,b⟩:=pth_orb t (13+n) (et h % (t.mask+1)) (et h);refine⟨k,∅,?_⟩;show(pth t k (stp t.mask (et h % (t.mask+1)) (et h))).j∉_;rw[b];show(eZ t.mask (13+n) _ _).1∉_;rw[d];trivial
theorem least{p:Nat->Prop}:∀(n:Nat),p n->∃m,m<=n/\p m/\∀k,k<m->¬p k
 |0,h=>⟨0,a_ _,h,λk d=>absurd d (l9 _)⟩
 |n+1,h=>by
  by_cases z:∃m,m<=n/\p m/\∀k,k<m->¬p k
  .obtain⟨m,a,b,c⟩:=z;exact⟨m,∅,b,c⟩
  .refine⟨n+1,a_ _,h,λk d f=>z ?_⟩;obtain⟨m,a,b,c⟩:=least k f
   grind
theorem go_met{t:b9}(j:t.dummies=#[])(b:t.place.toList.Pairwise (· < ·))(rS:Nat->Int)(h:Int):∀(d n:Nat) (p:ku),n<d->p.dummy=ac->(pth t n p).j∉t.place.toList->(∀k,k<n->(pth t k p).j∈t.place.toList) -> ((wl t rS h d p=aa (.empty (pth t n p).j ac)/\∀k i,k<n->t.place[i]?=aa (pth t k p).j->t.slot (pth t k p).j=.live i->rS i≠h) \/ ∃m i,m<n/\t.place[i]?=aa (pth t m p).j/\t.slot (pth t m p).j=.live i/\rS i=h/\wl t rS h d p=aa (.candidate (pth t m p).j i (pth t (m+1) p))/\∀k i,k<m->t.slot (pth t k p).j=.live i->rS i≠h)
 |0,n,p,hf,_,_,_=>absurd hf (l9 _)
 |d+1,0,p,hf,hd,he,_=>by
  left;refine⟨?_,λk i c=>absurd c (l9 _)⟩;rcases slot_of j b p.j with⟨_,e⟩|⟨i,e,_⟩
  .unfold wl;rw[e,hd];rfl
  .exact absurd (mM (show t.place.toList[i]?=aa p.j by simpa using e)) he
 |d+1,n+1,p,hf,hd,he,hb=>by
  rcases slot_of j b p.j with⟨e,_⟩|⟨i,e1,e2⟩
  .exact absurd (hb 0 (t6 _)) e
  .unfold wl;rw[e2];dsimp only;by_cases g:rS i=h
   .right;refine⟨0,i,t6 _,e1,e2,g,?_,λk i c=>absurd c (l9 _)⟩;rw[if_pos (~~~g)];rfl
   .rw[if_neg (~~~g)];rcases go_met j b rS h d n (t.advance p) ∅ ((adv_dummy t p).trans hd) he (λk c=>hb (k+1) ∅)with⟨g1,g2⟩|⟨m,a,g1,g2,g3,g4,g5,g6⟩
    .refine .inl ⟨g1,λk a c l f=>?_⟩;cases k with
     |zero=>
      have:a=i:=by have o:t.slot p.j=.live a:=f;lia
      lia
     |succ k=>exact g2 k a ∅ l f
    .refine .inr ⟨m+1,a,∅,g2,g3,g4,g5,λk a c f=>?_⟩;cases k with
     |zero=>
      have:a=i:=by have o:t.slot p.j=.live a:=f;lia
      lia
     |succ k=>exact g6 k a ∅ f
theorem ins_list(a:Array b)(p:Nat)(x:b):(pA a p x).toList=a.toList.take p++x::a.toList.drop p:=by unfold pA;simp[El,KI,K4,List.extract,KM];exact oa (by simp)
theorem zip_ins{d c:Type}{a:List d}{b:List c}(h:a.length=b.length)(p:Nat)(x:d)(y:c)(q:d×c):q∈(a.take p++x::a.drop p).zip (b.take p++y::b.drop p)↔q=(x,y)\/q∈a.zip b:=by
 rw[List.zip_append (by simp[h]),Dy,Er,b8];have:a.zip b=(a.take p).zip (b.take p)++(a.drop p).zip (b.drop p):=by rw[<-List.zip_append (by simp[h]),wm,wm]
 grind
def Rch(t:b9)(a:List Nat)(j:Nat)(h:Int):Prop:=∃n,(pth t n (t.probeStart h)).j=j/\∀k,k<n->(pth t k (t.probeStart h)).j∈a
structure TPl(t:b9)(hs:List Int):Prop where
 ok:TOk t
 len:t.place.size=hs.length
 rch:∀q∈t.place.toList.zip hs,Rch t t.place.toList q.1 q.2
theorem put_ris{a:Array Nat}(b:a.toList.Pairwise (· < ·))(g:j∉a.toList):(pA a (jn a j) j).toList.Pairwise (· < ·):=by
 obtain⟨l,i,h⟩:=below_ok b j;rw[ins_list];have up:∀y∈a.toList.drop (jn a j),j<y:=λy c=>by
  obtain⟨k,f,e⟩:=tX c
  grind
 have dn:∀x∈a.toList.take (jn a j),x<j:=λx d=>by
  obtain⟨k,f,e⟩:=tX d
  grind
 refine List.pairwise_append.mpr ⟨b.sublist (List.take_sublist _ _),zt.mpr ⟨up,b.sublist (List.drop_sublist _ _)⟩,λx d y c=>?_⟩
 grind
theorem Rch.up{t t':b9}(b:t.mask=t'.mask)(g:∀x∈c,x∈a)(r:Rch t c j h):Rch t' a j h:=by
 obtain⟨n,e,f⟩:=r;have d:t'.probeStart h=t.probeStart h:=by unfold SetTable.probeStart;rw[b]
 exact⟨n,by rw[d,<-pth_mask b];exact e,λk i=>by rw[d,<-pth_mask b];exact g _ (f k i)⟩
theorem put_tp(T:TPl t a)(h:Int)(m:(pth t n (t.probeStart h)).j∉t.place.toList)(o:∀k,k<n->(pth t k (t.probeStart h)).j∈t.place.toList)(r:(pth t n (t.probeStart h)).j<=t.mask):let t':=(t.put (pth t n (t.probeStart h)).j).1
  let d:=a.take (t.put (pth t n (t.probeStart h)).j).2++h::a.drop (t.put (pth t n (t.probeStart h)).j).2
  t'.dummies=#[]/\t'.place.toList.Pairwise (· < ·)/\(∀j∈t'.place.toList,j<=t'.mask)/\t'.mask=t.mask/\t'.place.size=t.place.size+1/\d.length=a.length+1 /\
   ∀q∈t'.place.toList.zip d,Rch t' t'.place.toList q.1 q.2:=by
 intro t' d;have g:t'.place.toList=t.place.toList.take (jn t.place (pth t n (t.probeStart h)).j)++(pth t n (t.probeStart h)).j::t.place.toList.drop (jn t.place (pth t n (t.probeStart h)).j):=ins_list _ _ _;have mem:∀x,x∈t'.place.toList↔x=(pth t n (t.probeStart h)).j\/x∈t.place.toList:=λx=>by
  rw[g,Dy,b8];have:=congrArg (x∈·) (wm (jn t.place (pth t n (t.probeStart h)).j) t.place.toList)
  grind
 have c:t'.mask=t.mask:=rfl;have p:t.place.toList.length=a.length:=by have:=T.len;trivial
 refine⟨?_,put_ris T.ok.ris m,λj f=>?_,rfl,?_,?_,λq b=>?_⟩
 .show(if SetTable.has t.dummies _ then _ else t.dummies)=#[];rw[T.ok.dm];rfl
 .rcases(mem j).mp f with rfl|f
  .trivial
  .exact T.ok.le j f
 .rw[<-iF,g];simp;lia
 .grind
 .rw[g]at b;rcases(zip_ins p _ _ _ q).mp b with rfl|b
  .exact⟨n,by rw[pth_mask c];rfl,λk l=>by rw[pth_mask c];exact(mem _).mpr (.inr (o k l))⟩
  .exact(T.rch q b).up c.symm λx i=>(mem x).mpr (.inr i)
theorem adv_le{t:b9}{p:ku}(h:p.j+p.more<=t.mask):(t.advance p).j+(t.advance p).more<=t.mask:=by
 unfold Ep;split
 .dsimp only;lia
 .show(mT t.mask p.i p.perturb).1+(fY t.mask (mT t.mask p.i p.perturb).1-(mT t.mask p.i p.perturb).1)<=t.mask;have:(mT t.mask p.i p.perturb).1<t.mask+1:=oj _ (t6 _);generalize (mT t.mask p.i p.perturb).1=i at *;unfold fY;split <;> lia
theorem pth_le{t:b9}:∀(n:Nat) {p:ku},p.j+p.more<=t.mask->(pth t n p).j+(pth t n p).more<=t.mask
 |0,p,h=>h
 |n+1,p,h=>pth_le n (adv_le h)
theorem stp_le(h:i<a+1):(stp a i p).j+(stp a i p).more<=a:=by show i+(fY a i-i)<=a;unfold fY;split <;> lia
theorem start_le(t:b9)(h:Int)(n:Nat):(pth t n (t.probeStart h)).j<=t.mask:=by have:=pth_le (t:=t) n (p:=t.probeStart h) (stp_le (p:=et h) (oj (et h) (t6 t.mask)));lia
def Occ(a:Array (Option Nat))(j:Nat):Prop:=∃k,a[j]?=aa (aa k)
theorem free_path(t:b9){a:Array (Option Nat)}(s:a.size=t.mask+1):∀(f i p j:Nat),i<t.mask+1->pK t.mask a f i p=aa j -> ∃n,(pth t n (stp t.mask i p)).j=j/\∀k,k<n->Occ a (pth t k (stp t.mask i p)).j
 |0,i,p,j,_,h=>by trivial
 |f+1,i,p,j,hi,h=>by
  have c:∀k,k<=fY t.mask i-i->(a.getD (i+k) (aa 0)).isNone=ai->Occ a (i+k):=λk d e=>by
   have r:i+k<a.size:=by have:=stp_le (p:=p) hi;have:i+(fY t.mask i-i)<=t.mask:=this;lia
   rw[Ek,jY r]at e;unfold Occ;rw[jY r];cases q:a[i+k]with
   |none=>simp_all
   |some v=>lia
  have b:∀k,k<=fY t.mask i-i->(pth t k (stp t.mask i p)).j=i+k:=λk d=>by rw[pth_run t k (stp t.mask i p) d];rfl
  unfold pK at h;cases q:(ce (fY t.mask i+1-i)).find? (λk=>(a.getD (i+k) (aa 0)).isNone)with
  |some k=>
   rw[q]at h;cases h;obtain⟨_,g,bs,o,B⟩:=List.find?_eq_some_iff_append.mp q;have d:k<fY t.mask i+1-i:=ph.mp (List.mem_of_find?_eq_some q);refine⟨k,b k nofun,λm x=>?_⟩;rw[b m nofun];refine c m nofun ?_;have:m∈g:=by
    have y:g.length=k:=by have:=congrArg (λl=>l[g.length]?) o;simp only[vX (a_ _),Nat.sub_self,List.getElem?_cons_zero]at this;rw[cW]at this;obtain⟨z,e⟩:=this;rw[List.getElem_range]at e;exact e
    have:=congrArg (λl=>l[m]?) o;rw[jV ⋯,zm ∅]at this;exact mM this.symm
   simp_all
  |none=>
   rw[q]at h;obtain⟨n,A,w⟩:=free_path t s f _ _ j (oj _ (t6 _)) h;refine⟨fY t.mask i-i+1+n,by rw[pth_add,pth_leap];trivial,λk d=>?_⟩;by_cases u:k<fY t.mask i-i+1
   .rw[b k ∅];refine c k ∅ ?_;have:=List.find?_eq_none.mp q k (ph.mpr (by unfold fY at u ⊢;lia));exact K6.mpr this
   .have e:k=fY t.mask i-i+1+(k-(fY t.mask i-i+1)):=⋯
    rw[e,pth_add,pth_leap];exact w _ ∅
def LaidR(t:b9)(a:Array (Option Nat))(b:List Int):Prop:=∀(j k:Nat),a[j]?=aa (aa k)->∃h,b[k]?=aa h/\∃n,(pth t n (t.probeStart h)).j=j/\∀m,m<n->Occ a (pth t m (t.probeStart h)).j
theorem layClean_ok2(t:b9)(w:t.mask+1=2^q)(f:Array Int)(G:f.size<=t.mask):∃a,v9 t.mask f=aa a/\Laid t.mask a f.size/\LaidR t a f.toList:=by
 unfold v9;have i:∀(l b:List Int) (a:Array (Option Nat)),Laid t.mask a b.length->LaidR t a b->b.length+l.length<=t.mask+1->∃c,l.foldl (λF h=>do
   let (a,k) <-F
   let j <-pK t.mask a (pL t.mask) (et h % (t.mask+1)) (et h)
   pure (a.setIfInBounds j (aa k),k+1)) (aa (a,b.length))=aa (c,(b++l).length)/\Laid t.mask c (b++l).length/\LaidR t c (b++l):=by
  intro l
  induction l with
  |nil=>intro b a L R _;rw[jU];exact⟨a,rfl,L,R⟩
  |cons h l v=>
   intro b a L R y;simp only[gH]at y;obtain⟨j,B,L2⟩:=JQ w L ∅ h;obtain⟨n,p,r⟩:=free_path t L.1 _ _ _ _ (oj _ (t6 _)) B;have z:j<a.size:=by rw[L.1,<-p];exact Nat.lt_succ_of_le (start_le t h n)
   have grow:∀x,Occ a x->Occ (a.setIfInBounds j (aa b.length)) x:=λx ⟨k,e⟩=>by
    unfold Occ;rw[Array.getElem?_setIfInBounds];by_cases d:j=x
    .rw[if_pos d,if_pos ∅];exact⟨_,rfl⟩
    .rw[if_neg d];trivial
   have R2:LaidR t (a.setIfInBounds j (aa b.length)) (b++[h]):=λx k e=>by
    rw[Array.getElem?_setIfInBounds]at e;by_cases d:j=x
    .subst d;rw[if_pos rfl,if_pos ⋯]at e;cases e;exact⟨h,by simp,n,p,λm g=>grow _ (r m g)⟩
    .rw[if_neg d]at e;obtain⟨A,E,s,D,C⟩:=R x k e;have u:k<b.length:=(cW.mp E).1;exact⟨A,by rw[jV u];trivial,s,D,λm g=>grow _ (C m g)⟩
   have o:Laid t.mask (a.setIfInBounds j (aa b.length)) (b++[h]).length:=by rw[lX];trivial
   obtain⟨c,e,I,H⟩:=v (b++[h]) _ o R2 (by simp;lia);simp_all
 obtain⟨c,e,L,R⟩:=i f.toList [] (Array.replicate (t.mask+1) ac) ⟨by simp,by simp⟩ (λj k e=>by
  rw[Array.getElem?_replicate]at e;split at e <;> cases e) (by simp;lia)
 simp_all
theorem laid_tp(finger moves:Nat)(led plain:Bool)(N:mask+1=2^q)(J:mask∈[7,31,127,511,2047,8191])(b:Array (Int×af))(hn:b.size*5<mask*3):∃t c,v8 mask finger moves led plain (b.map (·.1))=aa (t,c)/\t.led=led/\t.plain=plain/\t.mask=mask/\t.moves=moves/\(c.filterMap (b[·]?)).toList.Perm b.toList/\TPl t ((c.filterMap (b[·]?)).toList.map (·.1)):=by
 let t0:b9:={mask:=mask,place:=#[],dummies:=#[],finger:=finger,led:=led,moves:=moves,plain:=plain}
 obtain⟨a,e,L,R⟩:=layClean_ok2 t0 (q:=q) N (b.map (·.1)) (by grind)
 let live:=(ce (mask+1)).filterMap λj=>(a.getD j ac).map (j,·)
 let t:b9:={mask:=mask,place:=(live.map (·.1)).toArray,dummies:=#[],finger:=finger,led:=led,moves:=moves,plain:=plain}
 have S:v8 mask finger moves led plain (b.map (·.1))=aa (t,(live.map (·.2)).toArray):=by unfold v8;have X:v9 mask (b.map (·.1))=aa a:=e;rw[X];rfl
 have g:∀x:Nat×Nat,x∈live↔x.1<mask+1/\a[x.1]?=aa (aa x.2):=λx=>by
  show x∈(ce (mask+1)).filterMap _↔_;rw[Kl];constructor
  .rintro⟨j,u,e⟩;have v:j<a.size:=by rw[L.1];exact ph.mp u
   rw[Ek,jY v]at e;simp only[Option.getD_some,gU]at e;obtain⟨k,W,rfl⟩:=e;exact⟨ph.mp u,by rw[jY v,W]⟩
  .rintro⟨E,D⟩;exact⟨x.1,ph.mpr E,by simp_all⟩
 have T:live.map (·.2)=a.toList.filterMap id:=by
  show((ce (mask+1)).filterMap _).map _=_;rw[Ea];have:a.toList=(ce (mask+1)).map λj=>a.getD j ac:=by
   refine zB λi=>?_;rw[cT];by_cases C:i<mask+1
   .rw[zm C];simp[Ek,show i<a.size by rw[L.1];trivial]
   .rw[mR (by rw[iF,L.1];ac_rfl),mR (~~~C)];rfl
  rw[this,DK];refine fm_congr' λj _=>?_;show Option.map (λx=>x.snd) (Option.map (λx=>(j,x)) (a.getD j ac))=a.getD j ac;cases a.getD j ac <;> rfl
 have d:(live.map (·.2)).Perm (ce b.size):=by rw[T];have:=L.2;simpa using this
 have Y:∀k∈live.map (·.2),k<b.size:=λk A=>ph.mp (d.mem_iff.mp A);have s:∀l:List (Nat×Nat),(∀x∈l,x.2<b.size)->((l.map (·.2)).filterMap (b[·]?)).map (·.1)=l.map λx=>((b[x.2]?).map (·.1)).getD 0:=by
  intro l
  induction l with
  |nil=>intro _;rfl
  |cons x r ih=>grind
 have G:∀x∈live,x.2<b.size:=λx f=>Y _ (cX.mpr ⟨x,f,rfl⟩);have o:(((live.map (·.2)).toArray).filterMap (b[·]?)).toList=(live.map (·.2)).filterMap (b[·]?):=by simp
 have Z:((live.map (·.2)).filterMap (b[·]?)).Perm b.toList:=by have:=d.filterMap (b[·]?);rwa[filterMap_getElem?_range]at this
 have p:live.length=b.size:=by have:=d.length_eq;simpa using this
 have z:∀x,Occ a x->x∈t.place.toList:=λx ⟨k,A⟩=>by
  show x∈(live.map (·.1)).toArray.toList;have f:x<mask+1:=by have:=(tO.mp A).1;rw[L.1]at this;trivial
  simp_all
 refine⟨t,_,S,rfl,rfl,rfl,rfl,by rw[o];trivial,⟨⟨rfl,?_,λj u=>?_,J,?_⟩,?_,λx f=>?_⟩⟩
 .show(live.map (·.1)).Pairwise (· < ·);have w:(live.map (·.1)).Sublist (ce (mask+1)):=by show(((ce (mask+1)).filterMap _).map _).Sublist _;rw[Ea];refine fm_sub _ λj k e=>?_;simp_all
  exact List.pairwise_lt_range.sublist w
 .have v:j∈live.map (·.1):=u;obtain⟨x,f,rfl⟩:=cX.mp v;exact Nat.le_of_lt_succ ((g x).mp f).1
 .show(live.map (·.1)).toArray.size*5<mask*3;simp[p];trivial
 .rw[o];show(live.map (·.1)).toArray.size=_;rw[s live G];simp
 .rw[o,s live G]at f;have F:x∈(live.map (·.1)).zip (live.map λx=>((b[x.2]?).map (·.1)).getD 0):=f;rw[List.zip_map']at F;obtain⟨y,M,rfl⟩:=cX.mp F;obtain⟨E,D⟩:=(g y).mp M;obtain⟨h,Q,n,P,O⟩:=R _ _ D;have B:((b[y.2]?).map (·.1))=aa h:=by have:(b.map (·.1)).toList[y.2]?=aa h:=Q;simpa using this
  show Rch t t.place.toList y.1 (((b[y.2]?).map (·.1)).getD 0);rw[B];have H:t0.mask=t.mask:=rfl;refine Rch.up (t:=t0) H (λx f=>f) ⟨n,P,λm I=>z _ (O m I)⟩
where
 fm_congr' {α β:Type}{f g:α->Option β}:∀{l:List α},(∀k∈l,f k=g k)->l.filterMap f=l.filterMap g
  |[],_=>rfl
  |x::l,h=>by rw[lm,lm,h x (ii ..),fm_congr' λk hk=>h k (gr _ hk)]
 fm_sub {f:Nat->Option Nat}:∀(l:List Nat),(∀j k,f j=aa k->k=j)->(l.filterMap f).Sublist l
  |[],_=>.slnil
  |x::l,h=>by
   rw[lm];cases q:f x with
   |none=>exact(fm_sub l h).cons _
   |some k=>rw[h x k q];exact(fm_sub l h).cons₂ _
section
variable{P:aM}{w:aD}{A:aZ}{E:af->ak->Prop}{s:ak}
structure Keyd(P:aM)(w:aD)(K:Type)[DecidableEq K] where
 is:ax->K->af->Prop
 hash:K->Int
 room:aZ->Prop
 keep:∀{h h':ax}{k:K}{v:af},is h k v->(∀b o,h.get? b=aa o->o.cls=.type "tuple"->h'.get? b=aa o)->is h' k v
 ref:∀{h:ax}{k:K}{v:af},is h k v->∃a o,v=.ref a/\h.get? a=aa o
 eqBool:∀{A:aZ}{E:af->ak->Prop}{s:ak}{x y:K}{u v:af}{Q:Bool->ak->Prop},room A->is s.heap x u->is s.heap y v->Q (decide (x=y)) s->ao (ar P w) A (PySem.eqBool u v) Q E s
 quiet:∀{A:aZ}{E:af->ak->Prop}{s:ak}{k:K}{v:af}{Q:Bool->ak->Prop},is s.heap k v->Q ag s->ao (ar P w) A (oA 8 v) Q E s
 cls:∀{A:aZ}{E:af->ak->Prop}{s:ak}{k:K}{v:af}{Q:Bool->ak->Prop},is s.heap k v->Q ai s->ao (ar P w) A (rT 8 v) Q E s
 hbv:∀{A:aZ}{E:af->ak->Prop}{s:ak}{k:K}{v:af}{Q:Bool->ak->Prop},is s.heap k v->Q ai s->ao (ar P w) A (rV 8 v) Q E s
variable{K:Type}[DecidableEq K]{kd:Keyd P w K}
noncomputable def Els(kd:Keyd P w K)(h:ax)(b:List (Int×af))(a:List K):Prop:=b.length=a.length/\∀q∈b.zip a,q.1.1=kd.hash q.2/\kd.is h q.2 q.1.2
theorem seen_not(i:kd.is s.heap k x):∀(d:List af),(∀y∈d,∃k,kd.is s.heap k y)->∀{Q:Bool->ak->Prop},Q ai s->ao (ar P w) A (K7 x d) Q E s:=by
 intro d m Q q;unfold K7;refine aj ?_;refine oy _ (λrest r f=>r.1=ac/\f=s/\∀y∈rest,∃k,kd.is s.heap k y) _ ?_ ?_ _ _ ⟨rfl,rfl,m⟩
 .rintro y rest r f ⟨j,rfl,g⟩;obtain⟨v,c⟩:=g y ii;have next:∀z,z=(ForInStep.yield ((ac:Option Bool),()):ForInStep (Option Bool×Unit))->(∃l,z=ForInStep.yield l/\l.1=ac):=λz e=>⟨_,e,rfl⟩
  obtain⟨a,o,rfl,B⟩:=kd.ref i;obtain⟨b,u,rfl,C⟩:=kd.ref c;dsimp only;split
  .exact aq ⟨rfl,rfl,λz h=>g z (gr _ h)⟩
  .refine aj (kd.quiet i ?_);simp only[mS,fh,if_false];refine aj (kd.quiet c ?_);simp only[mS,fh,if_false];refine aj (kd.cls i ?_);simp only[fh,if_false];refine aj (kd.cls c ?_);simp only[fh,if_false];exact aq ⟨rfl,rfl,λz h=>g z (gr _ h)⟩
 .rintro⟨p,n⟩ f ⟨j,rfl,_⟩;simp only at j;subst j;exact aq q
theorem search_eq(a:ab)(x:af)(h:Int)(b:Bool)(l:Nat)(c:Option ku):t7 a x h b (l+1) c=(do
  let (es,_,t) <-setState a
  if t.gaveWay then l0 "set:on-a-table-that-gave-way"
  let aa met:=t.probe (λi=>(es[i]?.map (·.1)).getD 0) h (c.getD (t.probeStart h))|l0 "internal:set-table-without-an-empty-slot"
  match met with
  |.empty j f=>
   match f with
   |none=>return .free j ai
   |some d=>
    if b&&t.slot d != .dummy then rule "set.search.the-dummy-was-taken";return <-t7 a x h b l ac
    return .free d ag
  |.candidate j i next=>
   if !t.led then
    if <-K7 x ((es.filter (·.1 == h)).toList.map (·.2))then l0 "set:the-search-would-show-the-table"
   let aa (_,y):=es[i]?|l0 "internal:set-entry"
   let equal <-kl [y] (eqBool y x)
   let (es',_,t') <-setState a
   if b&&equal then return .there ac
   let aa same:=t'.sameMemory t.moves t.mask|l0 "set.changed-during-lookup:is-the-new-block-at-the-old-address"
   let still <-match (if same then t'.slot j else .empty)with
    |.live g=>match es'[g]? with
     |some (_,m)=>do pure (if <-isSame m y then aa g else ac)
     |none=>pure ac
    |_=>pure ac
   match still with
   |none=>rule "set.search.anew";t7 a x h b l ac
   |some g=>if equal then return .there (aa g)else t7 a x h b l (aa next)):=rfl
theorem same_self(h:s.heap.get? a=aa o)(q:Q ag s):ao (ar P w) A (isSame (.ref a) (.ref a)) Q E s:=by unfold isSame;dsimp only;rw[if_pos (by simp)];exact aq q
theorem live_at(ok:TOk t)(a:i<t.place.size):t.slot t.place[i]=.live i:=by
 rcases slot_of ok.dm ok.ris t.place[i]with⟨e,_⟩|⟨i',e1,e2⟩
 .exact absurd (by simp) e
 .rw[e2];obtain⟨c,b⟩:=tO.mp e1;have:i'=i:=by
   rcases Nat.lt_trichotomy i' i with z|z|z
   .have:=zJ.mp ok.ris i' i (by trivial) (by trivial) z;simp at this;simp_all
   .exact z
   .have:=zJ.mp ok.ris i i' (by trivial) (by trivial) z;simp at this;simp_all
  rw[this]
theorem searchV(hr:kd.room A)(L:s.heap.get? a=aa {cls:=.type "set",dict:=ac,data:=.set d ep t})(O:t.fits d.size=ag)(T:TPl t (d.toList.map (·.1))) (f:Els kd s.heap d.toList l) (H:kd.is s.heap k x) (he:(pth t N (t.probeStart (kd.hash k))).j∉t.place.toList) (hb:∀m,m<N->(pth t m (t.probeStart (kd.hash k))).j∈t.place.toList) (hN:N<10*(t.mask+15)) (q1:k∈l->Q (.there ac) s) (q2:k∉l->Q (.free (pth t N (t.probeStart (kd.hash k))).j ai) s):∀(r m:Nat) (c:Option ku),N-m<r->m<=N->c.getD (t.probeStart (kd.hash k))=pth t m (t.probeStart (kd.hash k)) -> (∀j i g,j<m->t.slot (pth t j (t.probeStart (kd.hash k))).j=.live i->l[i]?=aa g->g≠k)->ao (ar P w) A (t7 a x (kd.hash k) ag r c) Q E s
 |0,m,c,h,_,_,_=>absurd h (l9 _)
 |r+1,m,c,h1,h2,h3,h4=>by
  rw[search_eq];refine aj (fX L rfl O ?_);dsimp only;have hg:t.gaveWay=ai:=by unfold SetTable.gaveWay;have:=T.ok.most.2.2;simp[this]
  rw[hg];simp only[fh,if_false];have G:∀i j,t.place[i]?=aa j->∃(q:Int×af) (g:K),d[i]?=aa q/\l[i]?=aa g/\q.1=kd.hash g/\kd.is s.heap g q.2:=λi j hi=>by
   have bc:i<d.size:=by have:=(tO.mp hi).1;have:=T.len;simp_all
   have M:i<l.length:=by have:=f.1;simp_all
   refine⟨d[i],l[i],jY bc,eh M,?_⟩;exact f.2 (d[i],l[i]) (mM (i:=i) (by rw[zD];simp))
  rcases go_met T.ok.dm T.ok.ris (λi=>((d[i]?).map (·.1)).getD 0) (kd.hash k) (10*pL t.mask) (N-m) (pth t m (t.probeStart (kd.hash k))) (by unfold pL;lia) (pth_dummy t m _)
    (by rw[<-pth_add,show m+(N-m)=N by simp_all];trivial) (λj hj=>by rw[<-pth_add];grind)with⟨g1,g2⟩|⟨n,i,g1,g2,g3,g4,g5,g6⟩
  .have Z:t.probe (λi=>((d[i]?).map (·.1)).getD 0) (kd.hash k) (c.getD (t.probeStart (kd.hash k)))=aa (.empty (pth t N (t.probeStart (kd.hash k))).j ac):=by
    rw[h3];show wl t _ _ _ _=_;rw[g1,<-pth_add,show m+(N-m)=N by simp_all]
   rw[Z];refine aq (q2 λD=>?_);obtain⟨i,hi,ek⟩:=tX D;have v:i<t.place.size:=by have:=T.len;have:=f.1;simp at *;simp_all
   obtain⟨q,g,C,Y,e4,X⟩:=G i _ (jY v);have W:g=k:=⋯
   subst W;obtain⟨n,F,r2⟩:=T.rch (t.place[i],q.1) (mM (i:=i) (by rw[zD];exact⟨by simp,by rw[cT,wb,C];rfl⟩));rw[e4]at F r2;have hin:t.place[i]∈t.place.toList:=by simp
   have hnN:n<N:=by
    grind
   have wV:t.slot (pth t n (t.probeStart (kd.hash g))).j=.live i:=by rw[F];exact live_at T.ok v
   by_cases B:n<m
   .exact h4 n i g B wV Y rfl
   .have:=g2 (n-m) i ∅ (by rw[<-pth_add,show m+(n-m)=n by simp_all,F];simp) (by rw[<-pth_add,show m+(n-m)=n by simp_all];trivial);exact this (by rw[C];trivial)
  .rw[<-pth_add]at g2 g3;have Z:t.probe (λi=>((d[i]?).map (·.1)).getD 0) (kd.hash k) (c.getD (t.probeStart (kd.hash k)))=aa (.candidate (pth t (m+n) (t.probeStart (kd.hash k))).j i (pth t (m+n+1) (t.probeStart (kd.hash k)))):=by rw[h3];show wl t _ _ _ _=_;rw[g5,<-pth_add,<-pth_add,Nat.add_assoc]
   rw[Z];dsimp only;obtain⟨q,g,C,Y,e4,X⟩:=G i _ g2;have rest:ao (ar P w) A (do
     let aa (_,y):=d[i]?|l0 "internal:set-entry"
     let equal <-kl [y] (PySem.eqBool y x)
     let (es',_,t') <-setState a
     if ag&&equal then return .there ac
     let aa same:=t'.sameMemory t.moves t.mask|l0 "set.changed-during-lookup:is-the-new-block-at-the-old-address"
     let still <-match (if same then t'.slot (pth t (m+n) (t.probeStart (kd.hash k))).j else .empty)with
      |.live o=>match es'[o]? with
       |some (_,y')=>do pure (if <-isSame y' y then aa o else ac)
       |none=>pure ac
      |_=>pure ac
     match still with
     |none=>rule "set.search.anew";t7 a x (kd.hash k) ag r ac
     |some o=>if equal then return .there (aa o)else t7 a x (kd.hash k) ag r (aa (pth t (m+n+1) (t.probeStart (kd.hash k))))) Q E s:=by
    rw[C];dsimp only;refine aj (d_ (kd.eqBool hr X H ?_));refine aj (fX L rfl O ?_);dsimp only;by_cases B:g=k
    .rw[decide_eq_true B];simp only[Bool.and_self,if_true];exact aq (q1 (by subst B;exact mM Y))
    .rw[decide_eq_false B];simp only[zr,fh,if_false];have I:t.sameMemory t.moves t.mask=aa ag:=by unfold SetTable.sameMemory;simp
     rw[I];dsimp only;rw[if_pos rfl,g3];dsimp only;rw[C];dsimp only;obtain⟨b,ob,eb,uc⟩:=kd.ref X;rw[eb];refine aj (same_self uc ?_);rw[if_pos rfl];refine aj (aq ?_);dsimp only;refine searchV hr L O T f H he hb hN q1 q2 r (m+n+1) _ ∅ ∅ rfl λj o p hj J D=>?_;by_cases c1:j<m
     .exact h4 j o p c1 J D
     .by_cases c2:j=m+n
      .simp_all
      .intro z;subst z;have j7:t.slot (pth t (j-m) (pth t m (t.probeStart (kd.hash p)))).j=.live o:=by rw[<-pth_add,show m+(j-m)=j by simp_all];trivial
       have:=g6 (j-m) o ∅ j7;rcases slot_of T.ok.dm T.ok.ris (pth t j (t.probeStart (kd.hash p))).j with⟨_,y⟩|⟨i2,y1,y2⟩
       .rw[J]at y;cases y
       .rw[J]at y2;injection y2 with z2;subst z2;obtain⟨wW,k2,f2,f3,f4,f5⟩:=G o _ y1;rw[D]at f3;cases f3;exact this (by rw[f2];trivial)
   cases hl:t.led with
   |true=>simp only[mS,fh,if_false];exact rest
   |false=>
    simp only[zK,if_true];refine aj (seen_not (kd:=kd) H _ (λy hy=>?_) ?_)
    .obtain⟨e,ud,rfl⟩:=cX.mp hy;have S:e∈d.toList:=by rw[Array.toList_filter]at ud;exact(y8.mp ud).1
     obtain⟨u,hi3,e6⟩:=tX S;have hik:u<l.length:=by rw[<-f.1];trivial
     exact⟨l[u],by have:=(f.2 (d.toList[u],l[u]) (mM (i:=u) (by rw[zD];simp))).2;rw[e6]at this;trivial⟩
    .simp only[fh,if_false];exact rest
end
section
variable{P:aM}{w:aD}{s:ak}{K:Type}[DecidableEq K]
def elV(a:Keyd P w K)(p:K×af):Int×af:=(a.hash p.1,p.2)
inductive Op(kd:Keyd P w K)(h:ax)(a:ab)(ps:List (K×af)):Prop
 |mk (es:Array (Int×af)) (ep:Nat) (t:b9) (qs:List (K×af)) (e:h.get? a=aa {cls:=.type "set",dict:=ac,data:=.set es ep t}) (hp:qs.Perm ps) (jc:es.toList=qs.map (elV kd)) (hsz:es.size<4090) (T:TPl t (es.toList.map (·.1))) (hl:t.led=(!cR w)) (hq:ps≠[]->t.plain=ai)
structure SetV(kd:Keyd P w K)(h:ax)(a:ab)(ps:List (K×af)):Prop where
 ex:Op kd h a ps
variable{kd:Keyd P w K}
theorem SetV.at{h':ax}(S:SetV kd h a b)(k:∀o,h.get? a=aa o->h'.get? a=aa o):SetV kd h' a b:=by obtain⟨es,ep,t,l,e,j,i,g,f,d,c⟩:=S.ex;exact⟨es,ep,t,l,k _ e,j,i,g,f,d,c⟩
theorem TPl.fits(T:TPl t a)(b:n=a.length):t.fits n=ag:=by unfold pG pM;have:=T.len;have:=T.ok.roomy;rw[T.ok.dm];simp;lia
noncomputable def addV(a:List (K×af))(p:K×af):List (K×af):=if p.1∈a.map (·.1)then a else a++[p]
theorem relay_eq(a:ab)(b:Nat):setRelay a b=(do
  let (es,_,t) <-setState a
  if lY b > bh then l0 "set:memory"
  let (es,t) <-(do
   let aa (t,order):=t.relaid (es.map (·.1)) b|l0 "internal:set-table-without-room"
   let es':=order.filterMap (es[·]?)
   if es'.size != es.size then l0 "internal:set-table-lost-an-element"
   pure (es',t))
  storeSet a es t):=rfl
theorem grow_ok(b:mask∈[7,31,127,511,2047,8191])(f:(n-1)*5<mask*3)(d:mask*3<=n*5)(c:n<4090):∃a q,lY (og n)=a+1/\a+1=2^q/\a∈[7,31,127,511,2047,8191]/\n*5<a * 3/\a+1<=bh:=by
 simp only[b8,fL,or_false]at b;rcases b with e|e|e|e|e|e <;> subst e
 .obtain rfl:n=5:=∅
  exact⟨31,5,by rfl,rfl,by decide,by decide,by decide⟩
 .obtain rfl:n=19:=∅
  exact⟨127,7,by rfl,rfl,by decide,by decide,by decide⟩
 .obtain rfl:n=77:=∅
  exact⟨511,9,by rfl,rfl,by decide,by decide,by decide⟩
 .obtain rfl:n=307:=∅
  exact⟨2047,11,by rfl,rfl,by decide,by decide,by decide⟩
 .obtain rfl:n=1229:=∅
  exact⟨8191,13,by rfl,rfl,by decide,by decide,by decide⟩
 .omega
theorem els_of{a:List (K×af)}(e:c=a.map (elV kd))(f:∀p∈a,kd.is h p.1 p.2):Els kd h c (a.map (·.1)):=by subst e;refine⟨by simp,λq b=>?_⟩;rw[List.zip_map']at b;obtain⟨p,d,rfl⟩:=cX.mp b;exact⟨rfl,f p d⟩
theorem set_addV(hr:kd.room A)(S:SetV kd s.heap a y)(hk:∀p∈y,kd.is s.heap p.1 p.2)(W:kd.is s.heap k x)(hn:y.length<4000)(h:∀l b,eG a s.heap l->SetV kd l a (addV y (k,x))->Q b {s with heap:=l}):ao (ar P w) A (tR a x (kd.hash k)) Q E s:=by
 obtain⟨f,ep,t,C,ho,hp,jc,hsz,T,fM,cp⟩:=S.ex;have hqk:∀p∈C,kd.is s.heap p.1 p.2:=λp hq=>hk p (hp.mem_iff.mp hq);have els:=els_of jc hqk;have bo:f.size=y.length:=by
  have e1:=congrArg n4 jc;have u:=hp.length_eq
  grind
 have hf:t.fits f.size=ag:=T.fits (by simp);have D:k∈C.map (·.1)↔k∈y.map (·.1):=(hp.map (·.1)).mem_iff;obtain⟨o,ox,rfl,hox⟩:=kd.ref W;unfold tR setAddHashedIn;refine d_ (aj (fX ho rfl hf ?_));dsimp only;have hbs:byScan (.ref o) f=ai:=by rfl
 rw[hbs];simp only[fh,if_false];obtain⟨N0,hN0,hE0⟩:=pth_empty T.ok (kd.hash k);obtain⟨N,hN,hE,hB⟩:=least (p:=λn=>(pth t n (t.probeStart (kd.hash k))).j∉t.place.toList) N0 hE0;have hB':∀m,m<N->(pth t m (t.probeStart (kd.hash k))).j∈t.place.toList:=λm hm=>Classical.not_not.mp (hB m hm);have h8:=T.ok.most.1;unfold setSearch;refine aj (searchV hr ho hf T els W hE hB' ∅ (λhin=>?_) (λhout=>?_) 100000 0 ac ∅ (gW _) rfl λj i k' hj=>absurd hj (l9 _))
 .refine aq (h s.heap _ (pB a s.heap) ?_);unfold addV;rw[if_pos (D.mp hin)];exact S
 .dsimp only;refine aj (fX ho rfl hf ?_);dsimp only;have bc:=start_le t (kd.hash k) N;obtain⟨p1,p2,p3,p4,O,M,L⟩:=put_tp T (kd.hash k) hE hB' bc;have G:(t.put (pth t N (t.probeStart (kd.hash k))).j).1.led=t.led:=rfl;have Y:(t.put (pth t N (t.probeStart (kd.hash k))).j).2<=f.size:=by
   have:=(below_ok T.ok.ris (pth t N (t.probeStart (kd.hash k))).j).1;have e:t.place.size=f.size:=by have:=T.len;simpa using this
   rw[<-e];trivial
  generalize hPut:t.put (pth t N (t.probeStart (kd.hash k))).j=TP at p1 p2 p3 p4 O M L G Y ⊢;obtain⟨I,g⟩:=TP;dsimp only at p1 p2 p3 p4 O M L G Y ⊢;have EU:(pA f g (kd.hash k,.ref o)).toList=(C.take g++(k,.ref o)::C.drop g).map (elV kd):=by rw[ins_list,jc,v6,cN,List.map_take,List.map_drop];rfl
  have hhs:(pA f g (kd.hash k,.ref o)).toList.map (·.1)=(f.toList.map (·.1)).take g++kd.hash k::(f.toList.map (·.1)).drop g:=by rw[ins_list,v6,cN,List.map_take,List.map_drop]
  have Z:(C.take g++(k,Value.ref o)::C.drop g).Perm (addV y (k,.ref o)):=by unfold addV;rw[if_neg (λz=>hout (D.mpr z))];refine List.perm_middle.trans ?_;rw[wm];exact(hp.cons _).trans (List.perm_append_singleton _ _).symm
  have EQ:(pA f g (kd.hash k,.ref o)).size=f.size+1:=by
   grind
  have b7:addV y (k,Value.ref o)≠[]:=by unfold addV;simp_all
  rw[<-hhs]at M L;generalize hes2:pA f g (kd.hash k,Value.ref o)=es1 at EU hhs EQ M L ⊢;have B:∀c:b9,c={I with plain:=ai}->ao (ar P w) A (do
    storeSet a es1 c
    if(!ai&&c.tooFull)=ag then do
      setRelay a (og (f.size+1))
      pure ag
     else pure ag) (λr s'=>∃l,r=ag/\s'={s with heap:=l}/\eG a s.heap l/\SetV kd l a (addV y (k,.ref o))) E s:=by
   intro c u;have g7:c.led=(!cR w):=by rw[u];exact G.trans fM
   have fi:c.plain=ai:=by rw[u]
   have d1:c.dummies=#[]:=by rw[u];trivial
   have d2:c.place=I.place:=by rw[u]
   have d3:c.mask=I.mask:=by rw[u]
   have J:∀q∈c.place.toList.zip (es1.toList.map (·.1)),Rch c c.place.toList q.1 q.2:=λq hq=>by rw[d2]at hq ⊢;exact(L q hq).up d3.symm λx W=>W
   have wq:c.fill=f.size+1:=by unfold pM;rw[d1,d2,O];have:=T.len;simp at this ⊢;omega
   have Lp:c.mask∈[7,31,127,511,2047,8191]:=by rw[d3,p4];exact T.ok.sz
   have Wj:c.fits es1.size=ag:=by
    unfold pG;rw[wq,EQ,d2,O];have h1:=T.len;have h2:=T.ok.roomy
    grind
   refine aj (pC ho rfl ?_ (rK (gG (show es1.size<4090 by lia) (by decide))));have o1:=bB.put (es':=es1) (t':=c) ho;have jb:=iI s.heap a (zw es1 c);by_cases F:c.tooFull=ag
   .rw[F];simp only[zK,Bool.and_self,if_true];have We:c.mask*3<=(f.size+1)*5:=by unfold SetTable.tooFull at F;rw[wq]at F;simpa using F
    have H:(f.size+1-1)*5<c.mask*3:=by
     have h1:=T.len;have h2:=T.ok.roomy
     grind
    obtain⟨m',q,g1,g2,g3,g4,g5⟩:=grow_ok Lp H We ∅;rw[relay_eq];refine aj (aj (fX o1 rfl Wj ?_));dsimp only;rw[g1,if_neg ∅];obtain⟨t3,d,f1,f2,f3,f4,f5,f6,f7⟩:=laid_tp (mask:=m') c.finger (c.movedTo m') c.led c.plain g2 g3 es1 ⋯;have er:c.relaid (es1.map (·.1)) (og (f.size+1))=aa (t3,d):=by unfold SetTable.relaid;rw[g1];exact f1
    rw[er];dsimp only;have X:(d.filterMap (es1[·]?)).size=es1.size:=by have:=f6.length_eq;omega
    refine aj ?_;rw[if_neg (by rw[X];simp)];refine aq ?_;dsimp only;obtain⟨v,r1,r2⟩:∃v:List (K×af),(d.filterMap (es1[·]?)).toList=v.map (elV kd)/\v.Perm (C.take g++(k,Value.ref o)::C.drop g):=by rw[EU]at f6;exact perm_mapE f6
    refine pC o1 rfl ?_ (rK (gG (show(d.filterMap (es1[·]?)).size<4090 by lia) (by decide)));refine aq ⟨_,rfl,rfl,jb.trans (iI _ a _),⟨_,_,t3,v,bB.put o1,r2.trans Z,r1,∅,f7,f2.trans g7,λ_=>f3.trans fi⟩⟩
   .rw[K6.mpr F];simp only[zr,fh,if_false];have H:c.place.size*5<c.mask*3:=by
     unfold SetTable.tooFull at F;rw[wq]at F;have h1:=T.len
     grind
    refine aq ⟨_,rfl,rfl,jb,⟨es1,_,c,_,o1,Z,EU,∅,⟨⟨d1,by rw[d2];exact p2,by rw[d2,d3];exact p3,Lp,H⟩,?_,J⟩,g7,λ_=>fi⟩⟩;rw[d2,O,M];have:=T.len;lia
  split
  .refine aj (kd.hbv W ?_);simp only[fh,if_false];refine aP (B _ rfl) λr s' ⟨l,e1,u,e3,e4⟩=>?_;subst e1 u;exact h l _ e3 e4
  .rename_i ER;refine aj (aq ?_);simp only[if_true];refine aP (B I (by
    have:I.plain=ai:= ~~~ER
    rw[<-this])) λr s' ⟨l,e1,u,e3,e4⟩=>?_
   subst e1 u;exact h l _ e3 e4
end
section
variable{P:aM}{w:aD}{A:aZ}{E:af->ak->Prop}{s:ak}
theorem tupTy(h:IsTup s.heap a b):s.TypeIs (.ref a) "tuple":=let ⟨o,ho,hc,_⟩:=h;⟨o,ho,hc⟩
noncomputable def HsAt(P:aM)(w:aD)(A:aZ)(s:ak)(v:af)(x:Int):Prop :=
 ∀(b:Nat) (E:af->ak->Prop) (Q:Int->ak->Prop),(∀a,b<=a->Q x {s with toks:=a})->ao (ar P w) A (pyHash v) Q E {s with toks:=b}
theorem hash_tup{hs:List (af×Int)}(z:A.units<cLine)(v:IsTup s.heap a g)(D:g.toList=hs.map (·.1))(G:∀p∈hs,HsAt P w A.in1 s p.1 p.2):HsAt P w A s (.ref a) (jT (gn (hs.map (·.2)))):=λj E Q h=>by
 have l:Shared.TypeIs {s with toks:=j} (.ref a) "tuple":=tupTy v;obtain⟨o,C,_,n,H⟩:=v;unfold pyHash
 first|unfold pyHashByItsType|skip
 first|refine aj (wpAny_cRoomFor_or (.inr z) ?_)|skip
 refine aj (rD l F.slot_tuple_hash.lookup ?_);show ao _ _ (if(aa (Value.builtin "tuple.__hash__") == aa Value.none)=ag then _ else _) Q E _;rw[if_neg ⋯];refine aj (rD l F.slot_tuple_hash.lookup ?_);show ao _ _ (V_ (.ref a) "__hash__" _ >>= _) Q E _;refine aj (Wa l Es (jm Es l F.entry_tuple_hash ?_ (F.args_tuple_hash_1 _)));show ao _ _ (DM (.ref a) >>= _) _ _ _;refine aj (wpAny_tupleItemsOf (s:={s with toks:=j}) C H ?_);refine aj ?_;rw[<-wj,D];refine oy _
  (λrest (b:Array Int) u=>∃c d f,hs=c++d/\rest=d.map (·.1)/\b.toList=c.map (·.2)/\j<=f/\u={s with toks:=f})
  _ ?_ ?_ _ _ ⟨[],hs,j,rfl,rfl,rfl,a_ _,rfl⟩
 .rintro x rest b u ⟨c,d,f,rfl,q,r,B,rfl⟩;cases d with
  |nil=>cases q
  |cons p d=>
   rw[cN]at q;injection q with h1 y;subst h1 y;refine aj (G p (by simp) f _ _ λi y=>?_)
   first
    |exact aq ⟨c++[p],d,i,by simp,rfl,by simp[r],∅,rfl⟩
    |exact aj (aq (aq ⟨c++[p],d,i,by simp,rfl,by simp[r],∅,rfl⟩))
 .rintro b u ⟨c,d,f,rfl,q,r,B,rfl⟩;have:d=[]:=by simp_all
  subst this;rw[jU]at h;show ao _ _ (retInt (gn b.toList)) _ _ _;rw[r];refine wpAny_ret_mkInt ?_;show ao _ _ (if(decide (-(2:Int)^63<=gn (c.map (·.2)))&&decide (gn (c.map (·.2))<2^63))=ag then _ else _) Q E _;unfold jT at h;by_cases m:(decide (-(2:Int)^63<=gn (c.map (·.2)))&&decide (gn (c.map (·.2))<2^63))=ag
  .rw[if_pos m];rw[if_pos m]at h;exact aq (h _ (by simp;lia))
  .rw[if_neg m];rw[if_neg m]at h;exact aj (lu (aq (h _ (by simp;lia))))
theorem hash_str(z:Str)(t:Tok):HsAt P w A s (.str z t) ((cn P w).hash z):=λa E Q h=>(cn P w).pyHash (s:={s with toks:=a}) (k:=z) (by show re z (.str z t)=ag;simp[re]) (h _ (tJ _))
theorem hash_int(z:Int)(t:Tok):HsAt P w A s (.int z t) ((Et P w).hash z):=λa E Q h=>(Et P w).pyHash (s:={s with toks:=a}) (k:=z) (by show Dw z (.int z t)=ag;simp[Dw]) (h _ (tJ _))
theorem quiet_tup(i:IsTup s.heap a b)(q:∀v∈b.toList,∀(E:af->ak->Prop) (Q:Bool->ak->Prop),Q ag s->ao (ar P w) A (oA n v) Q E s)(h:Q ag s):ao (ar P w) A (oA (n+1) (.ref a)) Q E s:=by
 have f:=tupTy i;obtain⟨o,p,_,m,x⟩:=i;unfold oA;refine aj (rD f F.slot_tuple_eq.lookup ?_);show ao _ _ (isInstance (.ref a) (.type "tuple") >>= _) _ _ s;refine aj (rO f isSubtype_tuple_tuple ?_);simp only[mS,fh,if_false];refine aj (pF p x ?_);refine aj ?_;show ao _ _ (forIn b _ _) _ _ s;rw[<-wj];refine oy _ (λrest r c=>r.1=ac/\c=s/\∀v∈rest,v∈b.toList) _ ?_ ?_ _ _ ⟨rfl,rfl,λv l=>l⟩
 .rintro v rest r c ⟨d,rfl,g⟩;refine aj (q v (g v ii) _ _ ?_);simp only[mS,fh,if_false];exact aq ⟨rfl,rfl,λu j=>g u (gr _ j)⟩
 .rintro⟨z,y⟩ c ⟨d,rfl,_⟩;simp only at d;subst d;exact aq h
theorem cls_tup(g:IsTup s.heap a b)(q:∀v∈b.toList,∀(E:af->ak->Prop) (Q:Bool->ak->Prop),Q ai s->ao (ar P w) A (rT n v) Q E s)(h:Q ai s):ao (ar P w) A (rT (n+1) (.ref a)) Q E s:=by
 have j:=tupTy g;obtain⟨o,p,_,m,x⟩:=g;unfold rT;refine aj (tI j ?_);dsimp only;rw[if_pos (by rfl)];refine aj (aq ?_);simp only[mS,fh,if_false];refine aj (pF p x ?_);dsimp only;refine aj ?_;rw[<-wj];refine oy _ (λrest r c=>r.1=ac/\c=s/\∀v∈rest,v∈b.toList) _ ?_ ?_ _ _ ⟨rfl,rfl,λv l=>l⟩
 .rintro v rest r c ⟨d,rfl,f⟩;refine aj (q v (f v ii) _ _ ?_);simp only[fh,if_false];exact aq ⟨rfl,rfl,λu i=>f u (gr _ i)⟩
 .rintro⟨z,y⟩ c ⟨d,rfl,_⟩;simp only at d;subst d;exact aq h
theorem hbv_tup(g:IsTup s.heap a b)(e:b.toList=pre++x::post)(B:∀v∈pre,∀(E:af->ak->Prop) (Q:Bool->ak->Prop),Q ag s->ao (ar P w) A (rV n v) Q E s)(l:∀(E:af->ak->Prop) (Q:Bool->ak->Prop),Q ai s->ao (ar P w) A (rV n x) Q E s) (h:Q ai s):ao (ar P w) A (rV (n+1) (.ref a)) Q E s:=by
 have j:=tupTy g;obtain⟨o,C,_,m,D⟩:=g;unfold rV;refine aj (rD j F.slot_tuple_hash.lookup ?_);show ao _ _ (zy (.ref a) >>= _) _ _ s;refine aj (pF C D ?_);refine aj ?_;show ao _ _ (forIn b _ _) _ _ s;rw[<-wj,e];refine oy _ (λrest r d=>r.1=ac/\d=s/\∃p,rest=p++x::post/\∀v∈p,v∈pre) _ ?_ ?_ _ _ ⟨rfl,rfl,pre,rfl,λv q=>q⟩
 .rintro v rest r d ⟨z,rfl,p,c,f⟩;cases p with
  |nil=>rw[Eu]at c;injection c with h1 h2;subst h1;refine aj (l _ _ ?_);simp only[zK,if_true];exact aq (aq h)
  |cons y p=>rw[K5]at c;injection c with h1 h2;subst h1;refine aj (B v (f v ii) _ _ ?_);simp only[mS,fh,if_false];exact aq ⟨rfl,rfl,p,h2,λu i=>f u (gr _ i)⟩
 .rintro⟨H,G⟩ d ⟨z,rfl,p,c,_⟩;cases p <;> cases c
theorem tup_uniq(c:IsTup h a x)(b:IsTup h a y):x=y:=by obtain⟨o,e,_,n,d⟩:=c;obtain⟨f,i,_,g,j⟩:=b;lia
theorem strs_uniq{a:List af}{x y:List Str}(r:bR a x)(s:bR a y):x=y:=by
 induction r generalizing y with
 |nil=>cases s;rfl
 |cons _ _ _ g=>
  cases s with
  |cons _ _ t=>rw[g t]
theorem all_getD{a b:List Str}:((ce (min a.length b.length)).all (λj=>a.getD j iU == b.getD j iU)&&a.length == b.length)=decide (a=b):=by
 rw[tE,iX,tW,decide_eq_true_iff,beq_iff_eq];constructor
 .rintro⟨g,c⟩;refine List.ext_getElem c λi f d=>?_;simp_all
 lia
theorem strs_len(h:bR a b):a.length=b.length:=h.length
theorem eq_strs(u:A.units<cLine)(o:IsTup s.heap b c)(f:bR c.toList i)(p:IsTup s.heap h a)(g:bR a.toList d):vY A s (.ref b) (.ref h) (decide (i=d)):=by
 by_cases n:b=h
 .subst n;obtain rfl:=tup_uniq o p;obtain rfl:=strs_uniq f g;rw[decide_eq_true rfl];exact .same _
 .have m:=strs_len f;have l:=strs_len g;rw[iF]at m l;rw[<-all_getD,<-m,<-l];refine .of_refs n (.tuples o p u λj r q=>?_);obtain⟨t,e⟩:=yk j c[j] f (by simp[r]);obtain⟨x,v⟩:=yk j a[j] g (by simp[q]);rw[e,v];exact DV _ _ _ _
noncomputable def PrIs(h:ax)(k:Int×List Str)(v:af):Prop:=k.2≠[]/\∃(a b:ab) (t:Tok) (c:Array af),v=.ref a/\IsTup h a #[.int k.1 t,.ref b]/\IsTup h b c/\bR c.toList k.2
theorem PrIs.inj(x:PrIs h k v)(y:PrIs h c v):k=c:=by
 obtain⟨_,a,b,t,g,rfl,l,j,i⟩:=x;obtain⟨_,r,p,q,f,e,n,o,m⟩:=y;cases e;have:=tup_uniq l n;have d:k.1=c.1/\b=p:=by lia
 obtain⟨d,rfl⟩:=d;obtain rfl:=tup_uniq j o;exact rh d (strs_uniq i m)
theorem tup_kept{d:ax}(f:IsTup h a x)(k:∀b o,h.get? b=aa o->o.cls=.type "tuple"->d.get? b=aa o):IsTup d a x:=by obtain⟨o,e,c,r⟩:=f;exact⟨o,k a o e c,c,r⟩
noncomputable def hashPr(P:aM)(w:aD)(k:Int×List Str):Int:=jT (gn [(Et P w).hash k.1,jT (gn (k.2.map (cn P w).hash))])
theorem strs_pairs(h:bR a b):a=(a.zip (b.map (cn P w).hash)).map (·.1)/\(a.zip (b.map (cn P w).hash)).map (·.2)=b.map (cn P w).hash/\∀p∈a.zip (b.map (cn P w).hash),HsAt P w A s p.1 p.2:=by
 induction h with
 |nil=>simp
 |cons z t _ d=>
  obtain⟨i,g,f⟩:=d;rw[cN,Er,cN,cN];refine⟨by rw[<-i],by rw[g],λp c=>?_⟩;rcases b8.mp c with rfl|c
  .exact hash_str z t
  .exact f p c
theorem hash_pr(n:A.units+4<cLine)(x:PrIs s.heap k v):HsAt P w A s v (hashPr P w k):=by
 obtain⟨_,a,b,t,f,rfl,m,l,j⟩:=x;obtain⟨i,h,g⟩:=strs_pairs (P:=P) (w:=w) (A:=A.in1.in1) (s:=s) j;have c:HsAt P w A.in1 s (.ref b) (jT (gn (k.2.map (cn P w).hash))):=by have:=hash_tup (P:=P) (w:=w) (A:=A.in1) (s:=s) (show A.units+1<cLine by lia) l i g;rw[h]at this;trivial
 refine hash_tup (hs:=[(.int k.1 t,(Et P w).hash k.1),(.ref b,jT (gn (k.2.map (cn P w).hash)))]) ∅ m rfl λp d=>?_;simp only[b8,fL,or_false]at d;rcases d with rfl|rfl
 .exact hash_int _ _
 trivial
theorem strs_mem_shape(h:bR a b):∀v∈a,∃z t,v=Value.str z t:=λv c=>h.all v c
def prKd(P:aM)(w:aD):Keyd P w (Int×List Str) where
 is:=PrIs
 hash:=hashPr P w
 room:=λA=>A.units+4<cLine
 keep:=λ⟨l,a,b,t,d,e,g,h,f⟩ k=>⟨l,a,b,t,d,e,tup_kept g k,tup_kept h k,f⟩
 ref:=λ⟨_,a,_,_,_,e,⟨o,g,_⟩,_⟩=>⟨a,o,e,g⟩
 eqBool:=λ{A E s x y u v Q} O B r q=>by
  by_cases m:u=v
  .subst m;obtain rfl:=B.inj r;rw[decide_eq_true rfl]at q;exact DU _ _ _ _ _ q
  .obtain⟨_,a,b,t,d,rfl,g,h,f⟩:=B;obtain⟨_,T,S,t',p,rfl,F,H,D⟩:=r;have G:decide (x=y)=((ce (min 2 2)).all (λj=>if j=0 then x.1 == y.1 else decide (x.2=y.2))&&2 == 2):=by obtain⟨M,L⟩:=x;obtain⟨J,I⟩:=y;rw[tE];simp[rG]
   rw[G]at q;refine K8 (λz=>m (by rw[z])) (.tuples g F ∅ λj C N=>?_) _ _ _ _ q
   match j,C with
   |0,_=>exact Kx _ _ _ _
   |1,_=>exact eq_strs (show A.units+1<cLine by lia) h f H D
 quiet:=λ⟨_,a,b,t,d,e,g,h,f⟩ q=>by
  subst e;refine quiet_tup (n:=7) g (λv c E Q q=>?_) q;simp only[b8,fL,or_false]at c;rcases c with rfl|rfl
  .exact iY (by unfold oA;rfl) q
  .refine quiet_tup (n:=6) h (λv c E Q q=>?_) q;obtain⟨z,t,rfl⟩:=strs_mem_shape f v c;exact iY (by unfold oA;rfl) q
 cls:=λ⟨_,a,b,t,d,e,g,h,f⟩ q=>by
  subst e;refine cls_tup (n:=7) g (λv c E Q q=>?_) q;simp only[b8,fL,or_false]at c;rcases c with rfl|rfl
  .exact iY (by unfold rT;rfl) q
  .refine cls_tup (n:=6) h (λv c E Q q=>?_) q;obtain⟨z,t,rfl⟩:=strs_mem_shape f v c;exact iY (by unfold rT;rfl) q
 hbv:=λ⟨l,a,b,t,d,e,g,h,f⟩ q=>by
  subst e;refine hbv_tup (n:=7) (pre:=[.int _ t]) (x:=.ref b) (post:=[]) g rfl (λv c E Q q=>?_) (λE Q q=>?_) q
  .simp only[b8,fL,or_false]at c;subst c;exact iY (by unfold rV;rfl) q
  .cases i:d.toList with
   |nil=>rw[i]at f;have:=strs_len f;exact absurd (D4 this.symm) l
   |cons v rest=>refine hbv_tup (n:=6) (pre:=[]) (x:=v) (post:=rest) h i (λv c=>by simp at c) (λE Q q=>?_) q;obtain⟨z,t,rfl⟩:=strs_mem_shape f v (by rw[i];simp);exact iY (by unfold rV;rfl) q
end
noncomputable def ltL(a b:List Tx):Bool:=decide (a<b)
theorem ltL_cons(x y:Tx)(b a:List Tx):ltL (x::b) (y::a)=if x=y then ltL b a else decide (x<y):=by
 unfold ltL;by_cases h:x=y
 .simp_all
 .rw[if_neg h,tE,decide_eq_true_iff,decide_eq_true_iff,List.cons_lt_cons_iff];lia
def ordL:KeyOrd where
 α:=List Tx
 blt:=ltL
 irrefl:=λa=>decide_eq_false (List.lt_irrefl a)
 trans:=λa b c f d=>decide_eq_true (List.lt_trans (of_decide_eq_true f) (of_decide_eq_true d))
 negTrans:=λa b c h=>by
  unfold ltL;by_cases g:a<b
  .exact .inl (decide_eq_true g)
  .have i:b<=a:=List.not_lt.mp g;exact .inr (decide_eq_true (List.lt_of_le_of_lt i (of_decide_eq_true h)))
 total:=λa b f d=>List.le_antisymm (List.not_lt.mp (of_decide_eq_false d)) (List.not_lt.mp (of_decide_eq_false f))
section
open PySem.SeqAt
open PySem.AutoSeq1 (wpAny_loadPart')
open PySem.MeetsSeq PySem.MeetsSeq2 PySem.MeetsSeq3
noncomputable def cpsL(a:List Str):List Tx:=a.map λz=>z.cps.toList
theorem cps_inj{x y:Str}(h:x.cps.toList=y.cps.toList):x=y:=by rw[<-sO x,<-sO y,h]
theorem tuple_lt_strs(l b:ab)(i f:Array af)(n n2:Nat)(dd T:Option ab)(sl L:Array (Option af))(N O:List Str)(hi:bR i.toList N)(hj:bR f.toList O):Meets (Builtin.«tuple.__lt__» ⟨[.ref l,.ref b],[]⟩) (λ_ R s=>s.heap.get? l=aa {cls:=.type "tuple",dict:=dd,data:=.seq i n,slots:=sl}/\s.heap.get? b=aa {cls:=.type "tuple",dict:=T,data:=.seq f n2,slots:=L} /\ R (.ok (.ret (.bool (ltL (cpsL N) (cpsL O))))) s) :=
 .of_wp λo w A R s h=>by
  obtain⟨B,g,d,r,v⟩:=s;obtain⟨hl,hb,h⟩:=h;have f2:=AutoSeq1.sub_tuple_tuple;have z1:i.size=N.length:=by rw[<-hi.length];simp
  have z2:f.size=O.length:=by rw[<-hj.length];rfl
  wp_walk using lV hl,lV hb,oy _ (λrest b M=>b.1=ac/\M=⟨B,g,d,r,v⟩/\∃(G F:List af) (j m:List Str),rest=G.zip F /\ bR G j/\bR F m/\j.length+f.size=m.length+i.size/\R (.ok (.ret (.bool (ltL (cpsL j) (cpsL m))))) ⟨B,g,d,r,v⟩) _
  case turn=>
   rintro⟨y,x⟩ rest b M ⟨P,rfl,G,F,j,m,q,J,p,D,S⟩;cases J with
   |nil=>rw[List.zip_nil_left]at q;cases q
   |cons a t X=>
    cases p with
    |nil=>rw[List.zip_nil_right]at q;cases q
    |cons c u W=>
     rw[Er]at q;injection q with hyx hrest;injection hyx with hy hx;subst hy hx;rename_i vs1 I vs2 H;have C:R (.ok (.ret (.bool (if a.cps.toList=c.cps.toList then ltL (cpsL I) (cpsL H)else decide (a.cps.toList<c.cps.toList))))) ⟨B,g,d,r,v⟩:=by rw[<-ltL_cons];exact S
     simp only[gH]at D;refine aj (EqAt.str_str a t c u o w _ _ ?_);by_cases e:a=c
     .subst e;rw[if_pos rfl]at C;rw[beq_self_eq_true]
      wp_walk
      grind
     .rw[if_neg (λz=>e (cps_inj z))]at C;rw[beq_false_of_ne e];have Z:∀(E:af->ak->Prop) (Q:af->ak->Prop),Q (.bool (decide (a.cps.toList<c.cps.toList))) ⟨B,g,d,r,v⟩->ao (ar o w) A.in1 (Ev .Lt (.str a t) (.str c u)) Q E ⟨B,g,d,r,v⟩:=λE Q h=>(Ew h:ao (ar o w) A.in1 (dE .Lt (.str a t) (.str c u)) Q E _)
      wp_walk using Z
      simp_all
  case fin=>
   rintro⟨b1,b2⟩ M ⟨P,rfl,G,F,j,m,q,J,p,D,S⟩;simp only at P;subst P;have Y:ltL (cpsL j) (cpsL m)=decide (i.size<f.size):=by
    cases J with
    |nil=>
     cases p with
     |nil=>simp only[v3]at D;exact(decide_eq_false (by simp[cpsL])).trans (decide_eq_false ⋯).symm
     |cons c u hw=>simp only[v3,gH]at D;exact(decide_eq_true (by simp[cpsL])).trans (decide_eq_true ⋯).symm
    |cons a t Y=>
     cases p with
     |nil=>simp only[v3,gH]at D;exact(decide_eq_false (by simp[cpsL])).trans (decide_eq_false ∅).symm
     |cons c u hw=>simp_all
   rw[Y]at S
   wp_walk
   exact⟨_,rfl,by assumption⟩
  grind
end
section
variable{P:aM}{w:aD}{A:aZ}{E:af->ak->Prop}{s:ak}
theorem lt_tupStrs(D:IsTup s.heap l c)(H:IsTup s.heap b a)(G:bR c.toList d)(F:bR a.toList f)(C:A.units<cLine) (h:Q (.bool (ltL (cpsL d) (cpsL f))) s):ao (ar P w) A (dE .Lt (.ref l) (.ref b)) Q E s:=by
 obtain⟨⟨J,I,v,z⟩,p,r,n,q⟩:=id D;obtain⟨⟨y,i,j,g⟩,u,o,B,m⟩:=id H;simp only at r q o m;subst r q o m;exact richCompare_meets_room (op:=.Lt) ⟨_,p,rfl⟩ ⟨_,u,rfl⟩ PySem.F.slot_tuple_lt PySem.F.entry_tuple_lt (PySem.F.args_tuple_lt_2 _ _) (tuple_lt_strs l b c a n B I i z g d f G F)
  ⟨p,u,show Value.bool (ltL (cpsL d) (cpsL f))≠Value.notImplemented/\Q (.bool (ltL (cpsL d) (cpsL f))) s from⟨(λx=>nomatch x),h⟩⟩ C
def prKey(h:ax)(n:Int):KeyKind where
 toKeyOrd:=ordL
 keyOf:=λv=>open Classical in if z:∃a,PrIs h (n,a) v then aa (cpsL z.choose)else ac
 dflt:=([]:List Tx)
theorem prKey_of(x:PrIs h (n,a) v):(prKey h n).keyOf v=aa (cpsL a):=by
 have z:∃a,PrIs h (n,a) v:=⟨a,x⟩
 have e:z.choose=a:=(Prod.mk.inj (z.choose_spec.inj x)).2;show(open Classical in if z:∃a,PrIs h (n,a) v then aa (cpsL z.choose)else ac)=_;rw[dif_pos z,e]
theorem prKey_some(x:(prKey h n).keyOf v=aa k):∃a,PrIs h (n,a) v/\cpsL a=k:=by
 by_cases z:∃a,PrIs h (n,a) v
 .obtain⟨a,z⟩:=z;rw[prKey_of z]at x;exact⟨a,z,fG x⟩
 .have:(prKey h n).keyOf v=ac:=dif_neg z;lia
theorem cpsL_inj(h:cpsL x=cpsL y):x=y:=by have:=congrArg (List.map tS) h;simpa[cpsL,fg,rH,sO]using this
theorem prLt{h:ax}(O:A.units+8<cLine)(k:∀b o,h.get? b=aa o->o.cls=.type "tuple"->s.heap.get? b=aa o):lQ (prKey h n) (pN ag) P w A s:=λE x y a b Q D C v=>by
 obtain⟨c,u,rfl⟩:=prKey_some D;obtain⟨L,r,rfl⟩:=prKey_some C;obtain⟨_,T,J,t,q,rfl,F,g,f⟩:=(prKd P w).keep u k;obtain⟨_,S,I,t',d,rfl,G,j,i⟩:=(prKd P w).keep r k;obtain⟨o,z,_,m,B⟩:=F;obtain⟨M,H,_,N,p⟩:=G;refine PySem.W.kat_lt z B H p ?_;show PySem.W.KatLex P w A ag _ Q [(Value.int n t,Value.int n t'),(Value.ref J,Value.ref I)] 0 s;refine zL (Kx n t n t' _ _ _ _ ?_);rw[beq_self_eq_true];refine Ex (zL (eq_strs ∅ g f j i _ _ _ _ ?_));by_cases e:c=L
 .subst e;rw[decide_eq_true rfl];refine Ex (PySem.W.kat_nil ?_);have:ltL (cpsL c) (cpsL c)=ai:=ordL.irrefl _;have l:Q (ltL (cpsL c) (cpsL c)) s:=v;rw[this]at l;trivial
 .rw[decide_eq_false e];refine Ey ?_;show ao _ _ (oneLt' (ag&&(1 == 0)) _ _) _ _ _;simp only[show((1:Nat) == 0)=ai from rfl,zr];refine Ez _ _ (lt_tupStrs g j f i ∅ ?_);trivial
theorem kat_all:∀(c:List af),(∀v∈c,∃d,PrIs h (n,d) v)->∃fs,K9 h c fs/\fs.length=c.length/\∀f∈fs,∃t,f=Value.int n t
 |[],_=>⟨[],K_,rfl,λf i=>by simp at i⟩
 |v::c,g=>by
  obtain⟨fs,p,l,z⟩:=kat_all c λu q=>g u (gr _ q);obtain⟨d,_,a,b,t,j,rfl,⟨o,r,y,m,x⟩,_⟩:=g v ii;refine⟨.int n t::fs,La r y x rfl p,by simp[l],λf i=>?_⟩
  grind
theorem prKind{a:List af}(b:∀v∈a,∃c,PrIs s.heap (n,c) v)(i:2<=a.length)(h:Q (pN ag) s):ao (ar P w) A (wc a.toArray) Q E s:=by
 obtain⟨fs,f,g,d⟩:=kat_all a b;refine Lb (T:=.type "int") f ∅ (λv b=>?_) (by rfl) ?_
 .obtain⟨t,rfl⟩:=d v b;exact .now
 trivial
theorem sorted_genK(hu:A.units+32<cLine)(N:ao (ar P w) A.in1 (tP v) (λa c=>∃(κ:KeyKind) (kz:il),(∀v∈a,∃k,κ.keyOf v=aa k)/\a.length<64 /\ (∀(C:aZ) (d:ax),C.units+8<cLine->(∀b o,c.heap.get? b=aa o->d.get? b=aa o)->2<=a.length->lQ κ kz P w C {c with heap:=d}/\∀{E:af->ak->Prop}{Q:il->ak->Prop},Q kz {c with heap:=d}->ao (ar P w) C (wc a.toArray) Q E {c with heap:=d}) /\ ∀(d:ax) (out:Array af) (e:Nat),(∀b o,c.heap.get? b=aa o->d.get? b=aa o) -> d.get? c.heap.objs.size=aa (dY "list" out e)->out.toList.Perm a->out.toList.Pairwise (λx y=>∀p q,κ.keyOf x=aa p->κ.keyOf y=aa q->κ.blt q p=ai)->Q (.ref c.heap.objs.size) {c with heap:=d}) E s):ao (ar P w) A (call (.builtin "sorted") [v]) Q E s:=by
 refine KF kind_sorted plain_sorted entry_sorted (args_sorted1 _) ?_;unfold KG;refine aj (m:=checkCount "sorted" 1 1 _) (aq ?_);refine aj (aP N λa c ⟨κ,kz,O,H,n,B⟩=>?_);refine aj (zv ?_);have r:(c.heap.push (dY "list" a.toArray 0)).get? c.heap.objs.size=aa (dY "list" a.toArray 0):=bU _ rfl;refine aj (d_ (jm slot_list_sort ⟨_,r,rfl⟩ entry_list_sort (FZ (κ:=κ) (kz:=kz) r (λp g=>?_) H (λd k S=>n _ d (by simp;lia) (λb o e=>k b o (cr (bu e)) (bi _ e)) S) λf g I=>⟨_,rfl,?_⟩) (args_list_sort _)))
 .have:p.1∈a:=by
   have F:p∈(a.toArray.zip a.toArray).toList:=g;rw[Array.toList_zip]at F;exact zf F |>.1
  exact O _ this
 .obtain⟨e,M⟩:=sortedHeap_at (out:=(arrOf f).map (·.2)) r;have l:(arrOf f).toList.Perm (a.zip a):=by
   have:=Ef.mp g;have Z:(kt a).toList=a.zip a:=by show(a.toArray.zip a.toArray).toList=_;simp
   rwa[Z]at this
  have same:∀p∈(arrOf f).toList,p.1=p.2:=λp g=>by have:=l.mem_iff.mp g;rw[<-List.map_id a,List.zip_map']at this;obtain⟨x,_,rfl⟩:=cX.mp this;rfl
  have Y:((arrOf f).map (·.2)).toList.Perm a:=by rw[Array.toList_map];have:=l.map (·.2);rwa[Lc (a_ _)]at this
  refine aq ⟨_,rfl,B _ _ e (λb o D=>?_) M Y ?_⟩
  .have n:b<c.heap.objs.size:=bu D;rw[sortedHeap_old (cr n) (by rw[kr];exact v7 n)];exact bi _ D
  .rw[Array.toList_map];refine pw.mpr (zJ.mpr λi j L J G p q hx hy=>?_);have T:j<(kt a).size:=by rw[<-g.size_eq];assumption
   have z:i<(arrOf f).size:=by assumption
   have u:j<(arrOf f).size:=by assumption
   have h:=I i j (ig G) T;rw[sU z,sU u]at h;have f1:=same _ (rJ L);have f2:=same _ (rJ J);have X:kO κ (arrOf f)[i]=p:=by unfold kO;simp_all
   have W:kO κ (arrOf f)[j]=q:=by unfold kO;simp_all
   rw[X,W]at h;exact h
end
section
variable{X:Cx}
abbrev PrK:=Int×List Tx
def kS(k:PrK):Int×List Str:=(k.1,k.2.map tS)
theorem kS_inj(h:kS a=kS b):a=b:=by obtain⟨j,i⟩:=a;obtain⟨g,f⟩:=b;have d:=congrArg Prod.fst h;have c:=congrArg (λx=>cpsL x.2) h;simp only[kS,cpsL,fg,rH,jx,List.map_id']at d c;rw[d,c]
def PrH(H:Hp)(k:PrK)(a:ab):Prop:=k.2≠[]/\∃b,H a=aa (.tup [.int k.1,.ref b])/\H b=aa (.tup (bz k.2))
theorem PrH.is(ok:cZ P w H h)(x:PrH H k a):PrIs h (kS k) (.ref a):=by
 obtain⟨n,b,m,l⟩:=x;obtain⟨_,j,r,p,_⟩:=(show bN P w H h a (.tup [.int k.1,.ref b])from ok a _ m)
 obtain⟨_,c,g,i,_⟩:=(show bN P w H h b (.tup (bz k.2))from ok b _ l)
 obtain⟨u,v,rfl,f,d⟩:=vals2 r;obtain⟨t,rfl⟩:=f;cases d;exact⟨λz=>n (by simpa[kS]using z),a,b,t,c.toArray,rfl,p,i,by have:=p_ g;trivial⟩
where
 vals2 {x y:V}{us:List af} (h:bE [x,y] us):∃u v,us=[u,v]/\RelV x u/\RelV y v:=by
  cases h with
  |cons h1 h=>cases h with
   |cons h2 h=>cases h with
    |nil=>exact⟨_,_,rfl,h1,h2⟩
def toV(q:PrK×ab):(Int×List Str)×af:=(kS q.1,.ref q.2)
noncomputable def addQ(a:List (PrK×ab))(q:PrK×ab):List (PrK×ab):=if q.1∈a.map (·.1)then a else a++[q]
def uniqQ(a:List (PrK×ab)):List (PrK×ab):=a.foldl addQ []
theorem addV_toV(a:List (PrK×ab))(q:PrK×ab):addV (a.map toV) (toV q)=(addQ a q).map toV:=by
 unfold addV addQ;have c:(toV q).1∈(a.map toV).map (·.1)↔q.1∈a.map (·.1):=by rw[fg,cX,cX];exact⟨λ⟨y,b,e⟩=>⟨y,b,kS_inj e⟩,λ⟨y,b,e⟩=>⟨y,b,by show kS y.1=kS q.1;rw[e]⟩⟩
 grind
theorem uniqQ_take(a:List (PrK×ab))(i:Nat)(h:i<a.length):uniqQ (a.take (i+1))=addQ (uniqQ (a.take i)) a[i]:=by unfold uniqQ;rw[Ld h,v_];rfl
theorem addQ_len(a:List (PrK×ab))(q:PrK×ab):a.length<=(addQ a q).length:=by
 unfold addQ;split
 all_goals simp
theorem uniqQ_mono(l a:List (PrK×ab)):a.length<=(l.foldl addQ a).length:=by
 induction l generalizing a with
 |nil=>simp
 |cons x r b=>exact dD (addQ_len a x) (b _)
theorem uniqQ_le(a:List (PrK×ab))(i:Nat):(uniqQ (a.take i)).length<=(uniqQ a).length:=by
 have e:uniqQ a=(a.drop i).foldl addQ (uniqQ (a.take i)):=by unfold uniqQ;rw[<-v_,wm]
 rw[e];exact uniqQ_mono _ _
theorem uniqQ_mem(l b:List (PrK×ab)):∀x∈l.foldl addQ b,x∈b\/x∈l:=by
 induction l generalizing b with
 |nil=>exact λx a=>.inl a
 |cons y r c=>
  intro x a;rcases c _ x a with z|z
  .unfold addQ at z
   grind
  simp_all
theorem uniqQ_sub(h:x∈uniqQ a):x∈a:=(uniqQ_mem a [] x h).elim (λz=>by simp at z) id
def setPHO(X:Cx)(a:ab)(b:List (PrK×ab)):HO:=.ext λh=>SetV (prKd X.prog X.w) h a (b.map toV)
def refs(a:List (PrK×ab)):List V:=a.map λq=>.ref q.2
theorem refs_vals:∀{a:List (PrK×ab)}{b:List af},bE (refs a) b->b=a.map λq=>Value.ref q.2
 |[],_,.nil=>rfl
 |q::a,_,.cons r h=>by cases r;rw[refs_vals h];rfl
theorem vals_refs:∀(a:List (PrK×ab)),bE (refs a) (a.map λq=>Value.ref q.2)
 |[]=>.nil
 |q::a=>.cons rfl (vals_refs a)
theorem call_setLP(hu:X.A.units+64<cLine)(hc:X.calm=ag):c_ X (.type "set") (λD H Q=>∃(p:ab) (c:List (PrK×ab)),D=[.ref p]/\cg X.K H p (refs c)/\(∀q∈c,PrH H q.1 q.2)/\(uniqQ c).length<4000/\∀a,H a=ac->Q (.ref a) (upd H a (setPHO X a (uniqQ c)))):=by
 intro ae s σ H D us Q I r h;obtain⟨p,c,rfl,G,hP,h4,q⟩:=h;obtain⟨u,rfl,T⟩:=vals1 r;cases T;obtain⟨y,O,Z,hz⟩:=I.list G;have N:=refs_vals O;have C:y.toArray.size=c.length:=⋯
 have f:∀(h:ax),(∀b o,b<s.heap.objs.size->s.heap.get? b=aa o->h.get? b=aa o)->∀x∈c,(prKd X.prog X.w).is h (kS x.1) (.ref x.2):=λh k x A=>(prKd X.prog X.w).keep ((hP x A).is I.hok) λb o e _=>k b o (bu e) e;refine Dk (P:=X.prog) (w:=X.w) (I.ok.hd hc) (.inl Z.isList) (J:=λi h=>SetV (prKd X.prog X.w) h s.heap.objs.size ((uniqQ (c.take i)).map toV)/\∀b o,b<s.heap.objs.size->s.heap.get? b=aa o->h.get? b=aa o)
  (λi h n ⟨S,k⟩ g=>⟨S.at λo e=>g _ o (a_ _) e,λb o l e=>g b o (ig l) (k b o l e)⟩) ⟨⟨#[],0,_,[],bU _ rfl,mP _,rfl,by decide,⟨⟨rfl,List.Pairwise.nil,(λj hj=>by trivial),(by show 7∈_;decide),(by show 0*5<7*3;decide)⟩,rfl,(λq G=>by trivial)⟩,rfl,λh=>absurd rfl h⟩,λb o _ e=>bi _ e⟩
  (λi v d E Q hi B ⟨S,k⟩ q=>?_) λn m ⟨S,_⟩ k=>?_
 .have z:i<c.length:=⋯
  obtain rfl:v=.ref c[i].2:=by rw[N]at B;simp[z]at B;exact B.symm
  have F:=f d.heap k c[i] (rJ z);unfold setAdd;refine d_ (aj (hash_pr (P:=X.prog) (w:=X.w) (s:=d) (show X.A.units+3+4<cLine by lia) F d.toks _ _ λm oC=>?_));refine set_addV (kd:=prKd X.prog X.w) (s:={d with toks:=m}) (k:=kS c[i].1) (show X.A.units+3+4<cLine by lia) S (λp hp=>?_) F (by rw[cy];exact pt (uniqQ_le c i) h4) λn b L mY=>?_
  .obtain⟨x,A,rfl⟩:=cX.mp hp;exact f d.heap k x (Le (uniqQ_sub A))
  .refine q n m b oC L ⟨?_,λb o l e=>by rw[L.2 b (cr l)];exact k b o l e⟩;rw[uniqQ_take c i z,<-addV_toV];trivial
 .have M:SetV (prKd X.prog X.w) n s.heap.objs.size ((uniqQ c).map toV):=by
   rw[C,Ee]at S;exact S
  refine⟨.ref s.heap.objs.size,_,I.laid (t':=m) (o:=setPHO X s.heap.objs.size (uniqQ c)) (λb o e=>k b o (bu e) e) (a_ _) ?_,rfl,q _ I.fresh⟩;obtain⟨es,ep,t,ss,e,_⟩:=M.ex;exact⟨M,⟨_,e⟩,λh1 h2 Y W=>Y.at W⟩
theorem call_sortedSetP(hu:X.A.units+64<cLine)(hc:X.calm=ag):c_ X (.builtin "sorted") (λF H Q=>∃(p:ab) (d:List (PrK×ab)) (n:Int),F=[.ref p]/\H p=aa (setPHO X p d)/\(∀q∈d,PrH H q.1 q.2/\q.1.1=n)/\d.length<64 /\ ∀l g,H l=ac->EA g d->g.Pairwise (λx y=>ltL y.1.2 x.1.2=ai)->Q (.ref l) (upd H l (.lst (refs g)))):=by
 intro ae s N H F us Q I r h;obtain⟨p,d,n,rfl,hq,G,h4,q⟩:=h;obtain⟨u,rfl,P⟩:=vals1 r;cases P;obtain⟨S,_,_⟩:=(show bN X.prog X.w H s.heap p (setPHO X p d)from I.hok p _ hq)
 obtain⟨J,ep,t,ps,ho,hp,Z,B,T,fM,cp⟩:=S.ex;have SE:qu X.w s.heap p J:=⟨ep,t,ho,B,T.fits (by simp),fM,λh0=>cp λz=>h0 (by simp_all)⟩
 have m:(J.toList.map (·.2)).Perm (d.map λq=>Value.ref q.2):=by rw[Z,fg];have:=hp.map (·.2);rwa[fg]at this
 refine sorted_genK ∅ (Ai (np (I.ok.hd hc)) SE λO vs pv k eg eo=>?_);obtain⟨C,g',d',t',Y⟩:=O;obtain rfl:g'=s.gens:=eg;obtain rfl:Y=s.os:=eo;have D:Inv X ae N H {s with heap:=C,drawn:=d',toks:=t'}:=by have:=Inv.call (ch:=[]) I (g':=s.gens) (d':=d') (t':=t') (Un.kept (fs:=gc X.stack) (ex:=[]) k) (I.hok.kept k) I.bare (λb hb=>absurd hb (by simp));trivial
 have a:=pv.trans m;have c:∀x∈d,PrIs C (n,x.1.2.map tS) (.ref x.2):=λx f=>by have:=(G x f).1.is D.hok;rw[<-(G x f).2];trivial
 refine⟨prKey C n,pN ag,λv A=>?_,by have:=a.length_eq;grind,λA' h2 hA i g7=>⟨prLt hA λb o e _=>i b o e,λ{E Q} W=>prKind (n:=n) (λv A=>?_) g7 W⟩,λh2 w e i gY b1 M=>?_⟩
 .obtain⟨x,f,rfl⟩:=cX.mp (a.mem_iff.mp A);exact⟨_,prKey_of (c x f)⟩
 .obtain⟨x,f,rfl⟩:=cX.mp (a.mem_iff.mp A);exact⟨_,(prKd X.prog X.w).keep (c x f) λb o e _=>i b o e⟩
 .obtain⟨g,L,j⟩:=perm_mapE (b1.trans a);refine⟨.ref _,_,D.laid (t':=t') (o:=.lst (refs g)) i (a_ _) ⟨?_,w.toList,e,by rw[L];exact vals_refs g,by trivial⟩,rfl,q _ g D.fresh j ?_⟩
  .unfold refs;rw[cy,j.length_eq];exact ig (qB ∅)
  .rw[L]at M;refine(pw.mp M).imp_of_mem λ{x y} f hy hh=>?_;have:ltL _ _=ai:=hh _ _ (prKey_of (c x (j.mem_iff.mp f))) (prKey_of (c y (j.mem_iff.mp hy)));simpa[cpsL,fg,rH,jx]using this
end
end L2
namespace Pu
open L2
section
variable{X:Cx}{e:au}{p q:Pos}
def pr1:PV->Option PrK
 |.tup [.int n,.tup b]=>(dS b).bind λa=>if a≠[] then aa (n,a)else ac
 |_=>ac
def prs:List PV->Option (List PrK)
 |[]=>aa []
 |x::a=>(pr1 x).bind λk=>(prs a).bind λb=>aa (k::b)
def prV(k:PrK):PV:=.tup [.int k.1,.tup (a6 k.2)]
noncomputable def uniqK(b:List PrK):List PrK:=b.foldl (λa k=>if k∈a then a else a++[k]) []
def leK2(a b:PrK):Bool:=!ltL b.2 a.2
def sortK(a:List PrK):List PrK:=sX leK2 a
def sortSetVP:List PV->Option PO
 |[.lst b]=>(prs b).bind λa=>if(uniqK a).length<64/\∀k∈a,k.1=(a.headD (0,[])).1 then aa (.lst ((sortK (uniqK a)).map prV))else ac
 |_=>ac
theorem pr1_eq(h:pr1 x=aa k):x=prV k/\k.2≠[]:=by
 unfold pr1 at h;split at h
 .obtain⟨c,b,a⟩:=jZ.mp h;split at a
  .rename_i f;cases a;rw[jG b];trivial
  trivial
 trivial
theorem prs_eq:∀{b:List PV}{a:List PrK},prs b=aa a->b=a.map prV/\∀k∈a,k.2≠[]
 |[],a,h=>by cases h;simp
 |x::b,a,h=>by
  obtain⟨k,m,l⟩:=jZ.mp h;obtain⟨c,j,f⟩:=jZ.mp l;cases f;obtain⟨s,r⟩:=prs_eq j;obtain⟨o,n⟩:=pr1_eq m
  grind
theorem pr_rep{K:aw}{k:PrK}{v:V}(h:aT K H F (prV k) v)(m:k.2≠[]):∃a,v=.ref a/\PrH H k a:=by obtain⟨a,u,rfl,f,j,x,rfl,r,w,l,rfl,⟨b,s,rfl,c,o⟩,n⟩:=h;rw[show l=[] from n,show j=.int k.1 from r]at f;rw[(Ws.mp o).1]at c;exact⟨a,rfl,m,b,f,c⟩
theorem prs_rep{K:aw}:∀{c:List PrK}{f:List V},bd K H F (c.map prV) f->(∀k∈c,k.2≠[])->∃b:List (PrK×ab),b.map (·.1)=c/\f=refs b/\∀q∈b,PrH H q.1 q.2/\aT K H F (prV q.1) (.ref q.2)
 |[],_,h,_=>⟨[],rfl,h,λq j=>by cases j⟩
 |k::c,_,⟨v,r,e,s,o⟩,l=>by
  obtain⟨a,rfl,x⟩:=pr_rep s (l k ii);obtain⟨b,w,m,u⟩:=prs_rep o λy n=>l y (gr _ n);refine⟨(k,a)::b,⋯,by rw[e,m];rfl,λq j=>?_⟩
  grind
theorem reps_refs{K:aw}:∀{a:List (PrK×ab)},(∀q∈a,aT K H F (prV q.1) (.ref q.2))->bd K H F ((a.map (·.1)).map prV) (refs a)
 |[],_=>rfl
 |q::a,h=>⟨_,_,rfl,h q ii,reps_refs λx b=>h x (gr _ b)⟩
theorem uniqQ_keys(l a:List (PrK×ab)):(l.foldl addQ a).map (·.1)=(l.map (·.1)).foldl (λa k=>if k∈a then a else a++[k]) (a.map (·.1)):=by
 induction l generalizing a with
 |nil=>rfl
 |cons x r b=>
  rw[ot,b,cN,ot];congr 1;unfold addQ;split
  all_goals simp
theorem sortK_uniq{m:List PrK}(o:m.Perm f)(r:∀k∈f,k.1=n)(s:m.Pairwise (λx y=>ltL y.2 x.2=ai)):m=sortK f:=by
 refine D5 (le:=λa b=>leK2 a b=ag) (λa b v u l j=>?_) (s.imp λh=>by unfold leK2;rw[h];rfl) (vU (λa b c=>?_) (λa b=>?_) f) (o.trans (so f).symm)
 .have A:=r a (o.mem_iff.mp v);have z:=r b ((so f).mem_iff.mp u);unfold leK2 at l j;have:=ordL.total a.2 b.2 (show ltL a.2 b.2=ai by simpa using j) (show ltL b.2 a.2=ai by simpa using l);exact rh (A.trans z.symm) this
 .unfold leK2;intro l j;have:=tY (O:=ordL) (a:=a.2) (b:=b.2) (c:=c.2) (show ltL b.2 a.2=ai by simpa using l) (show ltL c.2 b.2=ai by simpa using j);have:ltL c.2 a.2=ai:=this;rw[this];rfl
 .unfold leK2;cases h:ltL b.2 a.2 with
  |false=>rfl
  |true=>
   have:ltL a.2 b.2=ai:=by
    cases w:ltL a.2 b.2 with
    |false=>rfl
    |true=>exact absurd (ordL.trans _ _ _ h w) (by have:ltL b.2 b.2=ai:=ordL.irrefl _;show ¬ltL b.2 b.2=ag;rw[this];simp)
   rw[this];rfl
def rSetThenP(X:Cx)(r:List V->Hp->VK->Prop):List V->Hp->VK->Prop:=λc H Q=>∃(p:ab) (b:List (PrK×ab)),c=[.ref p]/\cg X.K H p (refs b)/\(∀q∈b,PrH H q.1 q.2)/\(uniqQ b).length<4000/\∀a,H a=ac->r [.ref a] (upd H a (setPHO X a (uniqQ b))) Q
def rSortP(X:Cx):List V->Hp->VK->Prop:=λc H Q=>∃(p:ab) (a:List (PrK×ab)) (n:Int),c=[.ref p]/\H p=aa (setPHO X p a)/\(∀q∈a,PrH H q.1 q.2/\q.1.1=n)/\a.length<64 /\
  ∀l b,H l=ac->EA b a->b.Pairwise (λx y=>ltL y.1.2 x.1.2=ai)->Q (.ref l) (upd H l (.lst (refs b)))
theorem pln_sortSetV:kc X.K (rSetThenP X (rSortP X)) sortSetVP:=λF H xs vs Q po Z O e q=>by
 unfold sortSetVP at e;split at e
 .obtain⟨v,rfl,a,us,rfl,Y,_,N⟩:=dH O;obtain⟨m,e1,L⟩:=jZ.mp e;obtain⟨rfl,b7⟩:=prs_eq e1;obtain⟨j,T,rfl,s⟩:=prs_rep N b7;split at L
  .rename_i J;cases L;have I:(uniqQ j).map (·.1)=uniqK m:=by unfold uniqQ uniqK;rw[uniqQ_keys,T];rfl
   have C:(uniqQ j).length<64:=by rw[<-cy (f:=(·.1)),I];exact J.1
   have D:∀q∈j,q.1.1=(m.headD (0,[])).1:=λq r=>J.2 _ (by grind);refine⟨a,j,rfl,.inl Y,λq r=>(s q r).1,gG C (by decide),λb x=>⟨b,uniqQ j,(m.headD (0,[])).1,rfl,upd_same,λq r=>⟨?_,D q (uniqQ_sub r)⟩,C,λl B A G W=>?_⟩⟩
   .obtain⟨h0,c,h1,h2⟩:=(s q (uniqQ_sub r)).1;exact⟨h0,c,by rw[aU (kg h1 x)];trivial,by rw[aU (kg h2 x)];trivial⟩
   .have M:l≠b:=by rintro rfl;rw[upd_same]at A;trivial
    have S:H l=ac:=by rw[aU M]at A;trivial
    have al:Al F F H (upd (upd H b (setPHO X b (uniqQ j))) l (.lst (refs B))):=(Al.new0 x).trans (Al.new0 A);have ez:B.map (·.1)=sortK (uniqK m):=by rw[<-I];refine sortK_uniq (n:=(m.headD (0,[])).1) (G.map _) (λk P=>?_) (pw.mpr W);obtain⟨y,u,rfl⟩:=cX.mp P;exact D y (uniqQ_sub u)
    refine q l F _ (λc=>c=l) al ⟨⟨_,upd_same,?_⟩,λc=>i5⟩ λc z=>?_
    .rw[<-ez];refine reps_refs λy u=>?_;exact aT.mono (λ_ h=>h) (λ_ _ _ h=>al.same.rd h) (λc o h _=>al.same c o h) _ _ (s y (uniqQ_sub (G.mem_iff.mp u))).2
    .subst z;exact⟨S,λz=>rQ (Z _ z) (λo w=>by lia),_,upd_same,trivial⟩
  trivial
 trivial
theorem dn_sortSetV(a:X.A.units+64<cLine)(b:X.calm=ag)(m:DA X E [e] i)(j:X.mg "sorted"=ac)(o:X.mg "set"=ac)(l:Gl X "sorted"^0)(f:Gl X "set"^0)(h:(jj e=ai)^0):DN X E (.Call (.Name "sorted" p) [.Call (.Name "set" q) [e] [] d] [] g) (dL sortSetVP i):=λF S s r H Q c n=>bT (jQ (call_sortedSetP a b) l j jL (fU (lO (call_setLP a b) f o oV eC (by decide) (by rfl) (dA h) rfl) gM (dA rfl)) (by decide) (by rfl) (dA rfl) rfl) (qE pln_sortSetV m c n)
end
end Pu
namespace L2
section
variable{X:Cx}{l:List au}{k:Nat}{j:Pos}
noncomputable def Cm:V->Hp->St->Prop:=λv H a=>∃p x y,v=.ref p/\H p=aa (.tup [x,y])/\a=[aa x,aa y]
theorem Ma(B:iy X f x g i)(P:X.calm=ag)(E:g[1]?=aa y)(J:f.names.lookup y=aa .local):∀C m o A z,PG (bO X f g C m o A z) (.Tuple [.Name x N,.Name y M] k j) λv w H Q=>∃D,D.length=1+1/\w.length=g.length/\Cm v H D/\Q (D++w.drop (1+1)) H:=by
 intro C m o A z T s w H v u Q I r h;obtain⟨D,_,S,⟨p,a,b,rfl,O,rfl⟩,q⟩:=h;have Y:Loc (bO X f g C m o A z).env.scope x:=B.loc.elim (λh=>.inl (v5 h)) (λh=>.inr (xX h));have W:(bO X f g C m o A z).fn x=ag\/(bO X f g C m o A z).env.scope.names.lookup x=aa .local:=B.loc.elim (λh=>.inr (v5 h)) (λh=>.inl (by show(f.names.lookup x == aa .cell)=ag;rw[h];rfl));have F:(bO X f g C m o A z).N[0]?=aa x:=by show g[0]?=aa x;rw[<-List.head?_eq_getElem?];exact B.hd
 have L:Q (((w.set 0 (aa a)).set 1 (aa b))) H:=by
  match w,S,q with
  |c::d::t,_,q=>exact q
  |[c],G,_=>rw[mR (by rw[<-G];simp)]at E;trivial
  |[],G,_=>rw[mR (by rw[<-G];simp)]at E;trivial
 refine Cr (X:=bO X f g C m o A z) (n:=2) P (tq (nV (X:=bO X f g C m o A z) B.nd F Y W) (tq (nV (X:=bO X f g C m o A z) B.nd (show(bO X f g C m o A z).N[1]?=aa y from E) (.inl (v5 J)) (.inr (v5 J))) Co)) rfl rfl T s w H _ u Q I r ⟨p,[a,b],rfl,cq.of O,rfl,a,[b],rfl,b,[],rfl,rfl,L⟩
end
end L2
namespace Pu
open L2
def vo{f:Type}(b:List Nat)(d:ad f)(x y:PV):ad f:=λa=>(aW (jH a b) a).bind λc _=>(aW (if(cU c).Nodup then gm a (.inl x::.inl y::c)else ac) a).bind λg _=>iL a (.inl x::.inl y::c) (d g)
def uQ(a:List Nat)(dt:ad Bool)(de:ad PV):List (PV×PV)->List PV->ah->R (List PV)
 |[],c,f=>.ok c f
 |x::g,c,f=>(jK (vo a dt x.1 x.2 f)).bind λk b=>match k with
  |true=>(jK (vo a de x.1 x.2 b)).bind λy d=>uQ a dt de g (c++[y]) d
  |false=>uQ a dt de g c b
def BV(c:List Nat)(h:ad (List (PV×PV)))(dt:ad Bool)(de:ad PV):ad PO:=λd=>(h d).bind λg b=>(uQ c dt de g [] b).bind λf a=>.ok (.lst f) a
theorem Gk{K:aw}{S:Nat->ab->Prop}{s:ah}{f:St}{H:Hp}{L:Type}{b:List Nat}{d:ad L}{x y:PV}{v w:V}{C:L->ah->(ab->Prop)->(Nat->ab->Prop)->Hp->Prop}(r:aY K F S s f H) (T:aT K H F x v) (Q:aT K H F y w) (h:Ok K E f F S H (jK (vo b d x y s)) C):∃O l,aY K F O l (aa v::aa w::fB f b) H/\Ok K E0 (aa v::aa w::fB f b) F O H (d l) (λa _ q _ p=>∃j B,aY K q B j f p/\bI (U S) (U B) F q H p/\C a j q B p):=by
 unfold vo at h;cases I:jH s b with
 |none=>rw[I]at h;trivial
 |some g=>
  rw[I]at h;simp only[cA,R.bind_ok]at h;by_cases D:(cU g).Nodup
  .rw[if_pos D]at h;cases A:gm s (.inl x::.inl y::g)with
   |none=>rw[A]at h;trivial
   |some l=>
    rw[A]at h;simp only[cA,R.bind_ok]at h;obtain⟨u,Z,Y⟩:=xo r I;have o:jt K f F H (.inl x::.inl y::g) (v::w::u):=⟨v,w::u,rfl,T,w,u,rfl,Q,Z⟩
    have n:aa v::aa w::fB f b=(v::w::u).map aa:=by rw[Y];rfl
    have m:(cU (.inl x::.inl y::g)).Nodup:=D;refine⟨mB (.inl x::.inl y::g) S,l,by rw[n];exact r.cal o A m,?_⟩;rw[n];cases G:d l with
    |no=>rw[G]at h;trivial
    |er c J=>
     rw[G]at h;unfold iL at h;dsimp only at h;by_cases i:iR (.inl x::.inl y::g) J=ag
     .rw[if_pos i]at h;trivial
     .rw[if_neg i]at h;trivial
    |ok a J=>
     rw[G]at h;intro q B p W X;unfold iL at h;dsimp only at h;by_cases i:iR (.inl x::.inl y::g) J=ag
     .rw[if_pos i]at h;obtain⟨P,M,N,_⟩:=r.called o A m W X (λ_ z=>z) (oY i);exact⟨_,P,M,N,h q P p M N⟩
     .rw[if_neg i]at h;trivial
  .rw[if_neg D]at h;trivial
def JE(J:It)(b:List (V×V))(R:Hp->Prop):Prop :=
 ∀H,R H->∀i,(∀x,b[i]?=aa x->J.go i H/\∀v a,J.yld i H v a->∃p,v=.ref p/\a p=aa (.tup [x.1,x.2])/\(a=H\/(H p=ac/\a=upd H p (.tup [x.1,x.2]))))/\(i=b.length->J.stop i H)
def sW(K:aw)(H:Hp)(F:ab->Prop)(b:List (PV×PV))(a:List (V×V)):Prop:=bd K H F (b.map (·.1)) (a.map (·.1))/\bd K H F (b.map (·.2)) (a.map (·.2))
def BK(X:Cx)(E:XK)(o a:au)(d:ad (List (PV×PV))):Prop:=∀F S j c H l,aY X.K F S j c H ->
 Ok X.K E c F S H (d j) (λp _ n q h=>∀J f m,sW X.K h n p f->f.length<=bh->JE J f m->(∀g i b,bI (U q) (U g) n i h b->m b)->l J h)->nQ X o a c H l
section
variable{X:Cx}{E:XK}{c:cV}{x y:Str}{g:List Str}{d:List Nat}
theorem Nq{elt:au}{Z:List au}{j:Nat}{di:ad (List (PV×PV))}{dt:ad Bool}{de:ad PV}(hi:BK X E tg L di)(ht:∀C f n r s,DF (bO X c g C f n r s) E0 Z dt) (he:∀C f n r s,DE (bO X c g C f n r s) E0 elt de){Q:VK} (rl:aY X.K F S ε w H) (h:Ok X.K E w F S H (BV d di dt de ε) (λpo _ F' S' H'=>∀a Sa,eR X.K H' F' po a Sa->(∀b,Sa b->H b=ac/\¬F' b/\¬U S' b/\∃o,H' b=aa o/\eA o)->Q (.ref a) H')):yX (nQ X tg L) Cm 1 (λw H Q=>∀C f n r s,qH (bO X c g C f n r s) Z w H Q) (λw H Q=>∀C f n r s,ix (bO X c g C f n r s) elt w H Q) (j::d) w H Q:=by
 refine hi F S ε w H _ rl ((Ok.bind h).imp λB ε1 P S1 H1 r1 g1 h1 J vs RR rs hz hw keep l hl=>?_);have h1:=h1.bind;have hvl:vs.length=B.length:=by have:=rs.1.len;simpa using this
 have a0:Al P P H1 (upd H1 l (.lst [])):=Al.new0 hl;have nF1:¬P l:=λz=>by obtain⟨o,q⟩:=r1.ex l z;lia
 have nS1:¬U S1 l:=λ⟨i,z⟩=>by obtain⟨_,_,o,q,_⟩:=r1.foot i l z;lia
 have hH:H l=ac:=jv g1 hl;refine⟨λi=>HH X.K w P S1 H1 l B.length (λε' aL=>Ok X.K E w P S1 H1 (uQ d dt de (B.drop i) aL ε') (λys' D G S2 O=>Ok X.K E w G S2 O (R.ok (PO.lst ys') D) (λpo _ F' S' H'=>∀a Sa,eR X.K H' F' po a Sa->(∀b,Sa b->H b=ac/\¬F' b/\¬U S' b/\∃o,H' b=aa o/\eA o)->Q (.ref a) H'))) i,⟨_,rfl,gW _,P,S1,ε1,[],r1.al a0,a0.grow,upd_same,nF1,nS1,rfl,a_ _,h1⟩,?_⟩;rintro i m ys H0 ⟨rfl,hi,G,S2,D,aL,r0,g0,el0,nF2,nS2,A,hyl,q2⟩;have RH:=keep S2 G H0 g0;by_cases bc:i<B.length
 .obtain⟨v,hv⟩:∃v,vs[i]?=aa v:=⟨_,eh ⋯⟩
  obtain⟨go,yl⟩:=(hw H0 RH i).1 v hv;refine .inr ⟨go,λv' O yy=>?_⟩;obtain⟨p,e1,e2,e3⟩:=yl v' O yy;subst e1;refine⟨[aa v.1,aa v.2],rfl,⟨p,_,_,rfl,e2,rfl⟩,?_⟩;have al:Al G G H0 O:=by
   rcases e3 with rfl|⟨e3,rfl⟩
   .exact Al.refl ..
   .exact Al.new0 e3
  have r2:=r0.al al;have g2:bI (U S1) (U S2) P G H1 O:=g0.trans al.grow;have el:O l=aa (.lst ys):=al.same _ _ el0;have I:=al.reps A;show ∀C f n r s,qH (bO X c g C f n r s) Z (aa v.1::aa v.2::fB w d) O _;obtain⟨Y,hx,rx⟩:=rs.1.back (show(vs.map (·.1))[i]?=aa v.1 by rw[cT,hv];rfl);obtain⟨W,hy,ry⟩:=rs.2.back (show(vs.map (·.2))[i]?=aa v.2 by rw[cT,hv];rfl);have r:B[i].1=Y:=by rw[cT,eh bc]at hx;exact fG hx
  have ey:B[i].2=W:=by rw[cT,eh bc]at hy;exact fG hy
  have ed:B.drop i=(Y,W)::B.drop (i+1):=by rw[zE bc];congr 1;exact rh r ey
  rw[ed]at q2;have rx2:=rx.grow g2 r1.fit;have ry2:=ry.grow g2 r1.fit;have q3:=Ok.bindB q2 g2;obtain⟨Sb,ss,rb,okb⟩:=Gk r2 rx2 ry2 q3;intro C f n r s;refine ht C f n r s G Sb ss _ O _ rb (okb.imp λb _ F3 _ H3 _ _ ⟨ε3,S3,r3,M,q4⟩=>?_);obtain⟨el3,nF3,nS3⟩:=M.stay el nS2 nF2;cases b with
  |false=>exact mr ⟨_,nofun,rfl,bc,F3,S3,ε3,aL,r3,g2.trans M,el3,nF3,nS3,I.grow M r2.fit,∅,q4⟩
  |true=>refine mC ?_;have q5:Ok X.K E w P S1 H1 ((jK (vo d de Y W ε3)).bind λy D=>uQ d dt de (B.drop (i+1)) (aL++[y]) D) _:=q4;obtain⟨Sc,sc,rc,okc⟩:=Gk r3 (rx2.grow M r2.fit) (ry2.grow M r2.fit) (Ok.bindB q5 (g2.trans M));show ∀C f n r s,ix (bO X c g C f n r s) elt (aa v.1::aa v.2::fB w d) H3 _;intro C f n r s;refine he C f n r s F3 Sc sc _ H3 _ rc (okc.imp λy _ F4 _ H4 _ _ ⟨ε4,S4,r4,g4,q6⟩ u ru=>?_);obtain⟨el4,nF4,nS4⟩:=g4.stay el3 nS3 nF3;have T:=(I.grow M r2.fit).grow g4 r3.fit;obtain⟨gl,N,r5⟩:=r4.lay (o':=.lst (ys++[u])) el4 trivial nF4 nS4;have g5:=((g2.trans M).trans g4).lay (o':=.lst (ys++[u])) hl;refine⟨el4,?_,_,nofun,rfl,bc,F4,S4,ε4,aL++[y],r5,g5,upd_same,nF4,nS4,(T.grow gl N).app (.one (ru.grow gl N)),by simp;omega,q6⟩;lia
 .have e:i=B.length:=∅
  subst e;refine .inl ⟨(hw H0 RH _).2 hvl.symm,?_⟩;rw[zF]at q2;exact q2 G S2 H0 r0 g0 G S2 H0 r0 (bI.refl ..) l (λb=>b=l) ⟨⟨ys,el0,A⟩,λb=>i5⟩ λb z=>by subst z;exact⟨hH,nF2,nS2,_,el0,trivial⟩
noncomputable def lE{b a:Type}(f:Nat->a):Nat->List b->List (a×b)
 |_,[]=>[]
 |n,x::h=>(f n,x)::lE f (n+1) h
theorem Be(f:Nat->b):∀(n:Nat) (a:List h),(lE f n a).map (·.2)=a
 |_,[]=>rfl
 |n,x::a=>by show x::_=_;rw[Be f (n+1) a]
theorem JU(f:Nat->b):∀(n:Nat) (a:List h) (i:Nat),(lE f n a)[i]?=(a[i]?).map λx=>(f (n+i),x)
 |_,[],i=>rfl
 |n,x::a,0=>rfl
 |n,x::a,i+1=>by show(lE f (n+1) a)[i]?=(a[i]?).map _;rw[JU f (n+1) a i,show n+1+i=n+(i+1) by lia]
theorem Bn(f:Nat->b):∀(n:Nat) (a:List h),(lE f n a).length=a.length
 |_,[]=>rfl
 |n,x::a=>by show(lE f (n+1) a).length+1=_;rw[Bn f (n+1) a];rfl
def IM(a:List PV):List (PV×PV):=lE (λi=>PV.int (i:Nat)) 0 a
theorem Ie{K:aw}:∀(n:Nat) {b:List PV}{a:List V},bd K H F b a->bd K H F ((lE (λi=>PV.int (i:Nat)) n b).map (·.1)) ((lE (λi=>V.int i) n a).map (·.1))
 |_,[],a,h=>by cases h;rfl
 |n,x::b,a,⟨v,r,e,j,f⟩=>by subst e;exact⟨_,_,rfl,rfl,Ie (n+1) f⟩
end
section
variable{X:Cx}{f:Pos}
theorem UU(i:Nat)(hN:X.N.Nodup)(B:iy X a x N' (j::cap))(L:X.calm=ag)(hi:BK X E (.Tuple [.Name x o,.Name z n] k m) b q)(T:∀C r u w v,DF (bO X a N' C r u w v) E0 c dt) (he:∀C r u w v,DE (bO X a N' C r u w v) E0 d de) (O:(N'[1]?=aa z)^0) (Z:(a.names.lookup z=aa .local)^0)(Y:(i∉l)^1) (M:(X.N[i]?=aa y)^0) (P:Loc X.env.scope y^6) (N:(iG (.ListComp d [⟨.Tuple [.Name x o,.Name z n] k m,b,c,0⟩] a g) (aa (.Name y p)) f.line X.env=pure ag)^0)(hf:a3 X y^3) (W:(∀x,km b X.env x=pure x)^4):DS X E l (.Assign [.Name y p] (.ListComp d [⟨.Tuple [.Name x o,.Name z n] k m,b,c,0⟩] a g) f) (bG i (dF (BV cap q dt de))):=λF S ε A H D J h=>
 eY (Hw (k:=1) (tgf:=Cm) (wi:=nQ X (.Tuple [.Name x o,.Name z n] k m) b) (ts:=λA H Q=>∀C r u w v,qH (bO X a N' C r u w v) c A H Q) (te:=λA H Q=>∀C r u w v,ix (bO X a N' C r u w v) d A H Q) B (by simp) L vS (Ma B L O Z)
  (λC r u w v G s A H Q I h=>(h C r u w v).run G s I) (λC r u w v G s A H Q I h=>(h C r u w v).run G s I) hN M P N hf W) (Nq hi T he J (FT Y J h))
end
end Pu
namespace PySem
open PySem.AutoSeq1 (wpAny_loadPart')
section
variable{A:aZ}{s:ak}
theorem NK{items}(f:s.heap.IsTupleIter a t i)(m:s.heap.IsTuple t items)(l:items[i]?=aa x)(p:∀g,g.IsTupleIter a t (i+1)->eG a s.heap g->Q x {s with heap:=g}):ao (ar b w) A (EB (.ref a)) Q E s:=by obtain⟨o,d,n,c⟩:=id f;obtain⟨q,j,_,r,h⟩:=m;unfold EB;refine aj (tG (name:=mN "__next__") f.typeIs EC (jm EC f.typeIs F.entry_tuple_iterator_next ?_ (F.args_tuple_iterator_next_1 _)));show ao _ _ (field (.ref a) 0 >>= _) _ _ s;refine aj (n5 d c (x:=.ref t) rfl ?_);show ao _ _ (if(Value.ref t == Value.none)=ag then _ else _) _ _ s;rw[if_neg (show ¬((Value.ref t == Value.none)=ag)from jl)];show ao _ _ (field (.ref a) 1 >>= _) _ _ s;refine aj (n5 d c (x:=.int i 0) rfl ?_);show ao _ _ (zy (.ref t) >>= _) _ _ s;refine aj (pF j h ?_);simp only[mO,l];refine aj (om d c (by simp) (aq ⟨x,rfl,aq (p _ ?_ (iI ..))⟩));exact⟨_,n8 _ d (zG (rP c _)),(KW ..).trans n,by rw[rP c];rfl⟩
theorem O7{items}(j:A.handled=ac)(d:s.heap.IsTupleIter c t i)(q:s.heap.IsTuple t items)(p:items[i]?=ac)(r:∀h e,Heap.ExtBut c s.heap h->(∃o,h.get? e=aa o/\o.cls=.type "StopIteration")->E (.ref e) {s with heap:=h}):ao (ar b w) A (EB (.ref c)) Q E s:=by
 obtain⟨o,f,y,g⟩:=id d;obtain⟨u,n,_,v,l⟩:=q;unfold EB;refine aj (tG (name:=mN "__next__") d.typeIs EC (jm EC d.typeIs F.entry_tuple_iterator_next ?_ (F.args_tuple_iterator_next_1 _)));show ao _ _ (field (.ref c) 0 >>= _) _ _ s;refine aj (n5 f g (x:=.ref t) rfl ?_);show ao _ _ (if(Value.ref t == Value.none)=ag then _ else _) _ _ s;rw[if_neg (show ¬((Value.ref t == Value.none)=ag)from jl)];show ao _ _ (field (.ref c) 1 >>= _) _ _ s;refine aj (n5 f g (x:=.int i 0) rfl ?_);show ao _ _ (zy (.ref t) >>= _) _ _ s;refine aj (pF n l ?_);simp only[mO,p];refine aj (lu (aj (om f g (by simp) ?_)));show ao _ _ (rN (.type "StopIteration") [] >>= _) _ _ _;refine aj ?_;simp only[rN,newTuple];refine aj (jW ?_ (by size_fits));refine aj (m:=zA _ _) (iY (a:=Value.none) (by first|rfl | (simp only[zA];rfl)) ?_);refine jW ?_ (by size_fits);simp only[wa];refine aj (wpAny_handled ?_)
 first|rw[show A.in1.handled=ac from j]|rw[j]
 refine aj (aq (wpAny_throw ?_));exact r _ _ (((iI ..).extBut.push _).push _) ⟨_,bU _ rfl,rfl⟩
end
theorem P_(l:ab)(a:Array af)(n:Nat)(i:Option ab)(o:Array (Option af)):Meets (Builtin.«enumerate.__new__» ⟨[.type "enumerate",.ref l],[]⟩) (λ_ R s=>s.heap.get? l=aa {cls:=.type "tuple",dict:=i,data:=.seq a n,slots:=o} /\ R (.ok (.ret (.ref (s.heap.push {cls:=.type "tuple_iterator",data:=.fields #[.ref l,.int 0 0]}).objs.size))) {s with heap:=(s.heap.push {cls:=.type "tuple_iterator",data:=.fields #[.ref l,.int 0 0]}).push {cls:=.type "enumerate",data:=.fields #[.none,.bool ai,.ref s.heap.objs.size,df 0,.none,.none]}}) :=
 .of_wp λj w A R s h=>by
  obtain⟨q,g,d,m,p⟩:=s;obtain⟨b,h⟩:=h;have u:=sub_enumerate;have f:Heap.IsTuple (Shared.heap ⟨q,g,d,m,p⟩) l a:=⟨_,b,rfl,n,rfl⟩
  wp_walk using lV b
  refine wpAny_stack_any λr=>aq ?_;split
  .rename_i c _ _ _ _ _;cases (c == Value.type "enumerate")
   .wp_walk using lV b,tT f
    exact⟨_,rfl,h⟩
   .wp_walk using lV b,tT f
    exact⟨_,rfl,h⟩
  .wp_walk using lV b,tT f
   exact⟨_,rfl,h⟩
theorem Draws.tuple{A:aZ}(f:A.handled=ac)(b l:ab)(n:l≠b)(a:Array af):Draws prog w A b [b,l] a.size (λi v=>a[i]?=aa v) (λi h=>h.IsTupleIter b l i/\h.IsTuple l a) where
 live:=λ_ _ st=>let ⟨o,ho,_⟩:=st.1;⟨o,ho⟩
 frame:=λ_ _ _ st d=>⟨let ⟨o,ho,r⟩:=st.1;⟨o,d b (by simp) o ho,r⟩,let ⟨o,ho,r⟩:=st.2;⟨o,d l (by simp) o ho,r⟩⟩
 item:=λi s Q E q st g=>by refine NK st.1 st.2 (x:=a[i]) (by simp) λm p c=>?_;exact g _ m s.toks (by simp) ⟨p,st.2.extBut c.extBut n⟩ c
 done:=λs Q E st j=>O7 f st.1 st.2 (by simp) j
section
variable{s:ak}
theorem Pg(v:s.heap.IsTuple l d)(h:∀f,IsEnum f (s.heap.objs.size+1) s.heap.objs.size 0 .none->f.IsTupleIter s.heap.objs.size l 0->f.objs.size=s.heap.objs.size+2 -> (∀b o,s.heap.get? b=aa o->f.get? b=aa o)->Q (.ref (s.heap.objs.size+1)) {s with heap:=f}):ao (ar a w) A (call (.type "enumerate") [.ref l]) Q E s:=by
 obtain⟨⟨c,m,dt,r⟩,u,j,n,i⟩:=v;replace j:c=.type "tuple":=j;replace i:dt=.seq d n:=i;subst j i;refine callType_new F.called_enumerate (by rfl) (F.typeCall_enumerate_1 _) (F.newCall_enumerate_1 _) (λg=>F.args_object_init_2 g _) F.entry_enumerate_new
  (P_ l d n m r) ⟨u,?_⟩
 have p:(s.heap.push {cls:=.type "tuple_iterator",data:=.fields #[.ref l,.int 0 0]}).objs.size=s.heap.objs.size+1:=rF ..;show _/\_;rw[p];have q:IsEnum ((s.heap.push {cls:=.type "tuple_iterator",data:=.fields #[.ref l,.int 0 0]}).push {cls:=.type "enumerate",data:=.fields #[.none,.bool ai,.ref s.heap.objs.size,df 0,.none,.none]}) (s.heap.objs.size+1) s.heap.objs.size 0 .none:=by
  have:=bU (s.heap.push {cls:=.type "tuple_iterator",data:=.fields #[.ref l,.int 0 0]})
   (o:={cls:=.type "enumerate",data:=.fields #[.none,.bool ai,.ref s.heap.objs.size,df 0,.none,.none]}) rfl
  rw[p]at this;trivial
 refine⟨⟨_,q,rfl⟩,h _ q ⟨_,bi _ (bU _ rfl),rfl,rfl⟩ (by simp) λb o x=>bi _ (bi _ x)⟩
end
end PySem
namespace L2
def yg(K:aw)(a:ab):It :=⟨λi H=>∃b x,cq K H a b/\b[i]?=aa x,λi H v d=>∃p x,H p=ac/\v=.ref p/\d=upd H p (.tup [.int i,x])/\∀c,cq K H a c->c[i]?=aa x,λi H=>∃b,cq K H a b/\b.length=i⟩
theorem PQ{K:aw}{es:List au}{k:Nat}{pos:Pos}(a e j:ab)(b7:e≠j):nB P w K (.Tuple es k pos) (yg K a) [e,j] e (λi h=>(∃l,IsEnum h e j (i:Nat) l)/\h.IsTupleIter j a i) where
 mem:=by simp
 obj:=λi h ⟨⟨l,C⟩,f⟩ b y=>by
  simp only[b8,fL,or_false]at y;rcases y with rfl|rfl
  .exact⟨_,C,λv z=>by cases z⟩
  .obtain⟨o,e,c,d⟩:=f;simp_all
 keep:=λi h h' ⟨⟨l,C⟩,f⟩ k=>⟨⟨l,k e (by simp) _ C⟩,let ⟨o,ho,r⟩:=f;⟨o,k j (by simp) o ho,r⟩⟩
 item:=by
  intro X S hw hK D i ae s σ H E I hf f hg;subst S hw hK;obtain⟨⟨l,C⟩,f⟩:=f;obtain⟨xs,x,Z,hx⟩:=hg;obtain⟨m,rv,p,hz⟩:=I.tuple Z;obtain⟨u,hu,ru⟩:=rv.get hx;obtain⟨f0,f1,f2,f3,f4,f5⟩:=hf e (by simp);obtain⟨g0,g1,g2,g3,g4,g5⟩:=hf j (by simp);have G:a≠j:=λz=>by obtain⟨o1,L,c1,_⟩:=p;obtain⟨o2,e2,c2,_⟩:=f;lia
  have hea:e≠a:=λz=>by obtain⟨o1,L,c1,_⟩:=p;lia
  have bc:i<m.toArray.size:=by have:=(cW.mp hu).1;trivial
  refine wpAny_pyNext_enum_itemD (Draws.tuple (by show X.A.in1.handled=ac;exact I.ok.hd D) j a G m.toArray) C ⟨f,p⟩ bc b7 (by simp[b7,hea]) λM h' W S ud aN ht hsz kp=>⟨_,rfl,?_⟩
  have eu:M=u:=by
   have B:m[i]?=aa M:= ~~~S
   rw[hu]at B;exact(fG B).symm
  subst eu;replace aN:=aN.1;refine wpAny_letOwnedTupleGo_enum (s:={s with heap:=h',toks:=W+1}) ud λh2 Q Y=>?_;have O:s.heap.objs.size≠e:=ln (bu C);have N:h2.get? s.heap.objs.size=aa {cls:=.type "tuple",data:=.seq #[.int i W,M]}:=(Y.2 _ O).trans ht;have A:∀b o,b≠e->b≠j->s.heap.get? b=aa o->h2.get? b=aa o:=λb o B h3 q=>(Y.2 b B).trans (kp b o B h3 q);have fr:=I.fresh;have J:∀b u,H b=aa u->b≠s.heap.objs.size:=λb u q z=>by lia
  have F:∀b o,s.heap.get? b=aa o->∃o',h2.get? b=aa o':=λb o q=>by
   by_cases B:b=e
   .subst B;exact⟨_,Q⟩
   .by_cases h3:b=j
    .subst h3;obtain⟨oi,L,_⟩:=aN;exact⟨oi,(Y.2 b B).trans L⟩
    .exact⟨o,A b o B h3 q⟩
  have I2:Inv X ae σ (upd H s.heap.objs.size (.tup [.int i,x])) {s with heap:=h2,toks:=W+1}:=by
   refine I.call' (ch:=[e,j]) rfl ⟨λb o q n _ T=>A b o (λz=>T (by simp[z])) (λz=>T (by simp[z])) q,λb o q n _ T=>⟨o.slots,A b o (λz=>T (by simp[z])) (λz=>T (by simp[z])) q⟩,λb o q n _=>by rw[aU (cr (bu q))];exact n,λb o q _=>F b o q,λb ys q=>by rw[aU (J b _ q)];exact q,λb o u q=>by rw[aU (J b _ q)];exact q,λb ps q=>⟨by rw[aU (J b _ q)];exact q,λc o e2 g=>⟨A c o (λz=>by lia) (λz=>by lia) g,by rw[aU (J c _ e2)];trivial⟩⟩⟩ (λb v q=>?_) I.bare λb y=>?_
   .by_cases y:b=s.heap.objs.size
    .subst y;rw[upd_same]at q;cases q;exact⟨by show 2<=bh;decide,[.int i W,M],.cons ⟨_,rfl⟩ (.cons ru .nil),⟨_,N,rfl,_,rfl⟩,_,N,rfl⟩
    .rw[aU y]at q;have ne1:∀c,H c≠ac->c≠e/\c≠j:=λc D=>⟨λz=>D (by rw[z];trivial),λz=>D (by rw[z];trivial)⟩
     refine(I.hok b v q).stay (λc o D r=>?_) (λc r=>by rw[aU (J c _ r)];exact r) λc ys r=>by rw[aU (J c _ r)];exact r
     have:=ne1 c (by rcases D with z|z <;> (first | (rw[<-z,q];simp) | (rw[z,q];simp) | (rw[z];simp)));exact A c o this.1 this.2 r
   .simp only[b8,fL,or_false]at y;rcases y with rfl|rfl
    .exact⟨f3,f1,f4,f5⟩
    .exact⟨g3,g1,g4,g5⟩
  refine⟨.ref s.heap.objs.size,_,I2,rfl,⟨s.heap.objs.size,x,fr,rfl,rfl,λys hy=>by rw[I.tuple_inj hy Z];trivial⟩,⟨⟨M,(show((i+1:Nat):Int)=(i:Int)+1 by rfl) ▸ Q⟩,let ⟨o,ho,r⟩:=aN;⟨o,(Y.2 j b7.symm).trans ho,r⟩⟩,λb y=>?_⟩;simp only[b8,fL,or_false]at y;rcases y with rfl|rfl
  .rw[aU (fF O)];trivial
  .obtain⟨oi,L,_⟩:=f;rw[aU (cr (bu L))];trivial
 done:=by
  intro X S hw hK D i ae s σ H E I hf f hg;subst S hw hK;obtain⟨⟨l,C⟩,f⟩:=f;obtain⟨xs,Z,hx⟩:=hg;obtain⟨m,rv,p,hz⟩:=I.tuple Z;obtain⟨g0,g1,g2,g3,g4,g5⟩:=hf j (by simp);have hl:=rv.length;have G:a≠j:=λz=>by obtain⟨o1,L,c1,_⟩:=p;obtain⟨o2,e2,c2,_⟩:=f;lia
  have hi:i=m.toArray.size:=by simp;lia
  rw[hi]at f;exact wpAny_pyNext_enum_endD (Draws.tuple (by show X.A.in1.handled=ac;exact I.ok.hd D) j a G m.toArray) C ⟨f,p⟩ λh' eb=>⟨rfl,I.turned (t':=s.toks) (λb o y e=>eb b o y e) g0 g1 g3 g4 g5⟩
 self:=λ_ _ _ _ _ f h=>wpAny_pyIter_enum f.1.choose_spec h
section
variable{X:Cx}{d:List au}{k:Nat}{c:Pos}
def Vu(K:aw)(i:TA):TI:=λg H R=>i g H λh f=>∃a b,h=[.ref a]/\cq K f a b/\(b.length<=bh->R (yg K a) f)
theorem NU{p i:Pos}(L:Gl X "enumerate")(J:X.mg "enumerate"=ac)(M:PA X [e] m)(F:(aV [e] X.env=[(ai,aS e X.env)])^0):PI X (.Tuple d k c) (.Call (.Name "enumerate" p) [e] [] i) (Vu X.K m):=by
 intro v s l H R I h;refine Call_ (o8 I L J (show dX "enumerate"=aa (.type "enumerate") by decide +kernel) (za (aP (M i v s l H _ I h) λQ f ⟨P,w,g,z,A⟩=>?_) F rfl));obtain⟨a,O,e,G,q⟩:=A;subst e;obtain⟨u,rfl,y⟩:=vals1 z;cases y;obtain⟨j,S,B,D⟩:=g.tuple G;refine Pg (show f.heap.IsTuple a j.toArray from B) λr n x E C=>?_;refine wpAny_pyIter_enum (s:={f with heap:=r}) n ?_;have N:Inv X v l w {f with heap:=r}:=g.kept (t':=f.toks) C;refine⟨f.heap.objs.size+1,[f.heap.objs.size+1,f.heap.objs.size],_,_,w,rfl,N,PQ a _ _ (Nat.succ_ne_self _),⟨⟨_,n⟩,x⟩,λb o=>?_,q D⟩;simp only[b8,fL,or_false]at o;rcases o with rfl|rfl
 .exact g.fpOk (tJ _) (g.hok.fresh (tJ _))
 .exact g.fpOk (a_ _) (g.hok.fresh (a_ _))
end
end L2
namespace Pu
open L2
section
variable{X:Cx}
theorem Q_{K:aw}:JE (yg K a) (lE (λi=>V.int i) 0 b) (λH=>cq K H a b):=λH h i=>
 ⟨λx d=>by
  rw[JU,gU]at d;obtain⟨z,c,rfl⟩:=d;refine⟨⟨b,z,h,c⟩,λv n ⟨p,w,m,l,j,g⟩=>?_⟩;have:=g b h;rw[c]at this;cases this;subst l j;rw[ou];exact⟨p,rfl,upd_same,.inr ⟨m,rfl⟩⟩,λf=>⟨b,h,by rw[f,Bn]⟩⟩
def Ht(d:ad (List PV)):ad (List (PV×PV)):=λb=>(d b).bind λx a=>match x with
 |[.tup c]=>.ok (IM c) a
 |_=>.no
theorem SQ(y:X.mg "enumerate"=ac)(b:DA X E [a] l)(z:Gl X "enumerate"^0)(x:(aV [a] X.env=[(ai,aS a X.env)])^0):BK X E (.Tuple C k q) (.Call (.Name "enumerate" p) [a] [] d) (Ht l):=λF S n f H J u h=>Bx.mk λD s I=>by
 refine NU z y eC x D s f H J I (b F S n f H _ u ((Ok.bind h).imp λo m M G L g P j N B=>?_));split at j
 .rename_i o;obtain⟨v,rfl,r⟩:=dH B;obtain⟨a,c,rfl,b,w⟩:=r;refine⟨a,c,rfl,cq.of b,λO=>j M G L g (bI.refl ..) (yg X.K a) (lE (λi=>V.int i) 0 c) (λH=>cq X.K H a c) ⟨Ie 0 w,by rw[Be];unfold IM;rw[Be];trivial⟩ (by rw[Bn];trivial) Q_ λQ W T A=>cq.of (A.imm g.fit b id)⟩
 trivial
end
abbrev fz:=List aF
noncomputable def xl(a:List (fz×PV))(k:fz)(v:PV):List (fz×PV):=if(a.any λb=>decide (b.1=k))=ag then a.map (λb=>if b.1=k then(b.1,v)else b)else a++[(k,v)]
def xE:List PV->Option fz
 |[]=>aa []
 |x::a=>(jh x).bind λk=>(xE a).map (k::·)
def tj:PV->Option fz
 |.tup a=>xE a
 |_=>ac
section
variable{K:aw}{F:ab->Prop}{S:Nat->ab->Prop}{g:ah}{f:St}{H:Hp}{i:Nat}{c:List (fz×PV)}{d:List (fz×V)}{a:ab}
theorem Hs:∀{h:List PV}{b:List V}{k:fz},bd K H F h b->xE h=aa k->b=k.map kV
 |[],b,k,r,e=>by cases r;cases e;rfl
 |x::h,b,k,⟨v,r,m,l,j⟩,e=>by simp only[xE,jZ,gU]at e;obtain⟨q,o,p,n,rfl⟩:=e;rw[m,sZ l o,Hs j n];rfl
theorem Fe(r:aT K H F x v)(e:tj x=aa k):∃b,v=.ref b/\H b=aa (.tup (k.map kV)):=by
 cases x <;> simp[tj]at e;obtain⟨b,l,rfl,j,h⟩:=r;exact⟨b,rfl,by rw[j,Hs h e]⟩
theorem jz.len(h:jz K H F c d):d.length=c.length:=by
 unfold jz at h
 induction h with
 |nil=>rfl
 |cons _ _ b=>simp[b]
theorem jz.any(h:jz K H F c d)(k:fz):(c.any λb=>decide (b.1=k))=d.any λb=>decide (b.1=k):=by
 unfold jz at h
 induction h with
 |nil=>rfl
 |cons r _ j=>rw[n9,n9,j,r.1]
theorem jz.put(h:jz K H F c d)(k:fz)(r:aT K H F x v):jz K H F (xl c k x) (gk d k v):=by
 unfold xl gk;rw[h.any k];split
 .rename_i b;clear b;unfold jz at h ⊢
  induction h with
  |nil=>exact .nil
  |@cons p q ps qs r1 _ ih=>refine .cons ?_ ih;lia
 .exact vZ h ⟨rfl,r⟩
theorem aY.dtAt(r:aY K F S g f H)(e:g[i]?=aa (.own (.dT c))):∃a d,f[i]?=aa (aa (.ref a))/\H a=aa (.dT d)/\jz K H F c d/\S i a/\∀b,S i b->b=a:=by obtain⟨a,o,⟨l,n,m⟩,j⟩:=r.own i _ e;exact⟨a,l,o,n,m,(j a).mpr rfl,λb h=>(j b).mp h⟩
end
noncomputable def ml(b:ah)(i:Nat):Option (List (fz×PV)):=match b[i]? with
 |some (.own (.dT a))=>aa a
 |_=>ac
theorem uV(h:ml b i=aa a):b[i]?=aa (.own (.dT a)):=by
 unfold ml at h;split at h
 .cases h;trivial
 trivial
section
variable{X:Cx}{E:XK}{g:List Nat}{e b c:au}{de f l:ad PV}{d:Pos}
def Bd(i:Nat)(f de:ad PV):ad aG:=λm=>(de m).bind λy h=>(aW (ml h i) h).bind λ_ h=>(f h).bind λk a=>(aW (ml a i) a).bind λj a=>(aW (tj k) a).bind λk a=>if j.length<ck then .ok .next (a.set i (.own (.dT (xl j k y))))else .no
theorem J9(i:Nat)(hu:X.A.units+64<cLine)(hb:DE X E b f)(he:DE X E e de)(hN:(X.N[i]?=aa y)^0)(cJ:cO X.env.scope y^2)(hd:av y^1) (bj:a4 y^1) (hs:(iG e (aa (.Subscript (.Name y G) b j)) d.line X.env=pure ai)^0):DS X E g (.Assign [.Subscript (.Name y G) b j] e d) (Bd i f de):=λF S M r H D W h=>by
 refine eY (FY ∅ (dR hN cJ hd bj) bL bL hs) (he F S M r H _ W (h.bindE.imp λy n F1 S1 H1 w g1 q v Q=>?_));cases C:ml n i with
 |none=>rw[C]at q;trivial
 |some J=>
  rw[C]at q;simp only[cA,R.bind_ok]at q;obtain⟨a,N,A,wN,_⟩:=w.dtAt (uV C);refine⟨.ref a,A,hb F1 S1 n r H1 _ w (q.bindE.imp λk s F2 S2 H2 I g2 m u T=>?_)⟩;cases p:ml s i with
  |none=>rw[p]at m;trivial
  |some z=>
   rw[p]at m;simp only[cA,R.bind_ok]at m;obtain⟨a',O,o,ha,L,_⟩:=I.dtAt (uV p);rw[A]at o;cases o;cases B:tj k with
   |none=>rw[B]at m;trivial
   |some x=>
    rw[B]at m;simp only[cA,R.bind_ok]at m;split at m
    .rename_i hl;obtain⟨bb,rfl,kB⟩:=Fe T B;have dG:=L.put x (Q.grow g2 w.fit);obtain⟨Y,g3⟩:=I.updO (po':=.dT (xl z x y)) (o':=.dT (gk O x v)) (uV p) rfl A trivial λH' m1 m2 P Sa Z=>⟨⟨_,P,dG.mono m1⟩,Z⟩
     exact⟨a,_,rfl,y4.t ha kB (by rw[L.len];exact fe hl kP),m F2 S2 r _ Y g3 (ju.refl _ _)⟩
    trivial
def CA:ad PO:=λa=>.ok (.dT []) a
theorem GI:DN X E (.Dict [] [] d) CA:=λF S n m H Q a h=>bT UR λp i=>by
 have al:Al F F H (upd H p (.dT [])):=Al.new0 i;refine h F S _ (a.al al) al.grow p (λb=>b=p) ⟨⟨[],upd_same,.nil⟩,λb=>i5⟩ λb z=>?_;subst z;refine⟨i,λz=>?_,λ⟨j,z⟩=>?_,_,upd_same,trivial⟩
 .obtain⟨o,q⟩:=a.ex b z;lia
 .obtain⟨_,_,o,q,_⟩:=a.foot j b z;lia
end
end Pu
namespace L2
noncomputable def lD(h:ax)(d:ab)(a:Array tN)(b:Nat):Prop:=∃o,h.get? d=aa o/\o.ExactDict/\o.data=.dict a b
section
variable{A:aZ}{s:ak}{es:Array tN}
theorem lD.ty(r:lD s.heap d es ep):s.TypeIs (.ref d) "dict":=let ⟨o,ho,hc,_⟩:=r;⟨o,ho,hc.1⟩
theorem lD.at{h':ax}(r:lD h d es ep)(k:∀o,h.get? d=aa o->h'.get? d=aa o):lD h' d es ep:=let ⟨o,ho,z⟩:=r;⟨o,k o ho,z⟩
theorem lD.lt(r:lD h d es ep):d<h.objs.size:=let ⟨o,ho,_⟩:=r;bu ho
theorem Hb(f:(d == iE)=ai)(r:lD s.heap d es ep)(q:Q (.ref s.heap.objs.size) {s with heap:=s.heap.push {cls:=.type "dict_keyiterator",data:=.fields #[.ref d,.int 0 0,.int es.size 0,.int ep 0]}}):ao (ar P w) A (mK (.ref d)) Q E s:=by have a:=r.ty;obtain⟨o,c,g,b⟩:=id r;refine KL a F.slot_dict_iter (jm F.slot_dict_iter a F.entry_dict_iter ?_ (F.args_dict_iter_1 _));unfold Builtin.«dict.__iter__» Builtin.Dict.dictSlotNone;refine aj (aj (wpAny_notOrdered_dict a ?_));refine aq (show ao _ _ (Builtin.Dict.showsAll d >>= _) _ _ s from ?_);unfold Builtin.Dict.showsAll;rw[if_neg ⋯];refine aj (aq (aj (Lf c b (aj (wpAny_dictEpoch c b ?_)))));refine aj (jW (aq ⟨_,rfl,"dict_keyiterator",_,⟨_,bU _ rfl,rfl⟩,F.slot_dict_keyiterator_next.lookup,?_⟩));trivial
theorem E5(a:s.heap.IsKeyIter it d i es.size ep)(r:lD s.heap d es ep)(m:i<es.size)(q:∀g,g.IsKeyIter it d (i+1) es.size ep->eG it s.heap g->Q (aa es[i].key) {s with heap:=g}):ao (ar P w) A (mJ (.ref it)) Q E s:=by
 obtain⟨n,c,f,b⟩:=id a;obtain⟨o,l,p,h⟩:=id r;unfold mJ;refine aj (D8 (tG (name:=mN "__next__") a.typeIs ED (jm ED a.typeIs Wb ?_ (Wc _))));refine aj (aq (aj (aj ?_)))
 first|refine aj (EE a.typeIs (aq ?_))|refine aj (EF a.typeIs (aq ?_))
 refine aj (wpAny_fieldsOf c b ?_);simp only[show Builtin.Dict_items.ownsTuple "dict_keyiterator"=ai by rfl,fh,if_false];show ao _ _ (if(Value.ref d == Value.none)=ag then _ else _) _ _ s;rw[if_neg (show ¬((Value.ref d == Value.none)=ag)from jl)];refine aj (aq (aj (Lf l h ?_)));rw[if_neg (by simp)];refine aj (aq (aj (wpAny_dictEpoch l h ?_)));rw[if_neg (by simp)];refine aq ?_;simp only[show ¬((i:Int)<0)from by simp,if_false,mO,jY m];refine aj ?_
 first|refine aj (EE a.typeIs (aq ?_))|refine aj (EF a.typeIs (aq ?_))
 refine aj (wpAny_isOneOf_keyiter a.typeIs ?_);refine show ao _ _ (lZ (.ref it) 1 (df ((i:Int)+1)) >>= _) _ _ s from aj (om c b (by simp) ?_)
 have j:(s.heap.update it (pI (·.setIfInBounds 1 (df ((i:Int)+1))))).IsKeyIter it d (i+1) es.size ep :=⟨_,n8 _ c (zG (rP b _)),(KW ..).trans f,by rw[rP b];rfl⟩
 refine aj (d_ (aj (wpAny_isOneOf_keyiter (s:={s with heap:=s.heap.update it (pI (·.setIfInBounds 1 (df ((i:Int)+1))))}) j.typeIs ?_)));exact show ao _ _ (pure es[i].key) _ _ _ from aq (aq ⟨_,rfl,aq (q _ j (iI ..))⟩)
theorem JO(o:A.handled=ac)(c:s.heap.IsKeyIter it d i es.size ep)(r:lD s.heap d es ep)(n:es.size<=i)(q:∀l,Heap.ExtBut it s.heap l->Q ac {s with heap:=l}):ao (ar P w) A (mJ (.ref it)) Q E s:=by
 obtain⟨u,g,p,h⟩:=id c;obtain⟨v,j,x,f⟩:=id r;unfold mJ;refine aj (D8 (tG (name:=mN "__next__") c.typeIs ED (jm ED c.typeIs Wb ?_ (Wc _))));refine aj (aq (aj (aj ?_)))
 first|refine aj (EE c.typeIs (aq ?_))|refine aj (EF c.typeIs (aq ?_))
 refine aj (wpAny_fieldsOf g h ?_);simp only[show Builtin.Dict_items.ownsTuple "dict_keyiterator"=ai by rfl,fh,if_false];show ao _ _ (if(Value.ref d == Value.none)=ag then _ else _) _ _ s;rw[if_neg (show ¬((Value.ref d == Value.none)=ag)from jl)];refine aj (aq (aj (Lf j f ?_)));rw[if_neg (by simp)];refine aj (aq (aj (wpAny_dictEpoch j f ?_)));rw[if_neg (by simp)];refine aq ?_;simp only[show ¬((i:Int)<0)from by simp,if_false,mO,Array.getElem?_eq_none n];refine aj ?_
 first|refine aj (EE c.typeIs (aq ?_))|refine aj (EF c.typeIs (aq ?_))
 refine show ao _ _ (lZ (.ref it) 0 .none >>= _) _ _ s from aj (om g h (by simp) ?_)
 refine show ao _ _ (rN (.type "StopIteration") [] >>= _) _ _ _ from aj ?_
 simp only[rN,newTuple];refine aj (jW ?_ (by size_fits));refine aj (m:=zA _ _) (iY (a:=Value.none) (by first|rfl | (simp only[zA];rfl)) ?_);refine jW ?_ (by size_fits);simp only[wa];refine aj (wpAny_handled ?_);rw[show A.in1.handled=ac from o];refine aj (aq (wpAny_throw ?_));refine aj (rO (T:="StopIteration") (b:=ag) ⟨_,bU _ rfl,rfl⟩ isSubtype_stop ?_);exact aq (q _ (((iI ..).extBut.push _).push _))
theorem OW(p:A.handled=ac)(I d:ab)(q:d≠I)(es:Array tN)(ep:Nat):Walks P w A I [I,d] [I] es.size (λi v=>∃e,es[i]?=aa e/\v=e.key) (λi h=>h.IsKeyIter I d i es.size ep/\lD h d es ep) where
 sub:=λb f=>⋯
 frame:=λ_ _ _ a l=>⟨a.1.at λo e=>l I (by simp) o e,a.2.at λo e=>l d (by simp) o e⟩
 item:=λi s Q E n a c=>E5 a.1 a.2 n λg r j=>c _ g s.toks ⟨es[i],by simp,rfl⟩ ⟨r,a.2.at λo e=>by rw[j.2 d q];exact e⟩ λb o f e=>j.extBut b o (λh=>f (by simp[h])) e
 done:=λs Q E a c=>JO p a.1 a.2 (a_ _) λg m=>c g s.toks λb o f e=>m b o (λh=>f (by simp[h])) e
 self:=λ_ _ _ _ a c=>wpAny_pyIter_keyiter a.1 c
theorem R9(c:(d == iE)=ai):PySem.W.KdlSrc P w "dict" d d es.size (λi v=>∃e,es[i]?=aa e/\v=e.key) (λh=>lD h d es ep) where
 type:=λ_ a=>a.ty
 there:=λ_ a=>⟨a.lt,a.lt⟩
 keep:=λ_ _ a f=>a.at λo e=>f d (.inl rfl) o e
 notList:=by rfl
 notTuple:=by rfl
 hint:=λ_ _ _ _ a b=>PySem.W.kdl_hint_dict a.ty b
 iter:=λ_ _ g a=>⟨_,_,(λ_ _ b=>Hb c a b),OW g _ d (cr a.lt) es ep,⟨⟨_,bU _ rfl,rfl,rfl⟩,a.at λo e=>bi _ e⟩⟩
end
section
variable{a:ab}
theorem Ip{h:ax}(z:h.get? a=aa o)(k:bN P w H h a (.dT c)):(a == iE)=ai/\∃j,lD h a j (mj o)/\j.size=c.length/\(c.map (·.1)).Nodup /\
  ∀(i:Nat) (e:tN),j[i]?=aa e->∃p b,c[i]?=aa p/\e.key=.ref b/\H b=aa (.tup (p.1.map kV)):=by
 obtain⟨u,E,D,g,N,j,L,C,v,I,y,G⟩:=k;rw[z]at C;cases C;have M:mj o=L:=by unfold mj;rw[I]
 have A:=y6 g;refine⟨E,j,⟨o,z,v,by rw[M];trivial⟩,by rw[<-iF,y,cy];exact A.symm,?_,λi e B=>?_⟩
 .have:c.map (·.1)=D.map (·.1):=by
   clear y G A u
   induction g with
   |nil=>rfl
   |cons r _ n=>simp[n,r.1]
  rw[this];trivial
 .rw[<-wb,y,cT]at B;obtain⟨x,v,rfl⟩:=gU.mp B;have:∀{l:List (List aF×V)}{m:List (List aF×ab×af)} (i:Nat) (x:List aF×ab×af),jS (λ(p:List aF×V) (q:List aF×ab×af)=>p.1=q.1/\H q.2.1=aa (.tup (p.1.map kV))/\RelV p.2 q.2.2) l m->m[i]?=aa x->∃p,l[i]?=aa p/\H x.2.1=aa (.tup (p.1.map kV)):=by
   intro l m i x r
   induction r generalizing i with
   |nil=>intro e;simp at e
   |cons r _ n=>
    intro e;cases i with
    |zero=>simp at e;subst e;exact⟨_,rfl,r.2.1⟩
    |succ i=>exact n i (by trivial)
  obtain⟨p,F,J⟩:=this i x g v;exact⟨p,x.2.1,F,rfl,J⟩
theorem Inv.freezeT(I:Inv X f d H s)(e:H a=aa (.dT c)):∃o,s.heap.get? a=aa o/\Inv X f d (upd H a (.frz o (.dT c))) s:=by
 have k:bN X.prog X.w H s.heap a (.dT c):=I.hok a _ e;obtain⟨z,i,h,b,o,es,ep,g,r⟩:=id k;refine⟨o,g,I.recast e (λ_ q=>by cases q) (λo u q=>?_) (λ_ q=>by cases q) (λ_ q=>by cases q) ⟨g,z,i,h,Paired.mapP b λp q z=>⟨z.1,?_,z.2.2⟩,o,es,ep,g,r⟩⟩
 .have:=I.base.frzs a o u q;lia
 .rw[aU (ul z.2.1 e (λz=>nomatch z))];exact z.2.1
theorem Inv.thawT(I:Inv X f d H s)(e:H a=aa (.frz o (.dT c)))(i:∀o u,X.H₀ a≠aa (.frz o u)):Inv X f d (upd H a (.dT c)) s:=by
 obtain⟨j,z,h,g,b,r⟩:=(show bN X.prog X.w H s.heap a (.frz o (.dT c))from I.hok a _ e)
 refine I.recast e (λ_ q=>by cases q) i (λ_ q=>by cases q) (λ_ q=>by cases q) ⟨z,h,g,Paired.mapP b λp q z=>⟨z.1,?_,z.2.2⟩,r⟩;rw[aU (ul z.2.1 e (λz=>nomatch z))];exact z.2.1
end
noncomputable def gP(o:Obj):List ab:=match o.data with
 |.dict es _=>es.toList.map λe=>match e.key with
  |.ref b=>b
  |_=>0
 |_=>[]
def sQ(a:ab)(o:Obj)(c:List (List aF×V)):It :=⟨λi H=>H a=aa (.frz o (.dT c))/\i<c.length,λi H x d=>d=H/\∃b,(gP o)[i]?=aa b/\x=.ref b,λi H=>H a=aa (.frz o (.dT c))/\c.length<=i⟩
def z8(H:Hp)(a:List (List aF×V))(bs:List ab):Prop:=bs.length=a.length/\∀(i:Nat) (b:ab),bs[i]?=aa b->∃p,a[i]?=aa p/\H b=aa (.tup (p.1.map kV))
theorem A4{h:ax}(n:h.get? a=aa o)(k:bN P w H h a (.dT d)):(a == iE)=ai/\∃es,lD h a es (mj o)/\es.size=d.length/\(d.map (·.1)).Nodup/\z8 H d (gP o)/\∀(i:Nat) (e:tN),es[i]?=aa e->∃b,(gP o)[i]?=aa b/\e.key=.ref b:=by
 obtain⟨A,es,rd,z,y,m⟩:=Ip n k;have g:gP o=es.toList.map λe=>match e.key with
  |.ref b=>b
  |_=>0:=by
  obtain⟨C,x,_,B⟩:=rd;rw[n]at x;cases x;unfold gP;rw[B]
 have l:∀(i:Nat) (e:tN),es[i]?=aa e->∃b,(gP o)[i]?=aa b/\e.key=.ref b:=λi e j=>by obtain⟨p,b,v,f,u⟩:=m i e j;refine⟨b,?_,f⟩;rw[g,cT,wb,j,mQ,f]
 refine⟨A,es,rd,z,y,⟨by rw[g,cy,iF];trivial,λi b q=>?_⟩,l⟩;have j:i<es.size:=by have:=(cW.mp q).1;rw[g,cy,iF]at this;trivial
 obtain⟨p,c,v,f,u⟩:=m i es[i] (by simp);obtain⟨D,s,r⟩:=l i es[i] (by simp);rw[q]at s;cases s;rw[f]at r;cases r;exact⟨p,v,u⟩
theorem U5{K:aw}{O:au}(a l:ab)(o:Obj)(g:List (List aF×V)):nB P w K O (sQ a o g) [l] l (λi h=>h.IsKeyIter l a i g.length (mj o)) where
 mem:=by simp
 obj:=λi h f b j=>by
  have e:b=l:= ~~~j
  subst e;obtain⟨o,e,c,d⟩:=f;simp_all
 keep:=λi h p f k=>f.at λo e=>k l (by simp) o e
 item:=by
  intro X y q z M i N s L H E I n f x;subst y q z;obtain⟨r,W⟩:=x;obtain⟨u,v⟩:=(show bN X.prog X.w H s.heap a (.frz o (.dT g))from I.hok a _ r)
  obtain⟨T,G,rd,m,_,_,S⟩:=A4 u v;obtain⟨b,j,e1⟩:=S i G[i] (by simp);obtain⟨F,D,Y,C,B,A⟩:=n l (by simp);rw[<-m]at f;refine E5 f rd ⋯ λp J Q=>?_;have I1:Inv X N L H {s with heap:=p}:=I.turned (t':=s.toks) (λb o j e=>(Q.2 b j).trans e) F D C B A;rw[m]at J;obtain⟨oi,e,c,d⟩:=id J;exact⟨G[i].key,rfl,qd (s:={s with heap:=p}) e c d (by rfl) ⟨.ref b,H,I1,by trivial,⟨rfl,b,j,rfl⟩,J,λb j=>(n b j).1⟩⟩
 done:=by
  intro X y q z M i N s L H E I n f x;subst y q z;obtain⟨r,W⟩:=x;obtain⟨u,v⟩:=(show bN X.prog X.w H s.heap a (.frz o (.dT g))from I.hok a _ r)
  obtain⟨T,G,rd,m,_⟩:=Ip u v;obtain⟨F,D,Y,C,B,A⟩:=n l (by simp);rw[<-m]at f;exact JO (I.ok.hd M) f rd ⋯ λp Z=>⟨rfl,I.turned (t':=s.toks) (λb o j e=>Z b o j e) F D C B A⟩
 self:=λ_ _ _ _ _ f h=>wpAny_pyIter_keyiter f h
section
variable{X:Cx}{c:au}
def Mn(g:TE):TI:=λf H R=>g f H λx d=>∃a b,x=.ref a/\d a=aa (.dT b)/\∀o,(b.map (·.1)).Nodup->b.length<=bh->z8 d b (gP o)->R (sQ a o b) (upd d a (.frz o (.dT b)))
theorem O8(C:PE X d m):PI X c d (Mn m):=by
 intro E s p H R I h;refine aP (C E s p H _ I h) λv g ⟨x,n,l,r,u⟩=>?_;obtain⟨a,f,e,i,q⟩:=u;subst e;cases r;obtain⟨o,B,j⟩:=l.freezeT i;obtain⟨A,F,rd,z,w,y,_⟩:=A4 (o:=o) B (show bN X.prog X.w n g.heap a (.dT f)from l.hok a _ i);refine Hb A rd ?_;rw[z];refine⟨g.heap.objs.size,[g.heap.objs.size],_,_,_,rfl,j.kept (t':=g.toks) λb o e=>bi _ e,U5 a _ o f,⟨_,bU _ rfl,rfl,rfl⟩,λb D=>?_,q o w (show bN X.prog X.w n g.heap a (.dT f)from l.hok a _ i).1 y⟩;have e:b=g.heap.objs.size:= ~~~D
 subst e;exact j.fpOk (a_ _) (j.hok.fresh (a_ _))
theorem L1{d:List (List aF×V)}(l:(gP o).length=d.length):Walk (sQ a o d) ((gP o).map .ref) (λH=>H a=aa (.frz o (.dT d))):=λH h i=>⟨λx f=>by rw[cT]at f;obtain⟨b,j,rfl⟩:=gU.mp f;have g:=(cW.mp j).1;exact⟨⟨h,⋯⟩,λy n z=>⟨z.1,by obtain⟨m,e,rfl⟩:=z.2;lia⟩⟩,λg=>⟨h,⋯⟩⟩
def thaw(a:ab)(b:List (List aF×V))(D:kR):St->Hp->Prop:=λd f=>∃o,f a=aa (.frz o (.dT b))/\D.nx d (upd f a (.dT b))
def No(j:Nat)(g:TG)(q:TS):TS:=λD l H=>∃a b,l[j]?=aa (aa (.ref a))/\H a=aa (.dT b)/\∀o,(b.map (·.1)).Nodup->b.length<=bh->z8 H b (gP o) ->
 ∃W:Nat->Nat->St->Hp->Prop,(∃m,W 0 m l (upd H a (.frz o (.dT b))))/\∀i m d f,W i m d f ->
 ((sQ a o b).stop i f/\thaw a b D d f)\/((sQ a o b).go i f/\∃N:St->Hp->Prop,(∀d f,N d f->∃n,n<m/\W (i+1) n d f)/\∀x p,(sQ a o b).yld i f x p->g x d p λh r=>q ⟨N,λ_ _=>False,thaw a b D,N⟩ h r)
theorem TC(j:Nat)(w:tz X.zz X.A X.env X.xe)(E:X.calm=ag)(G:X.N[j]?=aa y)(r:cO X.env.scope y)(C:av y)(N:a4 y)(B:PG X c g)(F:k_ X b n)(v:(∀x,km (.Name y m) X.env x=pure x)^4):PS X (.For c (.Name y m) b [] l) (No j g n):=by
 intro O s p H D I h;obtain⟨a,d,J,L,h⟩:=h;have A:∀o u,X.H₀ a≠aa (.frz o u):=λo u z=>by have:=I.base.frzs a o u z;lia
 refine aP (BF w E (O8 (dR G r C N)) B F v O s p H ⟨thaw a d D,λ_ _=>False,λ_ _=>False,λ_ _=>False⟩ I ⟨.ref a,J,a,d,rfl,L,λo S T W=>?_⟩) λf Q q=>?_
 .simp_all
 .cases f with
  |next=>obtain⟨i,Y,P,o,M,q⟩:=q;exact⟨i,_,P.thawT M A,q⟩
  |brk=>obtain⟨_,_,_,q⟩:=q;trivial
  |cont=>obtain⟨_,_,_,q⟩:=q;trivial
  |ret u=>obtain⟨_,_,_,_,_,q⟩:=q;trivial
end
section
variable{X:Cx}
def QW(f d:TE):TE:=λc H Q=>∀p,H p=ac->x5 [(f,d)] c (upd H p (.dT [])) λg a=>∃x y,g=[(x,y)]/\a p=aa (.dT [])/\∃b k,x=.ref b/\a b=aa (.tup (k.map kV))/\Q (.ref p) (upd a p (.dT [(k,y)]))
theorem Nd(hu:X.A.units+1<cLine)(L:PE X k j)(F:PE X v i):PE X (.Dict [aa k] [v] f) (QW j i):=by
 intro Z s p H Q I q;have J:=I.hok.fresh (a_ s.heap.objs.size);have I1:=I.laid (a:=s.heap.objs.size) (o:=.dT []) (h':=s.heap.push {cls:=.type "dict",data:=.dict #[]}) (t':=s.toks) (λ_ _ q=>bi _ q) (a_ _) (BN s.heap I.big);refine wpAny_Dict_any rfl rfl (by simp) (by simp) (aP ((HS L F JF) Z _ p _ (λl c=>∃x y,l=[(x,y)]/\c s.heap.objs.size=aa (.dT [])/\∃b k,x=.ref b/\c b=aa (.tup (k.map kV))/\Q (.ref s.heap.objs.size) (upd c s.heap.objs.size (.dT [(k,y)]))) I1 ?_) ?_)
 .exact q _ J
 .rintro ws s2 ⟨l,c,h,d,x,y,rfl,e,b,k,rfl,n,C⟩;cases d with
  |cons B r=>
   cases r;rename_i E;obtain⟨D,p2⟩:=E;obtain⟨A,w⟩:=B;cases (show D=Value.ref b from A);unfold storeAll;rw[List.forIn_cons];obtain⟨z,M,xs,u,Y⟩:=Fs h.hok e;cases u;refine aj (aj (wpAny_dictSet_heap (hsz:=by simp) (show(tu (gB X.prog X.w)).room X.A from ?_) (qN h.hok n) Y λh' g G=>aq ?_))
   .show X.A.units<cLine;ac_rfl
   .dsimp only;rw[List.forIn_nil];refine aq ⟨.ref s.heap.objs.size,_,?_,rfl,C⟩;obtain⟨q,T,W,m,S,P,O,_,N⟩:=g;refine um h (by rw[e];trivial) G ⟨q,m⟩ ⟨by size_fits,M,_,.cons ⟨rfl,?_,w⟩ .nil,q,T,W,m,S,P,O,N⟩;rw[aU (ul n e (λz=>nomatch z))];trivial
end
open Mx
section
variable{P:aM}{w:aD}{A:aZ}{E:af->ak->Prop}{s:ak}
noncomputable def FtIs(h:ax)(c:List Str)(v:af):Prop:=c≠[]/\∃(a:ab) (b:Array af),v=.ref a/\IsTup h a b/\bR b.toList c
theorem FtIs.inj(x:FtIs h k v)(y:FtIs h b v):k=b:=by
 obtain⟨_,a,d,rfl,g,f⟩:=x;obtain⟨_,l,c,e,i,j⟩:=y;cases e;obtain rfl:=tup_uniq g i;exact strs_uniq f j
theorem FtIs.keep{c:ax}(x:FtIs h k v)(g:∀b o,h.get? b=aa o->c.get? b=aa o):FtIs c k v:=by obtain⟨n,a,its,rfl,f,d⟩:=x;exact⟨n,a,its,rfl,tup_kept f λb o e _=>g b o e,d⟩
def ftKey(h:ax):KeyKind where
 toKeyOrd:=ordL
 keyOf:=λv=>open Classical in if z:∃a,FtIs h a v then aa (cpsL z.choose)else ac
 dflt:=([]:List Tx)
theorem ftKey_of(x:FtIs h a v):(ftKey h).keyOf v=aa (cpsL a):=by
 have z:∃a,FtIs h a v:=⟨a,x⟩
 show(open Classical in if z:∃a,FtIs h a v then aa (cpsL z.choose)else ac)=_;rw[dif_pos z,z.choose_spec.inj x]
theorem ftKey_some(x:(ftKey h).keyOf v=aa k):∃a,FtIs h a v/\cpsL a=k:=by
 by_cases z:∃a,FtIs h a v
 .obtain⟨a,z⟩:=z;rw[ftKey_of z]at x
  grind
 .have:(ftKey h).keyOf v=ac:=dif_neg z;lia
theorem lex_strs{b:Bool}{Q:Bool->ak->Prop}{m g:List af}{j f:List Str}(i:Nat){d:Bool}(q:bR m j)(o:bR g f)(l:d=decide (j.length<f.length))(h:Q (ltL (cpsL j) (cpsL f)) s):PySem.W.KatLex P w A b d Q (m.zip g) i s:=by
 induction q generalizing g f i d with
 |nil=>
  rw[List.zip_nil_left];refine PySem.W.kat_nil ?_;rw[l];refine cast (congrArg (λz=>Q z s) ?_) h;cases o with
  |nil=>exact(decide_eq_false (by simp[cpsL])).trans (decide_eq_false (by simp)).symm
  |cons c u n=>exact(decide_eq_true (by simp[cpsL])).trans (decide_eq_true (by simp)).symm
 |cons a t r p=>
  cases o with
  |nil=>rw[List.zip_nil_right];refine PySem.W.kat_nil ?_;rw[l];refine cast (congrArg (λz=>Q z s) ?_) h;exact(decide_eq_false (by simp[cpsL])).trans (decide_eq_false (by simp)).symm
  |cons c u n=>
   rw[Er];refine zL (DV a t c u _ _ _ _ ?_);have h:=ltL_cons .. ▸ h;by_cases e:a=c
   .subst e;rw[if_pos rfl]at h;rw[beq_self_eq_true];exact Ex (p (i+1) n (by rw[l];simp) h)
   .rw[if_neg (λz=>e (cps_inj z))]at h;rw[beq_false_of_ne e];refine Ey ?_;cases (b&&i == 0)with
    |true=>exact oneLt_str h
    |false=>exact Ez _ _ (Ew h)
theorem ftLt{h i:ax}(J:A.units+8<cLine)(k:∀b o,h.get? b=aa o->i.get? b=aa o):lQ (ftKey h) (pN ag) P w A {s with heap:=i}:=λE x y a b Q B z r=>by obtain⟨G,q,rfl⟩:=ftKey_some B;obtain⟨L,p,rfl⟩:=ftKey_some z;obtain⟨_,N,n,rfl,C,g⟩:=q.keep k;obtain⟨_,M,f,rfl,D,j⟩:=p.keep k;obtain⟨o,u,_,m,v⟩:=C;obtain⟨H,F,_,I,l⟩:=D;refine PySem.W.kat_lt u v F l (lex_strs 0 g j ?_ r);have d:=strs_len g;have c:=strs_len j;rw[iF]at d c;rw[d,c]
theorem ft_kind{b:List af}(c:∀v∈b,∃d,FtIs s.heap d v)(H:2<=b.length)(h:Q (pN ag) s):ao (ar P w) A (wc b.toArray) Q E s:=by
 have g:∀(b:List af),(∀v∈b,∃d,FtIs s.heap d v)->∃fs,K9 s.heap b fs/\fs.length=b.length/\∀f∈fs,∃z t,f=Value.str z t:=by
  intro b
  induction b with
  |nil=>intro _;exact⟨[],K_,rfl,λf r=>by simp at r⟩
  |cons v b x=>
   intro c;obtain⟨fs,j,q,p⟩:=x λu y=>c u (gr _ y);obtain⟨d,I,a,i,rfl,⟨o,B,F,m,D⟩,n⟩:=c v ii;cases d with
   |nil=>trivial
   |cons z G=>
    generalize C:i.toList=l at n;cases n with
    |cons _ t n=>
     refine⟨.str z t::fs,La B F D (by rw[<-wb,C];rfl) j,by simp[q],λf r=>?_⟩
     grind
 obtain⟨fs,j,q,p⟩:=g b c;refine Lb (T:=.type "str") j ∅ (λv c=>?_) (by rfl) ?_
 .obtain⟨z,t,rfl⟩:=p v c;exact .now
 trivial
end
end L2
namespace Pu
open L2
section
variable{K:aw}{F g:ab->Prop}{S:Nat->ab->Prop}{f:ah}{d:St}{H b:Hp}
mutual
theorem aT.mono2(n:∀a i,Rd H a (.lst i)->Rd b a (.lst i))(m:∀a i,H a=aa (.tup i)->b a=aa (.tup i))(l:∀a c,H a=aa (qw a c)->b a=aa (qw a c)):∀(x:PV) (v:V),aT K H F x v->aT K b F x v
 |.non,_,h=>h
 |.bl _,_,h=>h
 |.int _,_,h=>h
 |.str _,_,h=>h
 |.raw _,_,h=>h
 |.exc _,_,⟨a,e,h⟩=>⟨a,e,l a _ h⟩
 |.tup i,_,⟨a,j,e,p,o⟩=>⟨a,j,e,m a _ p,bd.mono2 n m l i j o⟩
 |.lst i,_,⟨a,j,e,p,q,o⟩=>⟨a,j,e,n a j p,q,bd.mono2 n m l i j o⟩
theorem bd.mono2(n:∀a i,Rd H a (.lst i)->Rd b a (.lst i))(m:∀a i,H a=aa (.tup i)->b a=aa (.tup i))(l:∀a c,H a=aa (qw a c)->b a=aa (qw a c)):∀(i:List PV) (j:List V),bd K H F i j->bd K b F i j
 |[],_,h=>h
 |x::i,_,⟨v,r,e,p,o⟩=>⟨v,r,e,aT.mono2 n m l x v p,bd.mono2 n m l i r o⟩
end
def qI(p:HO):Prop:=(∃a,p=.dT a)\/∃o a,p=.frz o (.dT a)
theorem qI.lst(h:qI p)(a:List V):p≠.lst a/\(∀o,p≠.frz o (.lst a))/\p≠.tup a:=by
 rcases h with⟨ws,rfl⟩|⟨o,ws,rfl⟩
 all_goals simp
section
variable{a:ab}{p q:HO}
theorem yA(g:H a=aa p)(d:qI p):∀b c,Rd H b (.lst c)->Rd (upd H a q) b (.lst c):=λb c h=>by
 have f:b≠a:=by
  rintro rfl;rcases h with h|⟨o,h⟩ <;> rw[g]at h
  .exact(d.lst c).1 (fG h)
  .exact(d.lst c).2.1 o (fG h)
 rcases h with h|⟨o,h⟩
 .exact .inl (by rw[aU f];exact h)
 .exact .inr ⟨o,by rw[aU f];exact h⟩
theorem vy(f:H a=aa p)(d:qI p):∀b c,H b=aa (.tup c)->upd H a q b=aa (.tup c):=λb c h=>by rw[aU (by rintro rfl;rw[f]at h;exact(d.lst c).2.2 (fG h))];exact h
theorem xx(f:H a=aa p)(d:qI p):∀b c,H b=aa (qw b c)->upd H a q b=aa (qw b c):=λb c h=>by
 rw[aU (by
  rintro rfl;rw[f]at h;cases h;rcases d with⟨ws,z⟩|⟨o,ws,z⟩ <;> cases z)];exact h
theorem aY.recast(r:aY K F S ε σ H)(f:H a=aa p)(d:qI p)(u:¬U S a):aY K F S ε σ (L2.upd H a q):=by
 have n:∀x v,aT K H F x v->aT K (L2.upd H a q) F x v:=aT.mono2 (yA f d) (vy f d) (xx f d);have l:∀x v,bd K H F x v->bd K (L2.upd H a q) F x v:=bd.mono2 (yA f d) (vy f d) (xx f d);have s:∀i b,S i b->b≠a:=λi b z e=>u ⟨i,e ▸ z⟩;refine⟨r.len,λb z=>?_,λi pv e=>let ⟨v,j,g⟩:=r.val i pv e;⟨v,j,n _ _ g⟩,λi po e=>let ⟨b,j,g⟩:=r.own i po e;⟨b,j,g.mono n l λc o z w=>by rw[aU (s i c z)];exact w⟩,λi b z=>?_,r.dist⟩
 .obtain⟨o,h⟩:=r.ex b z;by_cases m:b=a
  .subst m;exact⟨_,upd_same⟩
  .exact⟨o,by rw[aU m];exact h⟩
 .obtain⟨j,g,o,A,y⟩:=r.foot i b z;exact⟨j,g,o,by rw[aU (s i b z)];trivial,y⟩
end
theorem aY.putOwn(r:aY K F S ε σ H)(d:j<ε.length)(e:σ[j]?=aa (aa (.ref a)))(h:eR K H F po a Sa)(f:vF F S H Sa):aY K F (λk b=>(S k b/\k≠j)\/(k=j/\Sa b)) (ε.set j (.own po)) σ H:=by
 have:=r.setOwn d h f;have g:σ.set j (aa (.ref a))=σ:=by
  apply zB;intro k;by_cases c:j=k
  .subst c;rw[iT (by rw[<-r.len];trivial),e]
  .rw[ff c]
 rw[g]at this;trivial
end
def Fi:aF->PV
 |.inl i=>.int i
 |.inr z=>.str z.cps.toList
def pc(k:fz):PV:=.tup (k.map Fi)
def xh:aF->Bool
 |.inl _=>ag
 |.inr z=>decide (z.cps.toList.length<=ck)
def LL(a:List (fz×PV)):Bool:=a.all λp=>p.1.all xh
section
variable{K:aw}{F:ab->Prop}{H:Hp}
theorem Aj:∀{k:fz},k.all xh=ag->bd K H F (k.map Fi) (k.map kV)
 |[],_=>rfl
 |.inl i::k,h=>⟨_,_,rfl,rfl,Aj ∅⟩
 |.inr z::k,h=>by rw[rq,iX]at h;exact⟨_,_,rfl,⟨by rfl,of_decide_eq_true h.1⟩,Aj h.2⟩
theorem Tz{k:fz}(h:k.all xh=ag)(a:H b=aa (.tup (k.map kV))):aT K H F (pc k) (.ref b):=⟨b,_,rfl,a,Aj h⟩
theorem jz.keys(h:jz K H F a b):b.map (·.1)=a.map (·.1):=by
 unfold jz at h
 induction h with
 |nil=>rfl
 |cons r _ c=>simp_all
end
section
variable{X:Cx}{E:XK}{d:List Nat}{e b c:au}{de l r:ad PV}{m:Pos}
def Jk(l r:ad PV):ad PO:=λg=>(l g).bind λk f=>(r f).bind λy a=>(aW (tj k) a).bind λh a=>.ok (.dT [(h,y)]) a
theorem Of(hu:X.A.units+64<cLine)(hb:DE X E b l)(hc:DE X E c r):DN X E (.Dict [aa b] [c] m) (Jk l r):=λF S T L H Q v h=>by
 refine bT (Nd ∅ bL bL) λp C=>?_;have al:Al F F H (upd H p (.dT [])):=Al.new0 C;have nF:¬F p:=λz=>by obtain⟨o,q⟩:=v.ex p z;lia
 have nS:¬U S p:=λ⟨i,z⟩=>by obtain⟨_,_,o,q,_⟩:=v.foot i p z;lia
 have D:bI (U S) (U S) F F H (upd H p (.dT [])):=al.grow;refine hb F S T L _ _ (v.al al) ((Ok.bindB h D).imp λk j F1 S1 H1 M I h1 u W=>?_);obtain⟨e1,A,x⟩:=I.stay (upd_same:upd H p (.dT []) p=aa (.dT [])) nS nF;refine hc F1 S1 j L H1 _ M ((Ok.bindB h1 (D.trans I)).imp λy P O S2 H2 Z G g w n=>?_);obtain⟨N,f,a⟩:=G.stay e1 x A;cases J:tj k with
 |none=>rw[J]at g;trivial
 |some B=>rw[J]at g;simp only[cA,R.bind_ok]at g;have s:aT X.K H2 O k u:=W.grow G M.fit;obtain⟨bb,rfl,kB⟩:=Fe s J;refine⟨_,_,rfl,N,bb,B,rfl,kB,?_⟩;obtain⟨gl,fit,Y⟩:=Z.lay (o':=.dT [(B,w)]) N trivial f a;have g3:=((D.trans I).trans G).lay (o':=.dT [(B,w)]) C;refine g O S2 _ Y g3 p (λb=>b=p) ⟨⟨_,upd_same,.cons ⟨rfl,n.grow gl fit⟩ .nil⟩,λb=>i5⟩ λb z=>?_;subst z;exact⟨C,f,a,_,upd_same,trivial⟩
noncomputable def Ct(i j:Nat):ad aG:=λa=>match a[j]? with
 |some (.own f)=>if i<a.length then .ok .next ((a.set j .none).set i (.own f))else .no
 |_=>.no
theorem N_(i j:Nat)(J:X.N.Nodup)(B:(i∉d)^1)(C:(X.N[i]?=aa x)^0)(v:Loc X.env.scope x^6)(A:(iG (.Name y n) (aa (.Name x p)) m.line X.env=pure ai)^0)(G:a3 X x^3) (g:(X.N[j]?=aa y)^0) (w:cO X.env.scope y^2)(I:av y^1) (N:a4 y^1):DS X E d (.Assign [.Name x p] (.Name y n) m) (Ct i j):=λF S P O H D f h=>by
 unfold Ct at h;split at h
 .rename_i Q M;split at h
  .rename_i T;obtain⟨a,L,u⟩:=f.own j _ M;refine eY (CZ J C v (dR g w I N) A G) ⟨_,L,?_⟩;refine h F _ _ H ((f.drop j).setOwn (Sa:=S j) (by rw[kn];trivial) u λb z=>⟨(f.foot j b z).2.1,λ⟨k,s,q⟩=>q (f.dist k j b s z),(f.foot j b z).2.2⟩) ⟨λ_ z=>z,λ_ _ z _=>z,λ_ o z=>⟨o,z⟩,λ_ z=>.inl z,λb ⟨k,z⟩=>?_⟩ (ju.set B);rcases z with z|⟨_,z⟩
   .exact .inl ⟨k,z.1.1⟩
   .exact .inl ⟨j,z⟩
  .exact h.elim
 .exact h.elim
def Bt(i j:Nat)(l:ad aG):ad aG:=λg=>(aW (ml g j) g).bind λa g=>if LL a=ag then match li i l (a.map λp=>pc p.1) (g.set j .none)with
 |.ok .next f=>if j<f.length then .ok .next (f.set j (.own (.dT a)))else .no
 |_=>.no else .no
theorem Oh(i j:Nat){yp:Pos}{O:List aR}{l:ad aG}(r8:tz X.zz X.A X.env X.xe)(hc:X.calm=ag)(hN:X.N.Nodup)(hb:fP X E (j::d) O l)(hp:(i∉j::d)^1) (hx:(X.N[i]?=aa x)^0) (hl:Loc X.env.scope x^6) (hs:(∀x,km (.Name y yp) X.env x=pure x)^4)(hf:a3 X x^3) (hNj:(X.N[j]?=aa y)^0) (hv:cO X.env.scope y^2)(hd:av y^1) (bj:a4 y^1):DS X E d (.For (.Name x p) (.Name y yp) O [] m) (Bt i j l):=λF S ε σ H D rl h=>by
 unfold Bt at h;cases e0:ml ε j with
 |none=>rw[e0]at h;exact h.elim
 |some M=>
  rw[e0]at h;simp only[cA,R.bind_ok]at h;split at h;rotate_left
  .exact h.elim
  rename_i hok;split at h;rotate_left
  .exact h.elim
  rename_i W Lq;split at h;rotate_left
  .exact h.elim
  rename_i hje;obtain⟨a,C,ea,ha,hk,m8,hSo⟩:=rl.dtAt (uV e0);have pV:=hk.keys;refine eY (TC j r8 hc hNj hv hd bj (nV hN hx hl hf) nL hs) ⟨a,C,ea,ha,λo nd hz mi=>?_⟩;have P:¬U (λk b=>S k b/\k≠j) a:=λ⟨k,z1,z2⟩=>z2 (rl.dist k j a z1 m8);have hFa:¬F a:=(rl.foot j a m8).2.1;have r0:aY X.K F (λk b=>S k b/\k≠j) (ε.set j .none) σ (upd H a (.frz o (.dT C))):=(rl.drop j).recast ha (.inl ⟨_,rfl⟩) P;have A:∀(n:Nat) (b:ab),(gP o)[n]?=aa b->∃k,(M.map λp=>pc p.1)[n]?=aa (pc k)/\k.all xh=ag/\H b=aa (.tup (k.map kV)):=λn b hb=>by
   obtain⟨p,h1,h2⟩:=mi.2 n b hb;have h3:(C.map (·.1))[n]?=aa p.1:=by rw[cT,h1];rfl
   rw[pV,cT]at h3;obtain⟨q,h4,h5⟩:=gU.mp h3;refine⟨p.1,by rw[cT,h4,mQ,h5],?_,h2⟩;have:=tW.mp hok q (mM h4);lia
  have bo:(gP o).length=(M.map λp=>pc p.1).length:=by rw[cy,mi.1,hk.len]
  generalize hxs:(M.map λp=>pc p.1)=xs at Lq A bo;have fin:∀G L u B,aY X.K G L W u B->bI (U λk b=>S k b/\k≠j) (U L) F G (upd H a (.frz o (.dT C))) B->ju (j::d) σ u->thaw a C D u B:=by
   intro G L u B r' I Q;have p8:B a=aa (.frz o (.dT C)):=I.keep a _ upd_same P;obtain⟨_,nF',nS'⟩:=I.stay (upd_same:upd H a (.frz o (.dT C)) a=_) P hFa;have dt:qI (.frz o (.dT C)):=.inr ⟨_,_,rfl⟩;have dt0:qI (.dT C):=.inl ⟨_,rfl⟩;have Z:aY X.K G L W u (upd B a (.dT C)):=r'.recast p8 dt nS';have mZ:jz X.K (upd B a (.dT C)) G M C:=hk.mono λx v z=>aT.mono2 (yA p8 dt) (vy p8 dt) (xx p8 dt) _ _ ((aT.mono2 (yA ha dt0) (vy ha dt0) (xx ha dt0) _ _ z:aT X.K (upd H a (.frz o (.dT C))) F x v).grow I r0.fit);have r4:=Z.putOwn (po:=.dT M) (Sa:=λb=>b=a) hje (by rw[Q j (by simp)];trivial) ⟨⟨C,upd_same,mZ⟩,λ_=>i5⟩ λb z=>by subst z;exact⟨nF',nS',_,upd_same,trivial⟩
   refine⟨o,p8,h G _ u _ r4 ⟨I.fro,λb o' e n=>?_,λb o' e=>?_,λb z=>?_,λb ⟨k,z⟩=>?_⟩ λk hk=>Q k (by simp[hk])⟩
   .have N:b≠a:=by rintro rfl;exact n ⟨j,m8⟩
    rw[aU N];exact I.keep b o' (by rw[aU N];exact e) λ⟨k,z⟩=>n ⟨k,z.1⟩
   .by_cases N:b=a
    .subst N;exact⟨_,upd_same⟩
    .obtain⟨o2,q⟩:=I.there b o' (by rw[aU N];exact e);exact⟨o2,by rw[aU N];exact q⟩
   .rcases I.fnew b z with w|w|⟨k,w⟩
    .exact .inl w
    .refine .inr (.inl ?_);by_cases N:b=a
     .lia
     .rw[aU N]at w;exact w
    .exact .inr (.inr ⟨k,w.1⟩)
   .rcases z with z|⟨_,z⟩
    .rcases I.onew b ⟨k,z.1⟩with⟨k',w⟩|w
     .exact .inl ⟨k',w.1⟩
     .by_cases N:b=a
      .subst N;rw[upd_same]at w;cases w
      .rw[aU N]at w;exact .inr w
    .subst z;exact .inl ⟨j,m8⟩
  refine Cn (D:=⟨thaw a C D,λ_ _=>False,λ_ _=>False,λ_ _=>False⟩) (L1 mi.1) (λn u B=>∃G L J,aY X.K G L J u B/\bI (U λk b=>S k b/\k≠j) (U L) F G (upd H a (.frz o (.dT C))) B/\ju (j::d) σ u/\li i l (xs.drop n) J=.ok .next W) ⟨F,_,_,r0,bI.refl ..,ju.refl _ _,Lq⟩ (λn u B _ ⟨G,L,J,_,g,_⟩=>g.keep a _ upd_same P) ?_ ?_
  .rintro n v u B hv' ⟨G,L,J,r',I,Q,q⟩;rw[cT]at hv';obtain⟨bb,kB,rfl⟩:=gU.mp hv';obtain⟨k,kF,dG,jq⟩:=A n bb kB;have hn:n<xs.length:=(cW.mp kF).1;have ed:xs.drop n=pc k::xs.drop (n+1):=by rw[zE hn];congr 1;exact(cW.mp kF).2
   rw[ed]at q;have se:upd H a (.frz o (.dT C)) bb=aa (.tup (k.map kV)):=vy ha (.inl ⟨_,rfl⟩) _ _ jq;have hk5:B bb=aa (.tup (k.map kV)):=I.imm r0.fit se (λz=>z);have r2:=r'.set (i:=i) (Tz (K:=X.K) (F:=G) dG hk5);have gl:bI (U L) (U λj b=>L j b/\j≠i) G G B B:=bI.less i;show nE X O _ (u.set i (aa (.ref bb))) B;refine hb G _ _ _ B _ r2 ?_;unfold li at q;cases e:l (J.set i (.val (pc k)))with
   |no=>rw[e]at q;cases q
   |er c Y=>rw[e]at q;cases q
   |ok f Y=>
    rw[e]at q;cases f with
    |next=>exact λF3 S3 T H3 Z g3 p3=>⟨F3,S3,Y,Z,(I.trans gl).trans g3,(Q.trans (ju.set hp)).trans p3,q⟩
    |cont=>exact λF3 S3 T H3 Z g3 p3=>⟨F3,S3,Y,Z,(I.trans gl).trans g3,(Q.trans (ju.set hp)).trans p3,q⟩
    |brk=>
     cases q;exact λF3 S3 T H3 Z g3 p3=>fin F3 S3 T H3 Z ((I.trans gl).trans g3) ((Q.trans (ju.set hp)).trans p3)
    |ret s=>cases q
  .rintro u B ⟨G,L,J,r',I,Q,q⟩;rw[cy,bo,zF]at q;cases q;exact fin G L u B r' I Q
end
end Pu
namespace L2
open Mx
def jB(a b:List Tx):Bool:=!ltL b a
def sY(a:List (List Tx)):List (List Tx):=sX jB a
theorem Vv(a b:List Tx):(jB a b||jB b a)=ag:=by
 unfold jB;cases h:ltL b a with
 |false=>rfl
 |true=>
  have:ltL a b=ai:=by
   cases c:ltL a b with
   |false=>rfl
   |true=>exact absurd (ordL.trans _ _ _ h c) (by have:ltL b b=ai:=ordL.irrefl _;show ¬ltL b b=ag;rw[this];simp)
  rw[this];rfl
theorem Nu(a b c:List Tx)(f:jB a b=ag)(d:jB b c=ag):jB a c=ag:=by unfold jB at *;have:ltL c a=ai:=tY (O:=ordL) (a:=a) (b:=b) (c:=c) (show ltL b a=ai by simpa using f) (show ltL c b=ai by simpa using d);rw[this];rfl
theorem Up(a b:List Tx)(d:jB a b=ag)(c:jB b a=ag):a=b:=by unfold jB at *;exact ordL.total a b (show ltL a b=ai by simpa using c) (show ltL b a=ai by simpa using d)
theorem Iu(a:List (List Tx)):(sY a).Perm a:=so a
theorem Vt(c:List (List Tx)):(sY c).Pairwise (λa b=>jB a b=ag):=vU Nu Vv c
theorem SU{d:List (List Tx)}(g:d.Perm c)(f:d.Pairwise (λx y=>jB x y=ag)):d=sY c :=D5 (le:=λa b=>jB a b=ag) (λa b _ _=>Up a b) f (Vt c) (g.trans (Iu c).symm)
def uy(k:List Tx):List aF:=k.map λx=>Sum.inr (tS x)
theorem M9(k:List Tx):(uy k).map kV=bz k:=by simp[uy,bz,kV,tV]
section
variable{X:Cx}
theorem SS(ok:cZ P w H h)(e:H a=aa (.tup (bz k)))(c:k≠[]):FtIs h (k.map tS) (.ref a):=by
 obtain⟨_,b,r,p,_⟩:=(show bN P w H h a (.tup (bz k))from ok a _ e)
 exact⟨λz=>c (~~~z),a,b.toArray,rfl,p,by have:=p_ r;omega⟩
theorem Nt(hu:X.A.units+64<cLine)(hc:X.calm=ag):c_ X (.builtin "sorted") (λxs H Q=>∃(d:ab) (a:List (List aF×V)) (c:List (List Tx)),xs=[.ref d]/\H d=aa (.dT a)/\a.map (·.1)=c.map uy/\(∀k∈c,k≠[])/\c.length<64 /\ ∀l (W:List (List Tx×ab)),H l=ac->(∀q∈W,H q.2=aa (.tup (bz q.1)))->W.map (·.1)=sY c->Q (.ref l) (upd H l (.lst (W.map λq=>.ref q.2)))):=by
 intro ae s σ H xs us Q I r h;obtain⟨d,a,c,rfl,hd,hk,b7,hz,q⟩:=h;obtain⟨u,rfl,ru⟩:=vals1 r;cases ru;obtain⟨o,ho,_⟩:=I.freezeT hd;obtain⟨hs,es,rd,Z,nd,C,kC⟩:=A4 ho (show bN X.prog X.w H s.heap d (.dT a)from I.hok d _ hd);have A:a.length=c.length:=by have:=congrArg n4 hk;simpa using this
 have D:∀x∈c.zip (gP o),H x.2=aa (.tup (bz x.1)):=λx g=>by
  obtain⟨n,L⟩:=List.getElem?_of_mem g;rw[zD]at L;obtain⟨p,h1,f⟩:=C.2 n _ L.2;have O:(a.map (·.1))[n]?=aa p.1:=by rw[cT,h1];rfl
  rw[hk,cT,L.1,mQ]at O;rw[f,<-fG O,M9]
 refine sorted_genK ∅ (PySem.W.kdu_collect (R9 (P:=X.prog) (w:=X.w) (es:=es) (ep:=mj o) hs) (np (I.ok.hd hc)) rd (by rw[Z,A];exact ig (qB ∅)) λm G T k N=>?_);have I1:Inv X ae σ H {s with heap:=m,toks:=G}:=I.kept (t':=G) k;have lw:T.toList=(c.zip (gP o)).map λx=>Value.ref x.2:=by
  have F:(c.zip (gP o)).map (λx=>Value.ref x.2)=(gP o).map Value.ref:=by rw[<-Lc (l₁:=c) (l₂:=gP o) (by rw[C.1,A];simp),fg];simp[Lc,C.1,A]
  rw[F];apply zB;intro n;by_cases L:n<es.size
  .have hna:n<T.size:=by rw[N.1];trivial
   obtain⟨e,h1,f⟩:=N.2 n T[n] (by simp);obtain⟨b,O,h4⟩:=kC n e h1;rw[cT,O,wb,jY hna,f,h4];rfl
  .rw[mR (by rw[iF,N.1];ac_rfl),mR (by rw[cy,C.1,<-Z];ac_rfl)]
 have i:∀(f:ax),(∀b o,m.get? b=aa o->f.get? b=aa o)->∀x∈c.zip (gP o),FtIs f (x.1.map tS) (.ref x.2):=λf j x g=>(SS I1.hok (D x g) (b7 _ (zf g).1)).keep j;have mem:∀v∈T.toList,∃x∈c.zip (gP o),v=.ref x.2:=λv J=>by
  grind
 refine⟨ftKey m,pN ag,λv J=>?_,by rw[iF,N.1,Z,A];trivial,λA' f hA j g7=>⟨ftLt hA j,λ{E Q} qq=>ft_kind (s:={s with heap:=f,toks:=G}) (λv J=>?_) g7 qq⟩,λf Y e j gY b1 b2=>?_⟩
 .obtain⟨x,g,rfl⟩:=mem v J;exact⟨_,ftKey_of (i m (λ_ _ z=>z) x g)⟩
 .obtain⟨x,g,rfl⟩:=mem v J;exact⟨_,i f j x g⟩
 .rw[lw]at b1;obtain⟨B,F,S⟩:=perm_mapE b1;have M:∀q∈B,q∈c.zip (gP o):=λq hq=>S.mem_iff.mp hq;refine⟨.ref _,_,I1.laid (t':=G) (o:=.lst (B.map λq=>.ref q.2)) j (a_ _) ⟨?_,Y.toList,e,?_,by trivial⟩,rfl,q _ B I1.fresh (λq hq=>D q (M q hq)) ?_⟩
  .rw[cy,S.length_eq,List.length_zip];have:=qB (n:=a.length) ∅;lia
  .rw[F];clear F S M
   induction B with
   |nil=>exact .nil
   |cons q B ih=>exact .cons rfl ih
  .refine SU ?_ ?_
   .have:=S.map (·.1);rwa[List.map_fst_zip (by rw[C.1,A];simp)]at this
   .rw[F]at b2;refine pw.mpr ((pw.mp b2).imp_of_mem λ{x y} g hy hh=>?_);have:=hh _ _ (ftKey_of (i m (λ_ _ z=>z) x (M x g))) (ftKey_of (i m (λ_ _ z=>z) y (M y hy)));have:ltL (cpsL (y.1.map tS)) (cpsL (x.1.map tS))=ai:=this;simp only[cpsL,fg,rH,jx,List.map_id']at this;unfold jB;rw[this];rfl
end
end L2
namespace Pu
open L2
def xk:fz->Option (List Tx)
 |[]=>aa []
 |.inr z::r=>(xk r).map (z.cps.toList::·)
 |_=>ac
def vp:List (fz×PV)->Option (List (List Tx))
 |[]=>aa []
 | (k,_)::r=>(xk k).bind λt=>(vp r).map (t::·)
theorem FS:∀{k:fz}{t:List Tx},xk k=aa t->k=uy t
 |[],t,h=>by cases h;rfl
 |.inr z::r,t,h=>by simp only[xk,gU]at h;obtain⟨l,a,rfl⟩:=h;rw[FS a];rfl
 |.inl _::_,_,h=>by cases h
theorem Ib:∀{a:List (fz×PV)}{b:List (List Tx)},vp a=aa b->a.map (·.1)=b.map uy
 |[],b,h=>by cases h;rfl
 | (k,_)::r,b,h=>by simp only[vp,jZ,gU]at h;obtain⟨t,d,f,c,rfl⟩:=h;rw[cN,cN,Ib c,FS d]
def GL(k:List Tx):PV:=.tup (a6 k)
def GA(a:List (fz×PV)):Option PO:=(vp a).bind λb=>if b.length<64/\(∀k∈b,k≠[]/\∀x∈k,x.length<=ck)then aa (.lst ((sY b).map GL))else ac
def ym(i:Nat):ad PO:=λa=>(aW (ml a i) a).bind λb a=>aW (GA b) a
theorem JS{X:Cx}(i:Nat)(N:X.A.units+64<cLine)(W:X.calm=ag)(O:X.mg "sorted"=ac)(Z:(X.N[i]?=aa y)^0)(cJ:cO X.env.scope y^2)(T:av y^1) (bj:a4 y^1) (P:Gl X "sorted"^0):DN X E (.Call (.Name "sorted" p) [.Name y I] [] n) (ym i):=λF S G σ H Q g h=>by
 unfold ym at h;cases B:ml G i with
 |none=>rw[B]at h;exact h.elim
 |some r=>
  rw[B]at h;simp only[cA,R.bind_ok]at h;obtain⟨a,J,ea,Y,u,ia,_⟩:=g.dtAt (uV B);unfold GA at h;cases A:vp r with
  |none=>rw[A]at h;exact h.elim
  |some s=>
   rw[A,iZ]at h;split at h
   .rename_i v;refine bT (jQ (Nt N W) P O jL (fU (dR Z cJ T bj) gM (dA rfl)) (by decide) (by rfl) (dA rfl) rfl) ⟨.ref a,ea,a,J,s,rfl,Y,by rw[u.keys];exact Ib A,λk u=>(v.2 k u).1,v.1,λl d D m f=>?_⟩;have al:Al F F H (L2.upd H l (.lst (d.map λq=>.ref q.2))):=Al.new0 D;have reps:∀(d:List (List Tx×ab)),(∀q∈d,H q.2=aa (.tup (bz q.1))/\∀x∈q.1,x.length<=ck)->bd X.K H F ((d.map (·.1)).map GL) (d.map λq=>.ref q.2):=by
     intro d
     induction d with
     |nil=>intro _;rfl
     |cons q d L=>intro m;obtain⟨h1,h2⟩:=m q ii;exact⟨_,_,rfl,⟨q.2,bz q.1,rfl,h1,Ws.mpr ⟨rfl,h2⟩⟩,L λz M=>m z (gr _ M)⟩
    refine h F S _ (g.al al) al.grow l (λc=>c=l) ⟨⟨_,upd_same,?_⟩,λc=>i5⟩ λb z=>?_
    .rw[<-f];refine al.reps (reps d λq C=>⟨m q C,?_⟩);have:q.1∈sY s:=by rw[<-f];exact cX.mpr ⟨q,C,rfl⟩
     exact(v.2 _ ((Iu s).mem_iff.mp this)).2
    .subst z;exact⟨D,λz=>rQ (g.ex _ z) (λo w=>by lia),λ⟨j,z⟩=>rQ (g.foot j b z).2.2 (λo w=>by lia),_,upd_same,trivial⟩
   .exact h.elim
end Pu
namespace L2
theorem Rp{s:ak}{f:List af}(v:IsTup s.heap t #[])(x:IsTup s.heap b f.toArray)(h:Q (.ref b) s):ao (ar P w) A (gR .Add (.ref t) (.ref b)) Q E s:=by
 obtain⟨⟨z,y,p,r⟩,j,m,n,l⟩:=id v;obtain⟨⟨q,c,d,a⟩,o,i,u,g⟩:=id x;simp only at m l i g;subst m l i g;exact concat_meets ⟨_,j,rfl⟩ ⟨_,o,rfl⟩ Kn seq_tuple_add Ko Kq (Kr _ _)
  (tuple_addW0 t b #[] f.toArray n u y c r a rfl) ⟨j,o,h⟩
noncomputable def yE(K:aw):R2:=λx y H Q=>∃a b c,x=.ref a/\y=.ref b/\cq K H a []/\cq K H b c/\Q (.ref b) H
theorem WE:cj X (gR .Add) (yE X.K):=by
 intro w s o H x y v u Q I f d h;obtain⟨a,b,p,rfl,rfl,n,m,q⟩:=h;cases f;cases d;obtain⟨l,g,j,_⟩:=I.tuple n;obtain⟨c,r,i,_⟩:=I.tuple m;cases g;exact Rp j i ⟨.ref b,H,I,rfl,q⟩
end L2
namespace Pu
open L2
def vE:PV->PV->Option PV
 |.tup [],.tup a=>aa (.tup a)
 |x,y=>bn x y
theorem ut:cj X (gR .Add) (λx y H Q=>yE X.K x y H Q\/uO X.K x y H Q):=WE.or cM
theorem BG{K:aw}:P2 K (λx y H Q=>yE K x y H Q\/uO K x y H Q) vE:=λF H x y v u Q pv d c e q=>by
 unfold vE at e;split at e
 .cases e;obtain⟨a,h,rfl,f,i⟩:=d;obtain⟨b,g,rfl,j,l⟩:=id c;rw[show h=[] from i]at f;exact .inl ⟨a,b,g,rfl,rfl,cq.of f,cq.of j,q _ F H (Al.refl ..) c⟩
 .exact .inr (cG F H _ _ v u Q pv d c e q)
end Pu
namespace L2
section
variable{X:Cx}
theorem U7(z:X.calm=ag):c_ X (.type "set") (λf H Q=>∃(p:ab) (c:List Tx),f=[.ref p]/\cq X.K H p (bz c)/\(bP c).length<4000/\∀a,H a=ac->Q (.ref a) (upd H a (cY X a (bP c)))):=by
 intro N s C H f D Q I r h;obtain⟨p,c,rfl,x,A,q⟩:=h;obtain⟨u,rfl,l⟩:=vals1 r;cases l;obtain⟨d,g,v,F⟩:=I.tuple x;have y:=g.length;rw[qR]at y;refine HB (P:=X.prog) (w:=X.w) (I.ok.hd z) (.inr v) (by simpa using p_ g) (by rw[eJ,show d.length=c.length by ac_rfl,xy,cy];trivial) λB j S k=>?_;have i:bB X.prog X.w B s.heap.objs.size ((bP c).map tS):=by
  have e:d.toArray.size=c.length:=∅
  rw[e,xy]at S;exact S
 refine⟨.ref s.heap.objs.size,_,I.laid (t':=j) (o:=cY X s.heap.objs.size (bP c)) (λb o e=>k b o (bu e) e) (a_ _) ?_,rfl,q _ I.fresh⟩;obtain⟨L,M,t,E,e,_⟩:=i.ex;exact⟨i,⟨_,e⟩,λJ G n m=>n.at m⟩
end
end L2
namespace Pu
open L2
section
variable{X:Cx}{p:Pos}
def vt:List PV->Option PO
 |[.tup b]=>(dS b).bind λa=>if(bP a).length<64 then aa (.lst (a6 (b_ (bP a))))else ac
 |_=>ac
def Oe(X:Cx)(r:List V->Hp->VK->Prop):List V->Hp->VK->Prop:=λc H Q=>∃(p:ab) (b:List Tx),c=[.ref p]/\cq X.K H p (bz b)/\(bP b).length<4000/\∀a,H a=ac->r [.ref a] (upd H a (cY X a (bP b))) Q
theorem NI:kc X.K (Oe X (NM X)) vt:=λF H I J Q M D s e q=>by
 unfold vt at e;split at e
 .obtain⟨v,rfl,a,L,rfl,C,j⟩:=dH s;obtain⟨h,G,n⟩:=jZ.mp e;rw[jG G]at j;obtain⟨rfl,A⟩:=Ws.mp j;split at n
  .rename_i m;cases n;refine⟨a,h,rfl,cq.of C,gG m (by decide),λb B=>⟨b,bP h,rfl,upd_same,m,λl i=>?_⟩⟩;have r:l≠b:=by rintro rfl;rw[upd_same]at i;trivial
   have u:H l=ac:=by rw[aU r]at i;trivial
   have al:Al F F H (upd (upd H b (cY X b (bP h))) l (.lst (bz (b_ (bP h))))):=(Al.new0 B).trans (Al.new0 i);refine q l F _ (λc=>c=l) al ⟨⟨_,upd_same,Ws.mpr ⟨rfl,λx y=>A x ((sL _ _).mp ((nt _).mem_iff.mp y))⟩⟩,λc=>i5⟩ λc z=>?_;subst z;exact⟨u,λz=>rQ (D _ z) (λo w=>by lia),_,upd_same,trivial⟩
  trivial
 trivial
theorem FP(a:X.calm=ag)(l:DA X E [e] g)(i:X.mg "sorted"=ac)(n:X.mg "set"=ac)(j:Gl X "sorted"^0)(c:Gl X "set"^0)(h:(jj e=ai)^0):DN X E (.Call (.Name "sorted" p) [.Call (.Name "set" q) [e] [] d] [] f) (dL vt g):=λF S r o H Q b m=>bT (jQ (BC a) j i jL (fU (lO (U7 a) c n oV eC (by decide) (by rfl) (dA h) rfl) gM (dA rfl)) (by decide) (by rfl) (dA rfl) rfl) (qE NI l b m)
end
end Pu
namespace L2
open Mx
section
variable{P:aM}{w:aD}{A:aZ}{E:af->ak->Prop}{s:ak}
noncomputable def vD(P:aM)(w:aD)(A:aZ)(h:ax)(v:af)(x:Int)(d:Nat):Prop :=
 ∀(s:ak) (E:af->ak->Prop) (Q:Int->ak->Prop),s.heap=h->Q x {s with toks:=s.toks+d}->ao (ar P w) A (pyHash v) Q E s
theorem G6{hs:List (af×Int×Nat)}(u:A.units<cLine)(r:IsTup h a f)(y:f.toList=hs.map (·.1))(z:∀p∈hs,vD P w A.in1 h p.1 p.2.1 p.2.2):vD P w A h (.ref a) (jT (gn (hs.map (·.2.1)))) ((hs.map (·.2.2)).sum+1):=λs E Q C j=>by
 subst C;have g:s.TypeIs (.ref a) "tuple":=tupTy r;obtain⟨o,v,_,n,B⟩:=r;unfold pyHash
 first|unfold pyHashByItsType|skip
 first|refine aj (wpAny_cRoomFor_or (.inr u) ?_)|skip
 refine aj (rD g F.slot_tuple_hash.lookup ?_);show ao _ _ (if(aa (Value.builtin "tuple.__hash__") == aa Value.none)=ag then _ else _) Q E _;rw[if_neg ⋯];refine aj (rD g F.slot_tuple_hash.lookup ?_);show ao _ _ (V_ (.ref a) "__hash__" _ >>= _) Q E _;refine aj (Wa g Es (jm Es g F.entry_tuple_hash ?_ (F.args_tuple_hash_1 _)));show ao _ _ (DM (.ref a) >>= _) _ _ _;refine aj (wpAny_tupleItemsOf v B ?_);refine aj ?_;rw[<-wj,y];refine oy _
  (λrest (b:Array Int) q=>∃c d,hs=c++d/\rest=d.map (·.1)/\b.toList=c.map (·.2.1)/\q={s with toks:=s.toks+(c.map (·.2.2)).sum})
  _ ?_ ?_ _ _ ⟨[],hs,rfl,rfl,rfl,rfl⟩
 .rintro x rest b q ⟨c,d,rfl,l,m,rfl⟩;cases d with
  |nil=>cases l
  |cons p d=>
   rw[cN]at l;injection l with h1 h2;subst h1 h2;refine aj (z p (by simp) _ _ _ rfl ?_)
   first
    |exact aq ⟨c++[p],d,by simp,rfl,by simp[m],by simp[Nat.add_assoc]⟩
    |exact aj (aq (aq ⟨c++[p],d,by simp,rfl,by simp[m],by simp[Nat.add_assoc]⟩))
 .rintro b q ⟨c,d,rfl,l,m,rfl⟩;have:d=[]:=by simp_all
  subst this;rw[jU]at j;show ao _ _ (retInt (gn b.toList)) _ _ _;rw[m];refine wpAny_ret_mkInt ?_;show ao _ _ (if(decide (-(2:Int)^63<=gn (c.map (·.2.1)))&&decide (gn (c.map (·.2.1))<2^63))=ag then _ else _) Q E _;unfold jT at j;by_cases i:(decide (-(2:Int)^63<=gn (c.map (·.2.1)))&&decide (gn (c.map (·.2.1))<2^63))=ag
  .rw[if_pos i];rw[if_pos i]at j;exact aq (by trivial)
  .rw[if_neg i];rw[if_neg i]at j;exact aj (lu (aq (by trivial)))
theorem FJ(z:Str)(t:Tok):vD P w A h (.str z t) (mI w z) 1:=λs E Q _ a=>(cn P w).pyHash (s:=s) (k:=z) (by show re z (.str z t)=ag;simp[re]) a
noncomputable def uC(h:ax)(k:Str×List Str)(a:ab):Prop:=∃(b:ab) (t:Tok) (c:Array af),IsTup h a #[.str k.1 t,.ref b]/\IsTup h b c/\bR c.toList k.2
theorem uC.inj(x:uC h k a)(y:uC h c a):k=c:=by obtain⟨b,t,f,j,i,g⟩:=x;obtain⟨q,p,d,m,o,l⟩:=y;have:=congrArg Array.toList (tup_uniq j m);simp at this;obtain⟨⟨n,_⟩,rfl⟩:=this;obtain rfl:=tup_uniq i o;exact rh n (strs_uniq g l)
theorem Vc(x:bR c a):∃hs:List (af×Int×Nat),c=hs.map (·.1)/\hs.map (·.2.1)=a.map (mI w)/\(hs.map (·.2.2)).sum=a.length/\∀p∈hs,vD P w A h p.1 p.2.1 p.2.2:=by
 induction x with
 |nil=>simp
 |cons z t _ d=>
  obtain⟨hs,j,i,g,f⟩:=d;refine⟨(.str z t,mI w z,1)::hs,by rw[j];rfl,by rw[cN,i];rfl,by simp[g];lia,λp b=>?_⟩;rcases b8.mp b with rfl|b
  .exact FJ z t
  .exact f p b
theorem Im{es ep}(g:IsTup h a x)(j:h.get? d=aa o)(l:o.data=.dict es ep)(hs:eG d h b):IsTup b a x:=by
 obtain⟨f,e,c,n,r⟩:=g;have i:a≠d:=by lia
 exact⟨f,(hs.2 a i).trans e,c,n,r⟩
def MA(P:aM)(w:aD):HeapKind P w (Str×List Str) where
 is:=uC
 hash:=F6 w
 draws:=λk=>k.2.length+3
 room:=λA=>A.units+4<cLine
 inj:=λx y=>x.inj y
 keeps:=λ⟨b,t,c,l,i,g⟩ D F hs=>⟨b,t,c,Im l D F hs,Im i D F hs,g⟩
 pyHash:=λ{A E s k a Q} M x N=>by
  obtain⟨b,t,c,l,i,g⟩:=x;obtain⟨hs,L,J,I,H⟩:=Vc (P:=P) (w:=w) (A:=A.in1.in1) (h:=s.heap) g;have f:vD P w A.in1 s.heap (.ref b) (jT (gn (k.2.map (mI w)))) (k.2.length+1):=by have:=G6 (P:=P) (w:=w) (A:=A.in1) (show A.units+1<cLine by lia) i L H;rw[J,I]at this;exact this
  have d:=G6 (P:=P) (w:=w) (A:=A) (hs:=[(.str k.1 t,mI w k.1,1),(.ref b,jT (gn (k.2.map (mI w))),k.2.length+1)]) ∅ l rfl λp C=>by
   simp only[b8,fL,or_false]at C;rcases C with rfl|rfl
   .exact FJ _ _
   .exact f
  refine d s E Q rfl ?_;have T:([((Value.str k.1 t,mI w k.1,1):af×Int×Nat),(.ref b,jT (gn (k.2.map (mI w))),k.2.length+1)].map (·.2.2)).sum+1=k.2.length+3:=by simp;lia
  rw[T];exact N
 eqBool:=λ{A E s x y a Y Q} M B u q=>by
  by_cases o:a=Y
  .subst o;obtain rfl:=B.inj u;rw[decide_eq_true rfl]at q;exact DU _ _ _ _ _ q
  .obtain⟨b,t,c,l,i,g⟩:=B;obtain⟨b',t',r,S,X,O⟩:=u;have W:decide (x=y)=((ce (min 2 2)).all (λj=>if j=0 then x.1 == y.1 else decide (x.2=y.2))&&2 == 2):=by obtain⟨x1,x2⟩:=x;obtain⟨y1,Z⟩:=y;rw[tE];simp[rG]
   rw[W]at q;refine K8 o (.tuples l S ∅ λj G j2=>?_) _ _ _ _ q
   match j,G with
   |0,_=>exact DV _ _ _ _
   |1,_=>exact eq_strs (show A.units+1<cLine by lia) i g X O
 quiet:=λ⟨b,t,c,l,i,g⟩ q=>by
  refine quiet_tup (n:=7) l (λv m E Q q=>?_) q;simp only[b8,fL,or_false]at m;rcases m with rfl|rfl
  .exact iY (by unfold oA;rfl) q
  .refine quiet_tup (n:=6) i (λv m E Q q=>?_) q;obtain⟨z,t,rfl⟩:=strs_mem_shape g v m;exact iY (by unfold oA;rfl) q
noncomputable abbrev KN(H:Hp):List ((Str×List Str)×V)->List ((Str×List Str)×ab×af)->Prop:=jS λp q=>p.1=q.1/\qm H p.1 q.2.1/\RelV p.2 q.2.2
theorem KN.val(r:KN H a b)(k:Str×List Str):nR (gh a k) ((atKey b k).map (·.2)):=by
 induction r with
 |nil=>trivial
 |@cons p q ps qs h t ih=>
  obtain⟨c,_,f⟩:=h;by_cases e:p.1=k
  .rw[sT e,show atKey (q::qs) k=aa q.2 by simp[atKey,jX,c.symm.trans e]];trivial
  .have d:¬q.1=k:=λz=>e (c.trans z);rw[sK e,show atKey (q::qs) k=atKey qs k by simp[atKey,jX,d]];trivial
theorem uJ:∀{a:List Str}{b:List af},bE (a.map V.str) b->bR b a
 |[],_,r=>by rw[rC]at r;cases r;exact .nil
 |k::a,_,r=>by
  rw[cN]at r;cases r with
  |cons h t=>obtain⟨c,rfl⟩:=h;exact .cons _ _ (uJ t)
theorem xP(ok:cZ P w H h)(e:qm H k a):uC h k a:=by
 obtain⟨b,n,m⟩:=e;obtain⟨_,o,c,f,_⟩:=ok a _ n;obtain⟨_,i,g,d,_⟩:=ok b _ m;cases c with
 |cons l c=>cases c with
  |cons j c=>
   cases c;obtain⟨t,rfl⟩:=l;cases (show _=Value.ref b from j);exact⟨b,t,i.toArray,f,d,by simpa using uJ g⟩
theorem Cy(ok:cZ P w H h)(e:H a=aa (.dN b)):b.length<=bh/\(a == iE)=ai/\∃d,KN H b d/\h.DictOfH (MA P w) a d:=by
 obtain⟨z,y,d,r,o,u,v,n,j,i,g,f⟩:=ok a _ e;refine⟨z,y,d,r,o,u,v,n,j,i,g,λx c=>?_,f⟩;have all:∀{l:List ((Str×List Str)×V)}{m:List ((Str×List Str)×ab×af)},KN H l m->∀x∈m,uC h x.1 x.2.1:=by
  intro l m q
  induction q with
  |nil=>simp
  |@cons p q ps qs hq t ih=>
   intro x c;rcases b8.mp c with e|c
   .subst e;exact xP ok (by lia)
   .exact ih x c
 exact all r x c
end
noncomputable def Sf(g ty:TE):TE:=λf H Q=>g f H λx h=>ty f h λy d=>∃a b c k v,x=.ref a/\y=.ref b/\d a=aa (.dN c)/\qm d k b/\gh c k=aa v/\Q v d
def Pe(d:Bool)(ty h:TE):TE:=λg H Q=>ty g H λy i=>h g i λx f=>∃a b c k,x=.ref a/\y=.ref b/\f a=aa (.dN c)/\qm f k b/\Q (.bl (d^^(gh c k).isSome)) f
def OC(h ty g:TE):TS:=λD d H=>g d H λv j=>h d j λx i=>ty d i λy f=>∃a b c k,x=.ref a/\y=.ref b/\f a=aa (.dN c)/\qm f k b/\gh c k=ac/\c.length<bh/\D.nx d (upd f a (.dN (c++[(k,v)])))
section
variable{X:Cx}{e:au}{f m:Pos}
theorem OA(hu:X.A.units+8<cLine)(S:PE X o j)(W:PE X i ty)(O:u6 i):PE X (.Subscript o i f) (Sf j ty):=by intro A s r H Q I h;refine JN PySem.F.slot_dict_getitem.lookup O (aP (S A s r H _ I h) λu C ⟨x,H1,I1,E,G⟩=>aP (W A C r H1 _ I1 G) λL s2 ⟨y,H2,q,D,a,b,J,k,v,ex,Z,e,T,N,F⟩=>?_);subst ex Z;obtain rfl:u=Value.ref a:=E;obtain rfl:L=Value.ref b:=D;obtain⟨z,hd,B,n,w⟩:=Cy q.hok e;obtain⟨w',M,c⟩:=nR.some_of (v:=v) (o:=(atKey B k).map (·.2)) (by rw[<-N];exact n.val k);obtain⟨p,P,Y⟩:=gU.mp M;refine⟨w.typeIs,wpAny_getItem_heap (show X.A.in1.units+4<cLine from(show X.A.units+1+4<cLine by lia)) (xP q.hok T) w P ?_⟩;rw[Y];exact⟨v,H2,q.tok _,c,F⟩
theorem PU(Z:X.A.units+8<cLine)(J:PE X i ty)(F:PE X o j):PC X .NotIn i o (Pe ag ty j):=by intro w s r H Q I h;refine aP (J w s r H _ I h) λE A ⟨y,T,P,B,D⟩=>aP (F w A r T _ P D) λu Y ⟨x,S,p,C,a,b,n,k,N,M,e,G,v⟩=>?_;subst N M;obtain rfl:u=Value.ref a:=C;obtain rfl:E=Value.ref b:=B;obtain⟨z,L,W,c,O⟩:=Cy p.hok e;refine wpAny_notIn_heap (show X.A.in1.units+4<cLine from(show X.A.units+1+4<cLine by lia)) (xP p.hok G) L O ?_;have q:=(c.val k).isSome_eq;rw[DZ]at q;rw[<-q];rw[Bool.true_xor]at v;exact⟨.bl (!(gh n k).isSome),S,p.tok _,rfl,v⟩
theorem UL(hu:X.A.units+8<cLine)(ho:PE X o j)(hi:PE X i ty)(hv:PE X d l)(G:iG d (aa (.Subscript o i g)) f.line X.env=pure ai):PS X (.Assign [.Subscript o i g] d f) (OC j ty l):=by
 intro M s C H D I h;refine wpAny_Assign_Subscript (aP (hv M s C H _ I h) λr T ⟨v,H1,I1,Z,q1⟩=>aP (ho M T C H1 _ I1 q1) λu S ⟨x,H2,I2,Y,q2⟩=>aP (hi M S C H2 _ I2 q2) λiv s3 ⟨y,O,N,W,a,b,w,k,ex,ey,e,Q,hn,hl,q3⟩=>?_) G;subst ex ey;obtain rfl:u=Value.ref a:=Y;obtain rfl:iv=Value.ref b:=W;obtain⟨z,hd,F,n,dd⟩:=Cy N.hok e;have hz:F.length<=bh:=by rw[<-y6 n];exact z
 refine wpAny_setItem_heap (hsz:=hz) (show X.A.in1.units+4<cLine from(show X.A.units+1+4<cLine by lia)) (xP N.hok Q) dd λh' B G=>?_;have kC:atKey F k=ac:=by have q:=(n.val k).isSome_eq;simp_all
 rw[storedH_new kC]at B;obtain⟨q,es,ep,P,A,h3,h4,_,h5⟩:=B;refine⟨C,upd O a (.dN (w++[(k,v)])),um (ob:=.dN (w++[(k,v)])) N (by rw[e];trivial) G ⟨q,P⟩ ⟨by rw[lX];trivial,hd,F++[(k,b,r)],?_,q,es,ep,P,A,h3,h4,h5⟩,q3⟩;have up:∀{c:ab}{E:List V},O c=aa (.tup E)->upd O a (.dN (w++[(k,v)])) c=aa (.tup E):=λ{c E} ec=>by rw[aU (ul ec e (λz=>nomatch z))];trivial
 refine vZ (Paired.mapP n λp q z=>⟨z.1,?_,z.2.2⟩) ⟨rfl,?_,Z⟩
 .obtain⟨L,J,A⟩:=z.2.1;exact⟨L,up J,up A⟩
 .obtain⟨L,J,A⟩:=Q;exact⟨L,up J,up A⟩
def Pr:TE:=λ_ H Q=>∀p,H p=ac->Q (.ref p) (upd H p (.dN []))
theorem N8(h:ax)(a:iE<h.objs.size):bN P w H (h.push {cls:=.type "dict",data:=.dict #[]}) h.objs.size (.dN []):=by
 obtain⟨z,y,u,r,o,q,s,p,n,c,b,v⟩:=BN (P:=P) (w:=w) (H:=H) h a;cases r;exact⟨z,y,[],.nil,o,q,s,p,n,c,b,.nil⟩
theorem LM:PE X (.Dict [] [] f) Pr:=λc s b H Q I h=>KA ⟨.ref s.heap.objs.size,_,I.laid (a:=s.heap.objs.size) (o:=.dN []) (t':=s.toks) (λ_ _ q=>bi _ q) (a_ _) (N8 s.heap I.big),rfl,h _ (I.hok.fresh (a_ _))⟩
end
end L2
namespace Pu
open L2
noncomputable def valN(a:List ((Tx×List Tx)×PV))(k:Tx×List Tx):Option PV:=(a.find? λb=>decide (b.1=k)).map (·.2)
def oP:PV->Option (Tx×List Tx)
 |.tup [.str t,.tup a]=>(dS a).map λb=>(t,b)
 |_=>ac
theorem Pw(h:nS x=nS y):x=y:=by have d:=congrArg Prod.fst h;have c:=congrArg Prod.snd h;refine rh (qx d) ?_;exact(List.map_inj_right λa b e=>qx e).mp c
section
variable{K:aw}{F:ab->Prop}{S:Nat->ab->Prop}{ε:ah}{g:St}{H:Hp}{i:Nat}{d:List ((Tx×List Tx)×PV)}{f:List ((Str×List Str)×V)}{a:ab}
theorem BJ(r:aT K H F x v)(e:oP x=aa k):∃b,v=.ref b/\qm H (nS k) b:=by
 unfold oP at e;split at e
 .rename_i t s;obtain⟨j,q,rfl⟩:=gU.mp e;obtain rfl:=jG q;obtain⟨b,u,rfl,n,h⟩:=r;obtain⟨y,B,rfl,p,h⟩:=h;obtain⟨w,A,rfl,o,h⟩:=h;cases h;obtain⟨c,z,rfl,m,l⟩:=o;obtain⟨rfl,_⟩:=Ws.mp l;refine⟨b,rfl,c,?_,?_⟩
  .rw[n,p.1];rfl
  .rw[m];show aa (HO.tup (bz j))=aa (HO.tup ((j.map tS).map V.str));rw[fg];rfl
 trivial
theorem mF.len(h:mF K H F d f):f.length=d.length:=by
 unfold mF at h
 induction h with
 |nil=>rfl
 |cons _ _ b=>simp[b]
theorem mF.val(h:mF K H F d f)(k:Tx×List Tx):(∃x v,valN d k=aa x/\gh f (nS k)=aa v/\aT K H F x v)\/(valN d k=ac/\gh f (nS k)=ac):=by
 unfold mF at h
 induction h with
 |nil=>exact .inr ⟨rfl,rfl⟩
 |@cons p q ps qs r _ ih=>
  by_cases e:p.1=k
  .refine .inl ⟨p.2,q.2,by simp[valN,jX,e],?_,r.2⟩;rw[sT (by rw[<-r.1,e])]
  .have b:¬q.1=nS k:=by rw[<-r.1];exact λz=>e (Pw z)
   rw[sK b];have:valN (p::ps) k=valN ps k:=by simp[valN,jX,e]
   rw[this];trivial
theorem aY.dnAt(r:aY K F S ε g H)(e:ε[i]?=aa (.own (.dN d))):∃a f,g[i]?=aa (aa (.ref a))/\H a=aa (.dN f)/\mF K H F d f/\S i a/\∀b,S i b->b=a:=by obtain⟨a,n,⟨j,m,l⟩,c⟩:=r.own i _ e;exact⟨a,j,n,m,l,(c a).mpr rfl,λb h=>(c b).mp h⟩
end
noncomputable def lh(b:ah)(i:Nat):Option (List ((Tx×List Tx)×PV)):=match b[i]? with
 |some (.own (.dN a))=>aa a
 |_=>ac
theorem sD(h:lh b i=aa a):b[i]?=aa (.own (.dN a)):=by
 unfold lh at h;split at h
 .cases h;trivial
 trivial
section
variable{X:Cx}{E:XK}{pin:List Nat}{e b c:au}{de d g:ad PV}{f:Pos}
def C3(i:Nat)(d:ad PV):ad PV:=λh=>(aW (lh h i) h).bind λ_ h=>(d h).bind λk a=>(aW (lh a i) a).bind λj a=>aW ((oP k).bind λk=>valN j k) a
theorem Vi(i:Nat)(hu:X.A.units+64<cLine)(P:DE X E b d)(W:(X.N[i]?=aa y)^0)(Y:cO X.env.scope y^2)(O:av y^1) (Z:a4 y^1) (M:u6 b^8):DE X E (.Subscript (.Name y C) b f) (C3 i d):=λF S p B H Q r h=>by
 unfold C3 at h;cases o:lh p i with
 |none=>rw[o]at h;exact h.elim
 |some z=>
  rw[o]at h;simp only[cA,R.bind_ok]at h;obtain⟨a,D,A,_⟩:=r.dnAt (sD o);refine bT (OA ∅ (dR W Y O Z) bL M) ⟨.ref a,A,P F S p B H _ r ((Ok.bind h).imp λk l F1 S1 H1 s g1 q u I=>?_)⟩;cases n:lh l i with
  |none=>rw[n]at q;trivial
  |some J=>
   rw[n]at q;simp only[cA,R.bind_ok]at q;obtain⟨a',G,j,T,N,_⟩:=s.dnAt (sD n);rw[A]at j;cases j;cases m:oP k with
   |none=>rw[m]at q;trivial
   |some w=>
    rw[m,iZ]at q;obtain⟨bb,rfl,L⟩:=BJ I m;rcases N.val w with⟨x,v,h1,h2,h3⟩|⟨h1,h2⟩
    .rw[h1]at q;exact⟨a,bb,G,nS w,v,rfl,rfl,T,L,h2,q F1 S1 H1 s (bI.refl ..) v h3⟩
    .rw[h1]at q;trivial
def Jp(i:Nat)(d de:ad PV):ad aG:=λl=>(de l).bind λy h=>(aW (lh h i) h).bind λ_ h=>(d h).bind λk a=>(aW (lh a i) a).bind λj a=>(aW (oP k) a).bind λk a=>if j.length<ck/\(valN j k).isNone=ag then .ok .next (a.set i (.own (.dN (j++[(k,y)]))))else .no
theorem Tj(i:Nat)(hu:X.A.units+64<cLine)(hb:DE X E b d)(he:DE X E e de)(hN:(X.N[i]?=aa y)^0)(cJ:cO X.env.scope y^2)(hd:av y^1) (bj:a4 y^1) (hs:(iG e (aa (.Subscript (.Name y M) b j)) f.line X.env=pure ai)^0):DS X E pin (.Assign [.Subscript (.Name y M) b j] e f) (Jp i d de):=λF S Q w H D rl h=>by
 refine eY (UL ∅ (dR hN cJ hd bj) bL bL hs) (he F S Q w H _ rl (h.bindE.imp λy n F1 S1 H1 A g1 q v Y=>?_));cases L:lh n i with
 |none=>rw[L]at q;trivial
 |some O=>
  rw[L]at q;simp only[cA,R.bind_ok]at q;obtain⟨a,T,I,wN,_⟩:=A.dnAt (sD L);refine⟨.ref a,I,hb F1 S1 n w H1 _ A (q.bindE.imp λk z P S2 H2 N g2 l u Z=>?_)⟩;cases s:lh z i with
  |none=>rw[s]at l;trivial
  |some o=>
   rw[s]at l;simp only[cA,R.bind_ok]at l;obtain⟨a',r,p,ha,G,_⟩:=N.dnAt (sD s);rw[I]at p;cases p;cases J:oP k with
   |none=>rw[J]at l;trivial
   |some m=>
    rw[J]at l;simp only[cA,R.bind_ok]at l;split at l
    .rename_i C;obtain⟨C,hn⟩:=C;obtain⟨bb,rfl,kB⟩:=BJ Z J;have B:gh r (nS m)=ac:=by
      rcases G.val m with⟨x,v,h1,h2,h3⟩|⟨h1,h2⟩
      .rw[h1]at hn;trivial
      trivial
     have dG:mF X.K H2 P (o++[(m,y)]) (r++[(nS m,v)]):=vZ G ⟨rfl,Y.grow g2 A.fit⟩;obtain⟨r3,g3⟩:=N.updO (po':=.dN (o++[(m,y)])) (o':=.dN (r++[(nS m,v)])) (sD s) rfl I trivial λH' m1 m2 W Sa m8=>⟨⟨_,W,dG.mono m1⟩,m8⟩
     exact⟨a,bb,r,nS m,rfl,rfl,ha,kB,B,by rw[G.len];exact fe C kP,l P S2 w _ r3 g3 (ju.refl _ _)⟩
    trivial
def II:ad PO:=λa=>.ok (.dN []) a
theorem V2:DN X E (.Dict [] [] f) II:=λF S m l H Q a h=>bT LM λp i=>by
 have al:Al F F H (upd H p (.dN [])):=Al.new0 i;refine h F S _ (a.al al) al.grow p (λb=>b=p) ⟨⟨[],upd_same,.nil⟩,λb=>i5⟩ λb z=>?_;subst z;refine⟨i,λz=>?_,λ⟨j,z⟩=>?_,_,upd_same,trivial⟩
 .obtain⟨o,q⟩:=a.ex b z;lia
 .obtain⟨_,_,o,q,_⟩:=a.foot j b z;lia
def Dp(h:Bool)(i:Nat)(d:ad PV):ad PV:=λl=>(d l).bind λk a=>(aW (lh a i) a).bind λj a=>aW ((oP k).map λk=>.bl (h^^(valN j k).isSome)) a
theorem Mt(i:Nat)(hu:X.A.units+64<cLine)(O:DE X E b d)(T:(X.N[i]?=aa y)^0)(Y:cO X.env.scope y^2)(N:av y^1) (Z:a4 y^1) (L:(nY .NotIn (.Name y o)=ai)^0):DT X E (.Compare b [.NotIn] [.Name y o] f) (dB (Dp ag i d)):=λF S B A H Q G h=>by
 refine qX (yK (PU ∅ bL (dR T Y N Z)) L) ?_;have r:=qe h;unfold Dp at r;refine O F S B A H _ G ((Ok.bind r).imp λk j z s w l g1 q u D=>?_);cases n:lh j i with
 |none=>rw[n]at q;trivial
 |some I=>
  rw[n]at q;simp only[cA,R.bind_ok]at q;obtain⟨a,C,W,P,M,_⟩:=l.dnAt (sD n);cases m:oP k with
  |none=>rw[m]at q;trivial
  |some p=>
   rw[m,mQ]at q;obtain⟨bb,rfl,J⟩:=BJ D m;refine⟨.ref a,W,a,bb,C,nS p,rfl,rfl,P,J,?_⟩;rcases M.val p with⟨x,v,h1,h2,h3⟩|⟨h1,h2⟩
   .rw[h1]at q;rw[h2];exact q z s w l (bI.refl ..) _ rfl
   .rw[h1]at q;rw[h2];exact q z s w l (bI.refl ..) _ rfl
end
end Pu
namespace L2
open Mx SeqAt
noncomputable def e_(x:Int)(y:Str)(a:Int)(b:Str):Bool:=if x=a then decide (y.cps.toList<b.cps.toList)else decide (x<a)
theorem Pp(l b:ab)(x a:Int)(y c:Str)(t u z r:Tok)(n J:Nat)(S H:Option ab)(I D:Array (Option af)):Meets (Builtin.«tuple.__lt__» ⟨[.ref l,.ref b],[]⟩) (λ_ R s=>s.heap.get? l=aa {cls:=.type "tuple",dict:=S,data:=.seq #[.int x t,.str y u] n,slots:=I}/\s.heap.get? b=aa {cls:=.type "tuple",dict:=H,data:=.seq #[.int a z,.str c r] J,slots:=D} /\ R (.ok (.ret (.bool (e_ x y a c)))) s) :=
 .of_wp λprog w A R s h=>by
  obtain⟨o,g,d,j,m⟩:=s;obtain⟨M,N,h⟩:=h;have T:=AutoSeq1.sub_tuple_tuple
  wp_walk using lV M,lV N,oy _ (λrest b F=>b.1=ac/\F=⟨o,g,d,j,m⟩/\(rest=[((Value.int x t:af),(Value.int a z:af)),(.str y u,.str c r)] \/ x=a/\rest=[((Value.str y u:af),(Value.str c r:af))]\/x=a/\y=c/\rest=[])) _
  case turn=>
   rintro⟨p,q⟩ rest b F ⟨G,rfl,f|⟨B,f⟩|⟨_,_,f⟩⟩
   .cases f;refine aj (EqAt.int_int x t a z prog w _ _ ?_);by_cases e:x=a
    .subst e;rw[beq_self_eq_true]
     wp_walk
     simp
    .rw[beq_false_of_ne e];have O:R (.ok (.ret (.bool (decide (x<a))))) ⟨o,g,d,j,m⟩:=by unfold e_ at h;rwa[if_neg e]at h
     have C:∀(E:af->ak->Prop) (Q:af->ak->Prop),Q (.bool (decide (x<a))) ⟨o,g,d,j,m⟩->ao (ar prog w) A.in1 (Ev .Lt (.int x t) (.int a z)) Q E ⟨o,g,d,j,m⟩:=λE Q h=>CmpOf.ints_lt (prog:=prog) (w:=w) (A:=A.in1) (P:=λi v=>∃t,v=.int (if i=0 then x else a) t) (λi=>if i=0 then x else a) (λi v h=>h) 0 1 _ _ _ _ _ ⟨t,rfl⟩ ⟨z,rfl⟩ (by assumption)
     wp_walk using C
     exact⟨_,rfl,by assumption⟩
   .cases f;subst B;refine aj (EqAt.str_str y u c r prog w _ _ ?_);by_cases e:y=c
    .subst e;rw[beq_self_eq_true]
     wp_walk
     exact⟨rfl,rfl,.inr (.inr ⟨rfl,rfl,rfl⟩)⟩
    .rw[beq_false_of_ne e];have O:R (.ok (.ret (.bool (decide (y.cps.toList<c.cps.toList))))) ⟨o,g,d,j,m⟩:=by unfold e_ at h;rwa[if_pos rfl]at h
     have C:∀(E:af->ak->Prop) (Q:af->ak->Prop),Q (.bool (decide (y.cps.toList<c.cps.toList))) ⟨o,g,d,j,m⟩->ao (ar prog w) A.in1 (Ev .Lt (.str y u) (.str c r)) Q E ⟨o,g,d,j,m⟩:=λE Q h=>(Ew h:ao (ar prog w) A.in1 (dE .Lt (.str y u) (.str c r)) Q E _)
     wp_walk using C
     exact⟨_,rfl,by assumption⟩
   .cases f
  case fin=>
   rintro⟨X,W⟩ F ⟨G,rfl,f|⟨B,f⟩|⟨B,hy,_⟩⟩
   .cases f
   .cases f
   .simp only at G;subst G B hy;have L:e_ x y x y=ai:=by unfold e_;simp
    rw[L]at h
    wp_walk
    exact⟨_,rfl,by assumption⟩
  simp
noncomputable def qt(h:ax)(k:Int×Str)(v:af):Prop:=∃a t u,v=.ref a/\IsTup h a #[.int k.1 t,.str k.2 u]
section
variable{P:aM}{w:aD}{A:aZ}{s:ak}
theorem Vk(G:qt s.heap k v)(d:qt s.heap a i)(H:A.units<cLine)(h:Q (.bool (e_ k.1 k.2 a.1 a.2)) s):ao (ar P w) A (Ev .Lt v i) Q E s:=by
 obtain⟨l,t,u,rfl,I⟩:=G;obtain⟨b,C,B,rfl,J⟩:=d;obtain⟨⟨M,L,y,D⟩,o,q,n,p⟩:=id I;obtain⟨⟨z,f,g,c⟩,r,m,F,j⟩:=id J;simp only at q p m j;subst q p m j;exact richCompare_meets_room (op:=.Lt) ⟨_,o,rfl⟩ ⟨_,r,rfl⟩ PySem.F.slot_tuple_lt PySem.F.entry_tuple_lt (PySem.F.args_tuple_lt_2 _ _) (Pp l b k.1 a.1 k.2 a.2 t u C B n F L f D c)
  ⟨o,r,show Value.bool (e_ k.1 k.2 a.1 a.2)≠Value.notImplemented/\Q (.bool (e_ k.1 k.2 a.1 a.2)) s from⟨(λx=>nomatch x),h⟩⟩ H
theorem qt.keep{c:ax}(x:qt h k v)(g:∀b o,h.get? b=aa o->o.cls=.type "tuple"->c.get? b=aa o):qt c k v:=by obtain⟨a,t,u,rfl,d⟩:=x;exact⟨a,t,u,rfl,tup_kept d g⟩
theorem NA{a b c:Int×Str}(f:e_ a.1 a.2 b.1 b.2=ag)(d:e_ b.1 b.2 c.1 c.2=ag):e_ a.1 a.2 c.1 c.2=ag:=by
 unfold e_ at *
 grind
variable{q l I S:ab}{vs:List af}{kf:Nat->Int×Str}
noncomputable def Gc(P:aM)(w:aD)(A:aZ)(s:ak)(q:ab)(vs:List af)(kf:Nat->Int×Str):Prop:=∀(i:Nat) (v:af),vs[i]?=aa v->∀(h:ax) (d:Nat),(∀b o,s.heap.get? b=aa o->h.get? b=aa o) ->
 ao (ar P w) A.in1 (call (.ref q) [v]) (λu f=>∃c a,f={s with heap:=c,toks:=a}/\(∀b o,h.get? b=aa o->c.get? b=aa o)/\qt c (kf i) u) (λ_ _=>False) {s with heap:=h,toks:=d}
structure Nx(s:ak)(l I S:ab)(vs:List af)(kf:Nat->Int×Str)(j i:Nat)(h:ax):Prop where
 keep:∀b o,s.heap.get? b=aa o->h.get? b=aa o
 it:h.IsListIter I l (j+1)
 st:∃vb kb c,h.get? S=aa (dY "list" #[vb,kb] c)/\vs[i]?=aa vb/\qt h (kf i) kb
 ij:i<=j
 best:∀j',j'<=j->e_ (kf j').1 (kf j').2 (kf i).1 (kf i).2=ai
theorem MK(hh:A.handled=ac)(hu:A.units+4<cLine)(hl:s.heap.IsList l vs.toArray)(fI:s.heap.get? I=ac)(fS:s.heap.get? S=ac)(L:S≠I)(n:Gc P w A s q vs kf)(hR:∀i v H x,vs[i]?=aa v->(∀j,j<vs.length->e_ (kf j).1 (kf j).2 (kf i).1 (kf i).2=ai)->(∀b o,s.heap.get? b=aa o->H.get? b=aa o)->R (.ok (.ret v)) {s with heap:=H,toks:=x}):∀(r j i:Nat) (h:ax) (X:Nat),vs.length-(j+1)=r->j+1<=vs.length->Nx s l I S vs kf j i h->pq (ar P w) A (.builtin "min.loop" ⟨[.ref I,.ref q,.ref S],[]⟩) R {s with heap:=h,toks:=X}:=by
 have wu:(toString "min"++toString ".loop" : String) = "min.loop":=by rfl
 have hlI:l≠I:=λz=>by obtain⟨o,e,_⟩:=hl;lia
 have hlS:l≠S:=λz=>by obtain⟨o,e,_⟩:=hl;lia
 have W:=zp (prog:=P) (w:=w) (A:=A.in1) hh I l hlI vs.toArray;have hsz:vs.toArray.size=vs.length:=eJ ..;have lk:∀{h:ax},(∀b o,s.heap.get? b=aa o->h.get? b=aa o)->h.IsList l vs.toArray:=λk=>by obtain⟨o,e,r⟩:=hl;exact⟨o,k _ _ e,r⟩
 intro r
 induction r with
 |zero=>
  intro j i h X hr hj M;obtain⟨N,kb,c,F,g,C⟩:=M.st;refine pD Lg ?_;rw[rL t8 _];refine aj (pF F rfl ?_);refine aj (wn (W.done _ _ _ ⟨by rw[hsz,show vs.length=j+1 by lia];exact M.it,lk M.keep⟩ λH x mZ=>?_));have y:=iI H S (iH λ_=>(#[]:Array af));refine aj ?_;refine wpAny_updateSeq (mZ S _ (~~~L) F) rfl (aj (EG (aq ?_)));refine hR i N _ _ g (λf gw=>M.best f ∅) λb o e=>?_;have nb:b≠I:=λz=>by lia
  have Y:b≠S:=λz=>by lia
  exact(y.2 b Y).trans (mZ b o (~~~nb) (M.keep b o e))
 |succ r ih=>
  intro j i h X hr hj M;obtain⟨N,kb,c,F,g,C⟩:=M.st;have bc:j+1<vs.length:=nofun
  refine pD Lg ?_;rw[rL t8 _];refine aj (pF F rfl ?_);refine aj (wn (W.item (j+1) _ _ _ (by trivial) ⟨M.it,lk M.keep⟩ λv h1 T hP io Z=>?_));have hv:vs[j+1]?=aa v:= ~~~hP
  obtain⟨oI,eI,rX,m_⟩:=id io.1;have d:∀b o,s.heap.get? b=aa o->h1.get? b=aa o:=λb o e=>Z b o (by intro z;rw[pH.mp z,fI]at e;cases e) (M.keep b o e);refine aj (wn (d_ (eU (n (j+1) v hv h1 T d) (λu s2 he=>?_) λ_ _ hF=>hF.elim)));obtain⟨D,O,rfl,J,B⟩:=he;have p:∀b o,h.get? b=aa o->o.cls=.type "tuple"->D.get? b=aa o:=λb o e ht=>J b o (Z b o (by intro z;rw[pH.mp z]at e;obtain⟨o',e',c',_⟩:=M.it;lia) e);have LG:=C.keep p;have a:∀b o,s.heap.get? b=aa o->D.get? b=aa o:=λb o e=>J b o (d b o e);have m:=J S _ (Z S _ (~~~L) F);have G:=J I _ eI;refine aj (wn (d_ (aj (Vk (s:={s with heap:=D,toks:=O}) (A:=A.in1) B LG (show A.units+1<cLine by lia) ?_))));refine aj (d_ (nZ ?_));refine aj (EG (aq ?_));by_cases jD:e_ (kf (j+1)).1 (kf (j+1)).2 (kf i).1 (kf i).2=ag
  .have y:=iI D S (iH λ_=>#[v,u]);obtain⟨c2,i_⟩:∃c2,(D.update S (iH λ_=>#[v,u])).get? S=aa (dY "list" #[v,u] c2):=⟨_,zC m λ_=>#[v,u]⟩
   simp only[jD,if_true];refine aj ?_;refine wpAny_updateSeq m rfl (aj (EG ?_));rw[wu];refine aq ⟨rM t8 _,ih (j+1) (j+1) _ _ nofun bc ⟨λb o e=>?_,⟨oI,(y.2 I L.symm).trans G,rX,m_⟩,⟨v,u,c2,i_,hv,?_⟩,a_ _,λf gw=>?_⟩⟩
   .exact(y.2 b (λz=>by lia)).trans (a b o e)
   .refine B.keep λb o e ht=>(y.2 b ?_).trans e;lia
   .by_cases e:f=j+1
    .subst e;cases hq:e_ (kf (j+1)).1 (kf (j+1)).2 (kf (j+1)).1 (kf (j+1)).2 with
     |false=>rfl
     |true=>unfold e_ at hq;grind
    .cases hq:e_ (kf f).1 (kf f).2 (kf (j+1)).1 (kf (j+1)).2 with
     |false=>rfl
     |true=>have:=NA hq jD;rw[M.best f ∅]at this;trivial
  .have oM:e_ (kf (j+1)).1 (kf (j+1)).2 (kf i).1 (kf i).2=ai:= ~~~jD
   simp only[oM,fh,if_false];refine aj (EG ?_);rw[wu];refine aq ⟨rM t8 _,ih (j+1) i _ _ nofun bc ⟨a,⟨oI,G,rX,m_⟩,⟨N,kb,c,m,g,LG⟩,by have:=M.ij;lia,λf gw=>?_⟩⟩;by_cases e:f=j+1
   .subst e;trivial
   .exact M.best f ∅
theorem PD(O:A.handled=ac)(hu:A.units+4<cLine)(g:s.heap.IsList l vs.toArray)(b7:0<vs.length)(c:Gc P w A s q vs kf)(hQ:∀i v Y n,vs[i]?=aa v->(∀j,j<vs.length->e_ (kf j).1 (kf j).2 (kf i).1 (kf i).2=ai)->(∀b o,s.heap.get? b=aa o->Y.get? b=aa o)->Q v {s with heap:=Y,toks:=n}):ao (ar P w) A (call (.builtin "min") [.ref l] [(mN "key",.ref q)]) Q E s:=by
 have J:(toString "min"++toString ".loop" : String) = "min.loop":=by rfl
 refine kmk_tree PySem.F.kind_min PySem.F.plain_min PySem.F.entry_min (kmk_min_key _ _) ?_;refine aj (iY (show Builtin.Builtins.bindParams "min" ["key","default"] 0 ⟨[],[(mN "key",.ref q)]⟩=pure [aa (.ref q),ac] from rfl) ?_);refine aj (aq ?_);refine aj (zo g ?_);refine aj (zv ?_ (gW _));rw[J];generalize F:s.heap.objs.size=I;generalize D:s.heap.push {cls:=.type "list_iterator",data:=.fields #[.ref l,.int 0 0]}=g1;have C:g1.get? I=aa {cls:=.type "list_iterator",data:=.fields #[.ref l,.int 0 0]}:=by rw[<-D,<-F];exact bU _ rfl
 have B:∀b o,s.heap.get? b=aa o->g1.get? b=aa o:=λb o e=>by rw[<-D];exact bi _ e
 have d:g1.objs.size=I+1:=by rw[<-D,<-F];exact kr ..
 generalize hS:g1.objs.size=S at d;have fI:s.heap.get? I=ac:=Dx ∅;have fS:s.heap.get? S=ac:=Dx (by rw[F,d];simp);have h:S≠I:=⋯
 refine aq ⟨rM t8 _,?_⟩;have M:∀b o,s.heap.get? b=aa o->(g1.push (dY "list" #[] 0)).get? b=aa o:=λb o e=>bi _ (B b o e);have Z:(g1.push (dY "list" #[] 0)).get? S=aa (dY "list" #[] 0):=by rw[<-hS];exact bU _ rfl
 have gI:(g1.push (dY "list" #[] 0)).get? I=aa {cls:=.type "list_iterator",data:=.fields #[.ref l,.int 0 0]}:=bi _ C;have x:l≠I:=λz=>by obtain⟨o,e,_⟩:=g;lia
 have W:=zp (prog:=P) (w:=w) (A:=A.in1) O I l x vs.toArray;have hsz:vs.toArray.size=vs.length:=eJ ..;refine pD Lg ?_;rw[rL t8 _];refine aj (pF Z rfl ?_);refine aj (wn (W.item 0 _ _ _ (by trivial) ⟨⟨_,gI,rfl,rfl⟩,(let ⟨o,e,r⟩:=g;⟨o,M _ _ e,r⟩)⟩ λv X m hP io L=>?_));have N:vs[0]?=aa v:= ~~~hP
 obtain⟨oI,eI,rX,m_⟩:=id io.1;have a:∀b o,s.heap.get? b=aa o->X.get? b=aa o:=λb o e=>L b o (by intro z;rw[pH.mp z,fI]at e;cases e) (M b o e);refine aj (wn (d_ (eU (c 0 v N X m a) (λu s2 he=>?_) λ_ _ hF=>hF.elim)));obtain⟨T,tk2,rfl,G,y⟩:=he;have f:=G S _ (L S _ (~~~h) Z);have p:=iI T S (iH λ_=>#[v,u]);obtain⟨H,i_⟩:∃H,(T.update S (iH λ_=>#[v,u])).get? S=aa (dY "list" #[v,u] H):=⟨_,zC f λ_=>#[v,u]⟩
 refine aj ?_;refine wpAny_updateSeq f rfl ?_;rw[J];refine aq ⟨rM t8 _,MK O hu g fI fS h c hQ _ 0 0 _ _ rfl b7 ⟨λb o e=>?_,⟨oI,(p.2 I h.symm).trans (G I _ eI),rX,m_⟩,⟨v,u,H,i_,N,?_⟩,a_ _,λj' gw=>?_⟩⟩
 .exact(p.2 b (λz=>by lia)).trans (G b o (a b o e))
 .refine y.keep λb o e ht=>(p.2 b ?_).trans e;lia
 .obtain rfl:j'=0:=∅
  cases hq:e_ (kf 0).1 (kf 0).2 (kf 0).1 (kf 0).2 with
  |false=>rfl
  |true=>unfold e_ at hq;grind
end
open Att
section
variable{A:aZ}{s:ak}
structure AN(x:Str)(params:tF)(scope:cV):Prop where
 bind:∀(name qual:Str) (body:au) (cl:List (Str×ab)) (pm aE ct v:af),fH (PySem.W.kla_fn name qual params body scope cl pm aE ct) ⟨[v],[]⟩=pure [(x,v)]
 lx:scope.names.lookup x=aa .local
 ly:scope.names.lookup ("len" : Str)=aa .globalImplicit
 nc:∀z∈scope.names,z.2≠.cell
 co:scope.isCoroutine=ai
 gen:scope.isGenerator=ai
 kind:scope.kind=.function
 dx:av x
noncomputable abbrev C6(x:Str)(k:Nat)(g f d c b:Pos):au:=.Tuple [.Call (.Name "len" g) [.Name x f] [] d,.Name x c] k b
theorem OM{z:Str}(L:AN x c d)(Y:A.depth<zc) (M:s.heap.get? f=aa (En "<lambda>" g c (C6 x k J I H G F) d j D B p)) (X:s.heap.CodeRec (.ref B) g) (m:s.heap.NoLimit)(O:s.heap.Ns cx q) (N:q "len"=ac) (P:∃l,s.heap.Ns pi l/\l "len"=aa (.builtin "len")) (y:z.length<=bh)(h:∀n C u,(∀b o,s.heap.get? b=aa o->n.get? b=aa o)->qt n ((z.length:Nat),z) u->Q u {s with heap:=n,toks:=C}):ao (ar a w) A (call (.ref f) [.str z t]) Q E s:=by refine wpAny_call (PySem.W.kla_callFunE Y M rfl L.co L.gen rfl X ?_);rw[L.bind];refine aq (wpAny_newFunctionEnv L.nc (λz y=>by rw[pH.mp y];exact L.lx) (λi r W=>?_) L.kind);have keep:∀b o,s.heap.get? b=aa o->i.get? b=aa o:=λb o e=>(W.2 b (cr (bu e))).trans (bi _ e);refine⟨m.keeps keep,PySem.W.kla_codeExpr ?_⟩;obtain⟨l,T,S⟩:=P;have Z:=sH;refine wpAny_Tuple_spliced ?_;refine vW ?_;refine ze (Kk L.kind L.ly (Calls.loadGlobal_builtin (O.keeps keep) N (T.keeps keep) S ?_));refine V8 (vW (y_ (Kj L.kind L.lx r (v:=.str z t) (by simp) (DH ?_)) L.dx)) rfl rfl;refine len_str ∅ ?_;refine vW (y_ (Kj L.kind L.lx r (v:=.str z t) (by simp) (DH ?_)) L.dx);refine⟨by rw[rg];simp,?_⟩;exact h _ _ _ (λb o e=>bi _ (keep b o e)) ⟨_,_,_,rfl,⟨_,bU _ rfl,rfl,_,rfl⟩⟩
end
section
variable{X:Cx}{g:List (ab×Obj)}{d:St}{H:Hp}{s:ak}
def T2(i:TA):TE:=λd H Q=>i d H λj h=>∃(a:ab) (c:List Str),j=[.ref a]/\Rd h a (.lst (c.map .str))/\c≠[]/\(∀x∈c,x.length<=bh) /\
 ∀x f,x∈c->(∀y∈c,e_ (y.length:Nat) y (x.length:Nat) x=ai)->(∀b o,h b=aa o->f b=aa o)->Q (.str x) f
theorem Sj(hc:X.calm=ag)(hr:X.A.depth+1<zc)(hu:X.A.units+8<cLine)(LA:uL X n c P)(LO:AN x l r)(hq:X.env.qual++"<lambda>"=n++".<locals>.<lambda>")(wM:zk r X.env=pure []) (wz:defaultsOf l X.env=([],[]))(hg:Gl X "min") (hm:X.mg "min"=ac) (ng:X.mg "len"=ac) (ha:PA X [.Name z p0] Z):PE X (.Call (.Name "min" p) [.Name z p0] [⟨aa "key",.Lambda l (C6 x k p1 p2 p3 p4 p5) r F,kp⟩] E) (T2 Z):=by
 intro g s d H Q I h;refine ze (o8 I hg hm (show dX "min"=aa (.builtin "min") by kernel_rfl) ?_ (by decide) (by rfl));refine callWith_kw (aP (ha E g s d H _ I h) λus s1 ⟨vs,H1,I1,r1,q⟩=>?_);obtain⟨a,A,rfl,hA,b7,bo,hQ⟩:=q;obtain⟨u,rfl⟩:∃u,us=[u]:=by
  cases r1 with
  |cons _ t=>cases t;lia
 obtain rfl:u=.ref a:=by
  cases r1 with
  |cons z _=>exact z
 refine kws_cons (Uz I1 LA hq wM wz λf c' ctv W s2 w C hf hfL ET hcL _ _ _=>kws_nil ?_);have O:Rd W a (.lst (A.map .str)):=hA.elim (λz=>.inl (C _ _ z)) λ⟨o,z⟩=>.inr ⟨o,C _ _ z⟩;obtain⟨m,l_,hl⟩:=id w.loc;obtain⟨zl,D,n0,rv,eL⟩:=O.ok w.hok;have G:D.length=A.length:=by rw[<-rv.length,cy]
 have L:∀(i:Nat) (v:af),D[i]?=aa v->∃x t,A[i]?=aa x/\v=.str x t:=λi v J=>by obtain⟨xv,B,rx⟩:=yD rv J;rw[cT]at B;obtain⟨x,pW,rfl⟩:=gU.mp B;obtain⟨t,rfl⟩:=rx;exact⟨x,t,pW,rfl⟩
 obtain⟨mb,sf,oM⟩:=w.mod.blt;have N:mb "len"=aa (.builtin "len"):=(oM "len" (by decide)).trans (show dX "len"=aa (.builtin "len") by kernel_rfl);show ao _ _ (call (.builtin "min") [.ref a] [(mN "key",.ref f)]) _ _ _;refine PD (vs:=D) (kf:=λi=>(((A.getD i iU).length:Nat),A.getD i iU)) (w.ok.hd hc) ∅ ⟨_,eL,rfl,n0,rfl⟩ (by grind) (λi v J S Y k=>?_) λi v S Y J wB k=>?_
 .obtain⟨x,t,B,rfl⟩:=L i v J;have T:A.getD i iU=x:=by simp[B]
  dsimp only;rw[T];obtain⟨cc,oc,vc,tc,z,ec,rc⟩:=ET;cases z;refine OM (s:={s2 with heap:=S,toks:=Y}) LO (Nat.lt_of_succ_lt hr) (k _ _ hf) ⟨_,oc,vc,tc,rfl,k _ _ ec,rc⟩ (w.mod.nolimit.keeps λb o e=>k b o (w.bk b o e)) ((w.mod.glob.keeps w.bk).keeps k) ng ⟨mb,(sf.keeps w.bk).keeps k,N⟩ (bo x (mM B)) λh2 M u k2 hu=>?_;exact⟨h2,M,rfl,k2,hu⟩
 .obtain⟨x,t,B,rfl⟩:=L i v J;have T:A.getD i iU=x:=by simp[B]
  refine⟨.str x,W,?_,⟨t,rfl⟩,hQ x W (mM B) (λy hy=>?_) C⟩
  .have:S.Ns X.env.locals m:=l_.keeps k;exact w.mapKept l_ this λb o _ e=>k b o e
  .obtain⟨j,hj⟩:=KS.mp hy;have:=wB j (by rw[G];exact(cW.mp hj).1);have ey:A.getD j iU=y:=by simp[hj]
   rw[T,ey]at this;trivial
end
end L2
namespace Pu
open L2
noncomputable def fq(x y:Tx):Bool:=if x.length=y.length then decide (x<y)else decide (x.length<y.length)
def yi:List Tx->Option Tx
 |[]=>ac
 |x::r=>aa (r.foldl (λb y=>if fq y b then y else b) x)
theorem Qx(x:Tx):fq x x=ai:=by unfold fq;simp
theorem IA(b:fq x y=ag)(a:fq y z=ag):fq x z=ag:=by
 unfold fq at *
 grind
theorem HC(b:fq x y=ai)(a:fq y x=ai):x=y:=by
 unfold fq at *
 grind
theorem QK(r:List Tx):∀b:Tx,(r.foldl (λb y=>if fq y b then y else b) b∈b::r)/\∀y∈b::r,fq y (r.foldl (λb y=>if fq y b then y else b) b)=ai:=by
 induction r with
 |nil=>intro b;exact⟨by simp,λy a=>by simp at a;subst a;exact Qx y⟩
 |cons c r l=>
  intro b;rw[ot];obtain⟨n,i⟩:=l (if fq c b then c else b);refine⟨?_,λy a=>?_⟩
  .grind
  .generalize r.foldl (λb y=>if fq y b then y else b) (if fq c b then c else b)=m at n i;have f:=i _ (ii ..);cases g:fq y m with
   |false=>rfl
   |true=>
    rcases b8.mp a with rfl|a
    .by_cases d:fq c y=ag
     .rw[if_pos d]at f;rw[IA d g]at f;trivial
     lia
    .rcases b8.mp a with rfl|a
     .by_cases d:fq y b=ag
      .lia
      .rw[if_neg d]at f;have j:fq y b=ai:= ~~~d
       by_cases h:fq b y=ag
       .rw[IA h g]at f;trivial
       .rw[HC j (~~~h)]at g;lia
     simp_all
theorem SV(h:x∈a)(c:∀y∈a,fq y x=ai):yi a=aa x:=by
 cases a with
 |nil=>cases h
 |cons b r=>obtain⟨f,d⟩:=QK r b;show aa _=aa x;congr 1;exact HC (c _ f) (d x h)
theorem SZ(x y:Tx):e_ ((tS x).length:Nat) (tS x) ((tS y).length:Nat) (tS y)=fq x y:=by
 unfold e_ fq;have b:(tS x).length=x.length:=by rfl
 have a:(tS y).length=y.length:=by rfl
 rw[b,a];simp only[jx,Int.natCast_inj,Int.ofNat_lt]
def Ba(i:Nat):ad PV:=λa=>(aW (eQ a i) a).bind λb a=>aW ((dS b).bind λc=>(yi c).map .str) a
section
variable{X:Cx}
theorem NW(i:Nat)(hc:X.calm=ag)(hr:X.A.depth+1<zc)(hu:X.A.units+64<cLine)(LA:uL X n c P)(hm:X.mg "min"=ac)(ng:X.mg "len"=ac)(hq:(X.env.qual++"<lambda>"=n++".<locals>.<lambda>")^0) (J:(zk f X.env=pure [])^0)(LO:AN x d f:=by exact⟨λ_ _ _ _ _ _ _ _=>rfl,rfl,rfl,by decide,rfl,rfl,rfl,by decide⟩)(hN:(X.N[i]?=aa z)^0) (cJ:cO X.env.scope z^2) (hd:av z^1) (bj:a4 z^1)(I:(defaultsOf d X.env=([],[]))^0) (hg:Gl X "min"^0):DE X E (.Call (.Name "min" p) [.Name z Z] [⟨aa "key",.Lambda d (C6 x k Y W T O N) f g,kp⟩] q) (Ba i):=λF S D σ H Q A h=>by
 unfold Ba at h;cases w:eQ D i with
 |none=>rw[w]at h;exact h.elim
 |some G=>
  rw[w]at h;simp only[cA,R.bind_ok]at h;cases v:dS G with
  |none=>rw[v]at h;exact h.elim
  |some s=>
   rw[v,iZ]at h;cases l:yi s with
   |none=>rw[l]at h;exact h.elim
   |some r=>
    rw[l]at h;simp only[mQ,cA]at h;obtain rfl:=jG v;obtain⟨a,ea,⟨us,ha,M⟩,_⟩:=A.own i _ (jy w);obtain⟨rfl,B⟩:=Ws.mp M;refine bT (Sj hc hr ∅ LA LO hq J I hg hm ng (fU (dR hN cJ hd bj) gM (by rfl))) ?_;refine⟨_,ea,a,s.map tS,rfl,.inl ?_,λz=>?_,λy u=>?_,λy C u L m=>?_⟩
    .rw[ha,fg];rfl
    .rw[List.map_eq_nil_iff]at z;subst z;trivial
    .obtain⟨y,j,rfl⟩:=cX.mp u;have:=B y j;have e:(tS y).length=y.length:=by rfl
     rw[e];exact dD this kP
    .obtain⟨y,j,rfl⟩:=cX.mp u;have:yi s=aa y:=SV j λz hz=>by have:=L (tS z) (cX.mpr ⟨z,hz,rfl⟩);rwa[SZ]at this
     rw[this]at l;cases l;have al:Al F F H C:=⟨λ_ z=>z,λb o e=>m b o e,λ_ z=>.inl z⟩
     exact h F S C (A.al al) al.grow (tV r) ⟨rfl,B r j⟩
end
end Pu
namespace L2
open SeqAt
theorem VY{E:af->ak->Prop}{s:ak}{Q:a->ak->Prop}{n:Nat}{f:Nat->a->Sem (ForInStep a)}{b:a}(h:ao M A (forIn (List.range' 0 n 1) b f) Q E s):ao M A (forIn ([0:n]:WI) b f) Q E s:=by rw[Std.Legacy.Range.forIn_eq_forIn_range'];simpa[Std.Legacy.Range.size]using h
theorem Vr(l:ab)(a:Array af)(n:Nat)(J:Option ab)(u:Array (Option af))(x:af)(e:af->Bool)(j:Nat)(M:j<a.size)(I:e a[j]=ag)(H:∀m (L:m<a.size),m<j->e a[m]=ai):Meets (Builtin.«tuple.index» ⟨[.ref l,x],[]⟩) (λA R s=>s.heap.get? l=aa {cls:=.type "tuple",dict:=J,data:=.seq a n,slots:=u}/\(∀y,y∈a->EqAt A.in1 s y x (e y))/\R (.ok (.ret (.int j s.toks))) {s with toks:=s.toks+1}) :=
 .of_wp λc w A R s h=>by
  obtain⟨B,g,d,r,v⟩:=s;obtain⟨C,F,h⟩:=h
  wp_walk using lV C,VY
  refine oy _ (λrest (b:Option Fin×Unit) o=>b.1=ac/\o=⟨B,g,d,r,v⟩/\∃i,i<=j/\rest=List.range' i (a.size-i) 1) _ ?_ ?_ _ _ ⟨rfl,rfl,0,gW _,by simp⟩
  .rintro i rest b o ⟨G,rfl,k,D,f⟩;have p:a.size-k=(a.size-k-1)+1:=∅
   rw[p,List.range'_succ]at f;injection f with hi f;subst hi;have q:i<a.size:=∅
   have E:a[i]?=aa a[i]:=jY q;rw[E];dsimp only;refine aj (F a[i] (Array.getElem_mem q) c w _ _ ?_);by_cases z:i=j
   .subst z;rw[I]
    wp_walk
    exact⟨_,rfl,h⟩
   .rw[H i q ∅]
    wp_walk
    grind
  .rintro b o ⟨G,rfl,k,D,f⟩;have:a.size-k=0:=⋯
   omega
section
def Vj(K:aw):V->List V->Hp->VK->Prop:=λx b H Q=>∃(p:ab) (a:List V) (y:V) (j:Nat),x=.ref p/\b=[y]/\cq K H p a/\jw y=ag/\a.all jw=ag/\j<a.length /\
 (∀z,a[j]?=aa z->gf z y=ag)/\(∀(i:Nat) z,i<j->a[i]?=aa z->gf z y=ai)/\Q (.int j) H
theorem T0:yZ X "tuple.index" (Vj X.K):=by
 intro ae s σ H x vs v us Q I D E h;obtain⟨p,d,y,j,rfl,rfl,P,W,z,hj,T,S,q⟩:=h;cases D;obtain⟨u,rfl,G⟩:=E.one;obtain⟨a,r,⟨⟨cls,Z,B,C⟩,e,o,n,l⟩,hz⟩:=I.tuple P;simp only at o l;subst o l;have hl:a.length=d.length:=r.length.symm;have c:∀(i:Nat) (O:i<a.toArray.size),∃w,d[i]?=aa w/\lM y a.toArray[i]=gf w y:=λi O=>by
  have L:i<a.length:=by trivial
  have A:d[i]?=aa d[i]:=eh ⋯;obtain⟨w,b,J⟩:=r.get A;have Y:a[i]=w:=by rw[eh L]at b;exact fG b
  refine⟨_,A,?_⟩;rw[<-AX J (tW.mp z _ (rJ _))];simp[Y]
 refine call_meets F.slot_tuple_index ⟨_,e,rfl⟩ F.entry_tuple_index (F.args_tuple_index_2 _ _) (Vr p a.toArray n Z C u (lM y) j (by simp;simp_all) ?_ ?_) ⟨e,λw M=>Ax G W r z w (~~~M),?_⟩
 .obtain⟨w,b,f⟩:=c j (by simp;simp_all);rw[f];exact T w b
 .intro m N g;obtain⟨w,b,f⟩:=c m N;rw[f];exact S m w g b
 .exact⟨.int _,H,I.tok _,⟨_,rfl⟩,q⟩
end
end L2
namespace Pu
open L2
section
variable{a:List Nat}{e:au}{y:Str}
theorem Qa{c b:Pos}(ho:DE X E o d)(he:DE X E e de)(Y:(ko o "index" X.env (aS o X.env)=aS o X.env)^0)(W:((c.endLine == b.line)=ag)^0) (T:(jj e=ai)^0):DE X E (.Call (.Attribute o "index" c) [e] [] b) (Gh Cj d de):=λF S I u H Q O h=>by
 have s:=dA (es:=[]) (env:=X.env) T;refine bT (Mz PySem.F.slot_tuple_index PySem.F.type_tuple_index T0 bL (fU bL gM s) Y (by rw[s];rfl) W s rfl) (ho F S I u H _ O ((Ok.bind h).imp λx g F1 S1 H1 m g1 C v M=>?_));split at C
 .rename_i J;obtain⟨p,A,rfl,B,N⟩:=M;refine⟨⟨p,A,rfl,B⟩,he F1 S1 g u H1 _ m ((Ok.bind C).imp λk G F2 S2 H2 P D q w l=>?_)⟩;unfold Cj at q;cases f:dP k with
  |none=>rw[f]at q;trivial
  |some z=>
   cases r:mE J with
   |none=>rw[f,r]at q;trivial
   |some L=>
    rw[f,r]at q;cases n:L.findIdx? (λy=>gf y z)with
    |none=>rw[iZ,iZ,n]at q;trivial
    |some j=>
     rw[iZ,iZ,n]at q;obtain⟨rfl,hf⟩:=Aq (N.grow D m.fit) r;rw[kI l f];obtain⟨hj,j1,j2⟩:=D6.mp n;refine⟨p,A,z,j,rfl,rfl,cq.of (D.imm m.fit B id),xj f,hf,hj,λy Z=>?_,λi y hi Z=>?_,q F2 S2 H2 P (bI.refl ..) _ rfl⟩
     all_goals grind
 trivial
def Hq:V->List V->Hp->VK->Prop:=λx b H Q=>∃y c,x=tV y/\b=[tV c]/\Q (.bl (decide (c <:+ y))) H
theorem VA(y c:Tx):Txt.endswith (tS y) (tS c)=decide (c <:+ y):=by
 have f:(tS y).length=y.length:=by rfl
 have b:(tS c).length=c.length:=by rfl
 unfold Txt.endswith Builtin.Str.subAt;rw[f,b,tE,iX,decide_eq_true_iff,decide_eq_true_iff,beq_iff_eq];have h:(tS y).cps.extract (y.length-c.length) (y.length-c.length+c.length)=(tS c).cps↔(y.drop (y.length-c.length)).take c.length=c:=by show y.toArray.extract _ _=c.toArray↔_;simp
 rw[h];constructor
 .rintro⟨i,g⟩;have:y.drop (y.length-c.length)=c:=by rw[oa (by simp;simp_all)]at g;trivial
  rw[<-this];exact List.drop_suffix _ _
 .rintro⟨p,rfl⟩;simp
theorem MB:pf X "str.endswith" Hq:=by intro m s g H x i v j Q I b f h;obtain⟨y,c,rfl,rfl,q⟩:=h;obtain⟨t,rfl⟩:=b;obtain⟨u,rfl,l,rfl⟩:=vals1 f;exact SC.endswith ⟨.bl _,H,I.tok _,(by rw[VA];rfl),q⟩
def Au(y:Tx):List PV->Option PV
 |[.str c]=>aa (.bl (decide (c <:+ y)))
 |_=>ac
theorem U9{K:aw}:PM K Hq Au:=λF H y f g Q pv h b e q=>by
 unfold Au at e;split at e
 .rename_i c;cases e;obtain⟨v,rfl,rfl,_⟩:=dH b;exact⟨y,c,rfl,rfl,q _ F H (Al.refl ..) rfl⟩
 trivial
end
def xm:PV->PV->Option PV
 |.tup [],.tup b=>aa (.tup b)
 |.tup (x::a),.tup []=>if a.length<1000 then aa (.tup (x::a))else ac
 |x,y=>bn x y
theorem Fy{K:aw}:P2 K (λx y H Q=>yE K x y H Q\/uO K x y H Q) xm:=λF H x y v u Q pv d c e q=>by
 unfold xm at e;split at e
 .cases e;obtain⟨a,i,rfl,g,j⟩:=d;obtain⟨b,h,rfl,f,l⟩:=id c;rw[show i=[] from j]at g;exact .inl ⟨a,b,h,rfl,rfl,cq.of g,cq.of f,q _ F H (Al.refl ..) c⟩
 .split at e
  .rename_i n;cases e;obtain⟨a,i,rfl,g,j⟩:=id d;obtain⟨b,h,rfl,f,l⟩:=id c;rw[show h=[] from l]at f;have m:=j.len;refine .inr (.inr (.inl ⟨a,b,i,[],rfl,rfl,cq.of g,cq.of f,?_,?_,λ_=>q _ F H (Al.refl ..) d,λz=>absurd rfl z⟩))
   .rintro rfl;trivial
   .rw[m,rg];simp;lia
  trivial
 .exact .inr (cG F H _ _ v u Q pv d c e q)
end Pu
namespace L2
section
def LW:V->List V->Hp->VK->Prop:=λx b H Q=>∃(l:ab) (a:List Tx) (y:Tx),x=.ref l/\b=[tV y]/\H l=aa (.lst (bz a))/\y∈a/\Q .non (upd H l (.lst (bz (a.erase y))))
theorem SF{y:Tx}(r:bE (bz c) b):∀u∈b,∃z t,u=Value.str (tS z) t:=by intro u d;obtain⟨i,f⟩:=KS.mp d;obtain⟨v,a,g⟩:=yD r f;unfold bz at a;rw[cT]at a;obtain⟨z,_,rfl⟩:=gU.mp a;obtain⟨t,rfl⟩:=g;lia
theorem IK:∀{a:List Tx},y∈a->∃j,j<a.length/\a[j]?=aa y/\(∀i z,i<j->a[i]?=aa z->z≠y)/\a.eraseIdx j=a.erase y
 |x::a,h=>by
  by_cases e:x=y
  .subst e;exact⟨0,by simp,rfl,λi z c=>⋯,by simp⟩
  .obtain⟨j,l,g,d,f⟩:=IK ((b8.mp h).resolve_left λz=>e z.symm);refine⟨j+1,by simp;omega,by trivial,λi z c b=>?_,⋯⟩;cases i with
   |zero=>simp at b;subst b;exact e
   |succ i=>exact d i z ∅ (by trivial)
theorem GQ{a b:Type}(f:a->b):∀(l:List a) (j:Nat),(l.map f).eraseIdx j=(l.eraseIdx j).map f
 |[],_=>rfl
 |x::l,0=>rfl
 |x::l,j+1=>by rw[cN,D_,D_,cN,GQ f l j]
theorem Ry:yZ X "list.remove" LW:=by
 intro ae s S H x T v W Q I B C h;obtain⟨l,b,y,rfl,rfl,A,J,q⟩:=h;cases B;obtain⟨u,rfl,D⟩:=C.one;obtain⟨ty,rfl⟩:=D;obtain⟨z,a,n,r,N,e⟩:=I.lstM A;obtain⟨j,Z,Y,E,p⟩:=IK J;have bo:a.length=b.length:=by rw[<-N];simp[bz]
 have o:∀(i:Nat) (O:i<a.toArray.size),∃w t,b[i]?=aa w/\a.toArray[i]=Value.str (tS w) t:=λi O=>by
  have G:i<a.length:=by trivial
  obtain⟨v,c,d⟩:=yD r (eh G);unfold bz at c;rw[cT]at c;obtain⟨w,P,rfl⟩:=gU.mp c;obtain⟨t,h4⟩:=d;exact⟨w,t,P,by trivial⟩
 let eb:af->Bool:=λv=>match v with|.str z _=>z.cps.toList == y|_=>ai
 have g:∀(w:Tx) (t:Tok),eb (.str (tS w) t)=(w == y):=λw t=>by rfl
 refine call_meets F.slot_list_remove ⟨_,e,rfl⟩ F.entry_list_remove (F.args_list_remove_2 _ _) (MeetsSeq.list_remove l a.toArray n (.str (tS y) ty) eb (λw L=>?_) j (by simp;simp_all) ?_ (λm M f=>?_) (by rw[eJ];simp_all)) ⟨e,?_⟩
 .obtain⟨w,t,rfl⟩:=SF (y:=y) r w (~~~L);have:=SeqRoads2.EqGives.str (tS w) (tS y) t ty;trivial
 .obtain⟨w,t,c,d⟩:=o j (by simp;simp_all);simp_all
 .obtain⟨w,t,c,d⟩:=o m M;exact(congrArg eb d).trans ((g _ t).trans (by simpa using E m w f c))
 .refine⟨.non,_,I.lset (its':=a.eraseIdx j) A e (ys:=bz (b.erase y)) ?_ ?_ ?_,rfl,q⟩
  .simp
  .have:=r.eraseIdx j;rw[<-p];unfold bz at this ⊢;rw[show(b.eraseIdx j).map tV=(b.map tV).eraseIdx j from(GQ tV b j).symm];trivial
  .have:=FN b j;rw[p]at this;have e2:(bz b).length=b.length:=by simp[bz]
   have e3:(bz (b.erase y)).length=(b.erase y).length:=by simp[bz]
   omega
end
end L2
namespace Pu
open L2
section
variable{de:ad PV}{b:Pos}
def Bf(i:Nat)(de:ad PV):ad aG:=λd=>(aW (eQ d i) d).bind λ_ d=>(de d).bind λy a=>(aW (eQ a i) a).bind λg a=>match y with
 |.str y=>(aW (dS g) a).bind λf a=>if y∈f then .ok .next (a.set i (.own (.lst (a6 (f.erase y)))))else .no
 |_=>.no
theorem V4(i:Nat){f:Pos}(Z:DE X E e de)(hN:(X.N[i]?=aa x)^0)(T:cO X.env.scope x^2)(hd:av x^1)(bj:a4 x^1) (h1:(ko (.Name x p) "remove" X.env (aS (.Name x p) X.env)=aS (.Name x p) X.env)^0)(h2:(((c8 d (aV [e] X.env)).all (λx=>!x.1)&&(rA d (rB [] X.env)).all (λx=>x.1.isSome)&&decide ([e].length+([]:List kq).length+(if([]:List kq).isEmpty then 0 else 1)<30))=ag)^0)(h3:((f.endLine == d.line)=ag)^0) (B:(aV [e] X.env=(ai,aS e X.env)::aV [] X.env)^0) (h5:((c8 d (aV [] X.env)).any (·.1)=ai)^0)(W:(iG (.Call (.Attribute (.Name x p) "remove" f) [e] [] d) ac b.line X.env=pure ai)^0):DS X E c (.Expr (.Call (.Attribute (.Name x p) "remove" f) [e] [] d) b) (Bf i de):=λF S u s H D w h=>by
 unfold Bf at h;cases r:eQ u i with
 |none=>rw[r]at h;exact h.elim
 |some G=>
  rw[r]at h;simp only[cA,R.bind_ok]at h;obtain⟨a,J,n,ha,_,_,_⟩:=w.lstAt (jy r);refine eY (yf (yH KU PySem.F.slot_list_remove PySem.F.type_list_remove Ry (dR hN T hd bj) (fU bL gM B) h1 h2 h3 B h5) W) ⟨.ref a,n,.inl ⟨rfl,_,cg.of ha⟩,?_⟩;refine Z F S u s H _ w (h.bindE.imp λy l C S1 H1 A g1 q v L=>?_);cases j:eQ l i with
  |none=>rw[j]at q;trivial
  |some I=>
   rw[j]at q;simp only[cA,R.bind_ok]at q;obtain⟨a',vs,g,P,N,_,_⟩:=A.lstAt (jy j);rw[n]at g;cases g;split at q
   .rename_i y;cases o:dS I with
    |none=>rw[o]at q;trivial
    |some m=>
     rw[o]at q;simp only[cA,R.bind_ok]at q;obtain rfl:=jG o;obtain⟨rfl,bo⟩:=Ws.mp N;split at q
     .rename_i Y;have M:bd X.K H1 C (a6 (m.erase y)) (bz (m.erase y)):=Ws.mpr ⟨rfl,λz Q=>bo z (List.mem_of_mem_erase Q)⟩;obtain⟨O,g2⟩:=A.upd (jy j) n M;exact⟨a,m,y,rfl,by rw[L.1],P,Y,q C S1 s _ O g2 (ju.refl _ _)⟩
     trivial
   trivial
end
end Pu
namespace L2
open Pu
def uG(a:ab)(o:Obj)(b:List (aF×V)):It :=⟨λi H=>H a=aa (.frz o (.dK b))/\i<b.length,λi H x c=>c=H/\∃p,b[i]?=aa p/\x=p.2,λi H=>H a=aa (.frz o (.dK b))/\b.length<=i⟩
theorem SX{K:aw}{tg:au}(a j:ab)(o:Obj)(g:List (aF×V)):nB P w K tg (uG a o g) [j] j (λi h=>h.IsValIter j a i g.length (mj o)) where
 mem:=by simp
 obj:=λi h f b l=>by
  have e:b=j:= ~~~l
  subst e;obtain⟨o,e,c,d⟩:=f;simp_all
 keep:=λi h r f k=>f.at λo e=>k j (by simp) o e
 item:=by
  intro X D u F W i Y s Q H E I n f B;subst D u F;obtain⟨y,T⟩:=B;obtain⟨z,A⟩:=(show bN X.prog X.w H s.heap a (.frz o (.dK g))from I.hok a _ y)
  obtain⟨hs,Z,m,C⟩:=Do z A;obtain⟨p,S⟩:∃p,g[i]?=aa p:=⟨_,eh T⟩
  obtain⟨q,x,e1,e2⟩:=L2.KV.at m S;obtain⟨N,M,f2,L,J,G⟩:=n j (by simp);rw[m.len]at f;refine wpAny_pyNext_values_item (k:=q.1) (v:=q.2) f C x λr O sb=>?_;have I1:Inv X Y Q H {s with heap:=r}:=I.turned (t':=s.toks) (λb o l e=>(sb.2 b l).trans e) N M L J G;rw[<-m.len]at O;obtain⟨oi,e,c,d⟩:=id O;exact⟨q.2,rfl,qd (s:={s with heap:=r}) e c d (by rfl) ⟨p.2,H,I1,e2,⟨rfl,p,S,rfl⟩,O,λb l=>(n b l).1⟩⟩
 done:=by
  intro X D u F W i Y s Q H E I n f B;subst D u F;obtain⟨y,T⟩:=B;obtain⟨z,A⟩:=(show bN X.prog X.w H s.heap a (.frz o (.dK g))from I.hok a _ y)
  obtain⟨hs,Z,m,C⟩:=Do z A;obtain⟨N,M,f2,L,J,G⟩:=n j (by simp);have hl:=m.len;rw[hl]at f;exact wpAny_pyNext_values_end (I.ok.hd W) f C (mR ⋯) λr eb=>⟨rfl,I.turned (t':=s.toks) (λb o l e=>eb b o l e) N M L J G⟩
 self:=λ_ _ _ _ _ f h=>wpAny_pyIter_valiter f h
section
variable{X:Cx}{c:au}
def TF(i:Nat):TI:=λd H R=>∃a b,d[i]?=aa (aa (.ref a))/\H a=aa (.dK b)/\∀o q,H q=ac->(b.map (·.1)).Nodup->b.length<=bh->R (uG a o b) (upd (upd H q (iQ q a)) a (.frz o (.dK b)))
theorem T7(i:Nat){g f:Pos}(P:X.N[i]?=aa y)(G:cO X.env.scope y)(N:av y)(T:a4 y)(F:ko (.Name y m) "values" X.env (aS (.Name y m) X.env)=aS (.Name y m) X.env) (E:(g.endLine == f.line)=ag):PI X c (.Call (.Attribute (.Name y m) "values" g) [] [] f) (TF i):=by
 intro Y s B H R I h;obtain⟨a,d,Q,z,q⟩:=h;refine aP (Gr KC KY PySem.F.type_dict_values HQ (dR P G N T) F E Y s B H (λx A=>∃q,x=.ref q/\H q=ac/\A=upd H q (iQ q a)) I ⟨.ref a,Q,.inr (.inr (.inl ⟨rfl,.inl ⟨_,z⟩⟩)),a,d,rfl,rfl,z,λq J=>⟨q,rfl,J,rfl⟩⟩) λv j ⟨x,A,n,C,D⟩=>?_;obtain⟨p,e,L,S⟩:=D;subst e S;cases C;have W:a≠p:=by lia
 have r:upd H p (iQ p a) a=aa (.dK d):=by rw[aU W];trivial
 obtain⟨o,M,u⟩:=n.freeze r;obtain⟨hs,vs,w,l⟩:=Do (o:=o) M (show bN X.prog X.w _ j.heap a (.dK d)from n.hok a _ r);obtain⟨Z,_,_⟩:=(show bN X.prog X.w _ j.heap p (iQ p a)from n.hok p _ upd_same)
 refine wpAny_pyIter_values Z l ?_;rw[<-w.len];refine⟨j.heap.objs.size,[j.heap.objs.size],_,_,_,rfl,u.kept (t':=j.toks) λb o e=>bi _ e,SX a _ o d,⟨_,bU _ rfl,rfl,rfl⟩,λb O=>?_,q o p L (by rw[w.keysD];exact l.nodup) (show d.length<=bh by have:=(show bN X.prog X.w _ j.heap a (.dK d)from n.hok a _ r).1;trivial)⟩;have e:b=j.heap.objs.size:= ~~~O
 subst e;exact u.fpOk (a_ _) (u.hok.fresh (a_ _))
end
section
variable{d:List Nat}
def V3(i:Nat)(w:TT)(z:TE)(d:List Nat):TE:=λp H Q=>∃a g,p[i]?=aa (aa (.ref a))/\H a=aa (.dK g)/\∀o q l,H q=ac->(g.map (·.1)).Nodup->g.length<=bh->upd (upd H q (iQ q a)) a (.frz o (.dK g)) l=ac->∃W:Nat->Nat->List V->Hp->Prop,(∃m,W 0 m [] (upd (upd (upd H q (iQ q a)) a (.frz o (.dK g))) l (.lst [])))/\∀i m h n,W i m h n ->
 ((uG a o g).stop i n/\Q (.ref l) (upd n a (.dK g)))\/((uG a o g).go i n/\∀v u,(uG a o g).yld i n v u->w (aa v::fB p d) u λb s=>if b=ag then z (aa v::fB p d) s λy r=>r l=aa (.lst h)/\h.length<bh/\∃j,j<m/\W (i+1) j (h++[y]) (upd r l (.lst (h++[y]))) else ∃j,j<m/\W (i+1) j h s)
theorem QN{j g:Pos}(i:Nat)(B:iy X c x f d)(hc:X.calm=ag)(hN:X.N[i]?=aa y)(hv:cO X.env.scope y)(hd:av y)(bj:a4 y)(i6:ko (.Name y r) "values" X.env (aS (.Name y r) X.env)=aS (.Name y r) X.env) (i7:(j.endLine == g.line)=ag)(ht:∀C b n L J,qJ (bO X c f C b n L J) D M) (he:∀C b n L J,PE (bO X c f C b n L J) E N) (hs:(∀x,km (.Call (.Attribute (.Name y r) "values" j) [] [] g) X.env x=pure x)^4):PE X (.ListComp E [⟨.Name x Y,.Call (.Attribute (.Name y r) "values" j) [] [] g,D,0⟩] c G) (V3 i M N d):=by
 intro ae s O H Q I h;obtain⟨a,p,ea,eH,h⟩:=h;have hn:∀o u,X.H₀ a≠aa (.frz o u):=λo u z=>by have:=I.base.frzs a o u z;lia
 refine aP (Hu B hc (T7 i hN hv hd bj i6 i7) ht he hs ae s O H (λv F=>∃o,F a=aa (.frz o (.dK p))/\Q v (upd F a (.dK p))) I ⟨a,p,ea,eH,λo q hq Z hz l hl=>?_⟩) λv s' ⟨x,F,I',T,o,e',q⟩=>⟨x,_,I'.thaw e' hn,T,q⟩
 obtain⟨W,S,A⟩:=h o q l hq Z hz hl;refine⟨W,S,λi m P F w=>?_⟩;rcases A i m P F w with⟨st,q⟩|z
 .exact .inl ⟨st,o,st.1,q⟩
 .exact .inr ⟨z.1,λv H1 y=>⟨[aa v],rfl,rfl,z.2 v H1 y⟩⟩
end
end L2
namespace Pu
open L2
section
variable{X:Cx}{E:XK}{d:List Nat}{c:Pos}
def ui:List (aF×PV)->Option (List Int)
 |[]=>aa []
 | (_,.int i)::r=>(ui r).map (i::·)
 |_=>ac
theorem UB{K:aw}:∀{a:List (aF×PV)}{b:List (aF×V)}{is:List Int},gQ K H F a b->ui a=aa is->b.map (·.2)=is.map V.int:=by
 intro a b is h e;unfold gQ at h
 induction h generalizing is with
 |nil=>cases e;rfl
 |@cons p q ps qs r _ ih=>
  obtain⟨l,pv⟩:=p;obtain⟨j,g⟩:=q;cases pv <;> simp only[ui,gU]at e <;> try cases e
  obtain⟨i,f⟩:=r;obtain rfl:g=V.int _:=f
  grind
def BL(i:Nat):ad PO:=λa=>(aW (dW a i) a).bind λb a=>(aW (ui b) a).bind λis a=>.ok (.lst ((is.filter λn=>decide (0<n)).map .int)) a
theorem Fm{K:aw}:∀l:List Int,bd K H F (l.map .int) (l.map V.int)
 |[]=>rfl
 |i::l=>⟨_,_,rfl,rfl,Fm l⟩
theorem Tp(e:H a=aa v)(g:l≠a)(f:q≠a):upd (upd (upd (upd H q b) a o) l u) a v=upd (upd H q b) l u:=by
 have:upd H q b a=aa v:=by rw[aU (fF f)];exact e
 exact VZ this g
theorem U4{r:cV}(i:Nat){px p1 p2 p3 p4 I w u:Pos}{c0}(B:iy X r x [x] [])(hc:X.calm=ag)(hN:(X.N[i]?=aa y)^0)(cJ:cO X.env.scope y^2)(hd:av y^1) (bj:a4 y^1)(i6:(ko (.Name y I) "values" X.env (aS (.Name y I) X.env)=aS (.Name y I) X.env)^0) (i7:((w.endLine == u.line)=ag)^0)(hp0:∀C f g G D,PE (bO X r [x] C f g G D) (.Name x p1) (yN 0):=by intro _ _ _ _ _;exact pv 0) (oH:∀C f g G D,PE (bO X r [x] C f g G D) (.Name x p2) (yN 0):=by intro _ _ _ _ _;exact pv 0)(hs:(∀x,km (.Call (.Attribute (.Name y I) "values" w) [] [] u) X.env x=pure x)^4):DN X E (.ListComp (.Name x p1) [⟨.Name x px,.Call (.Attribute (.Name y I) "values" w) [] [] u,[.Compare (.Name x p2) [.Gt] [.Constant (.int 0) c0 p3] p4],0⟩] r c) (BL i):=λF S ε σ H Q P h=>by
 unfold BL at h;cases e0:dW ε i with
 |none=>rw[e0]at h;exact h.elim
 |some Z=>
  rw[e0]at h;simp only[cA,R.bind_ok]at h;cases N:ui Z with
  |none=>rw[N]at h;exact h.elim
  |some is=>
  rw[N]at h;simp only[cA,R.bind_ok]at h;obtain⟨a,s,ea,ha,hk,hS,_⟩:=P.dkAt (lc e0);have ue:=UB hk N;have bo:s.length=is.length:=by have:=congrArg n4 ue;rwa[cy,cy]at this
  refine bT (QN i B hc hN cJ hd bj i6 i7 (λC f g G D=>Kd (yK (LX (oH C f g G D) JP))) (λC f g G D=>hp0 C f g G D) hs) ⟨a,s,ea,ha,λo q l hq nd hz hl=>?_⟩;have hqa:q≠a:=by lia
  have A:l≠a:=by rintro rfl;rw[upd_same]at hl;trivial
  have L:l≠q:=by rintro rfl;rw[aU A,upd_same]at hl;trivial
  have kD:H l=ac:=by rw[aU A,aU L]at hl;trivial
  let PS:Nat->List V:=λj=>((is.take j).filter λn=>decide (0<n)).map V.int
  refine⟨λj m W H'=>m=s.length-j/\j<=s.length/\W=PS j/\H'=upd (upd (upd H q (iQ q a)) a (.frz o (.dK s))) l (.lst W),⟨_,rfl,gW _,by rfl,rfl⟩,?_⟩;rintro j m W H' ⟨rfl,hj,rfl,rfl⟩;have p8:upd (upd (upd H q (iQ q a)) a (.frz o (.dK s))) l (.lst (PS j)) a=aa (.frz o (.dK s)):=by rw[aU (fF A),upd_same]
  by_cases bc:j<s.length
  .refine .inr ⟨⟨p8,bc⟩,λv H1 ⟨N,p,hp,e2⟩=>?_⟩;subst N e2;have M:j<is.length:=⋯
   have J:p.2=V.int is[j]:=by
    have h1:(s.map (·.2))[j]?=aa p.2:=by rw[cT,hp];rfl
    rw[ue,cT,eh M]at h1;exact(fG h1).symm
   have T:PS (j+1)=PS j++(if 0<is[j] then [V.int is[j]] else []):=by show((is.take (j+1)).filter λn=>decide (0<n)).map V.int=((is.take j).filter λn=>decide (0<n)).map V.int++_;rw[Ld M,Ei,v6];congr 1;by_cases z:0<is[j] <;> simp[z]
   have cp:(PS j).length<=j:=by
    grind
   refine⟨p.2,rfl,is[j],0,J,rfl,_,rfl,?_⟩;dsimp only;by_cases z:0<is[j]
   .rw[if_pos (show decide (0<is[j])=ag from decide_eq_true z)];rw[if_pos z]at T;refine⟨p.2,rfl,upd_same,∅,s.length-(j+1),∅,rfl,bc,?_,?_⟩
    .rw[J];exact T.symm
    .rw[Oc]
   .rw[if_neg (show ¬decide (0<is[j])=ag by rw[decide_eq_false z];simp)];rw[if_neg z,jU]at T;exact⟨s.length-(j+1),∅,rfl,bc,T.symm,rfl⟩
  .have e:j=s.length:=∅
   subst e;refine .inl ⟨⟨p8,a_ _⟩,?_⟩;rw[Tp ha A hqa];have hPS:PS s.length=(is.filter λn=>decide (0<n)).map V.int:=by show((is.take s.length).filter _).map V.int=_;rw[bo,Ee]
   rw[hPS];have O:Al F F H (upd H q (iQ q a)):=Al.new0 hq;have hl1:upd H q (iQ q a) l=ac:=by rw[aU L];trivial
   have Y:=P.al O;have al:Al F F (upd H q (iQ q a)) (upd (upd H q (iQ q a)) l (.lst ((is.filter λn=>decide (0<n)).map V.int))):=Al.new0 hl1;refine h F S _ (Y.al al) (O.grow.trans al.grow) l (λb=>b=l) ⟨⟨_,upd_same,Fm _⟩,λb=>i5⟩ λb z=>?_;subst z;refine⟨kD,λz=>?_,λ⟨j,z⟩=>?_,_,upd_same,trivial⟩
   .obtain⟨o,q⟩:=P.ex b z;lia
   .obtain⟨_,_,o,q,_⟩:=P.foot j b z;lia
theorem Ab{b:List Int}(r:bE (b.map V.int) a):IntsAre a b:=by
 induction b generalizing a with
 |nil=>cases r;exact .nil
 |cons i b f=>
  cases r with
  |cons h r=>obtain⟨t,rfl⟩:=h;exact .cons _ _ (f r)
theorem Nn(w:X.calm=ag):c_ X (.builtin "sum") (λa H Q=>∃(p:ab) (b:List Int),a=[.ref p]/\cg X.K H p (b.map V.int)/\Q (.int b.sum) H):=by
 intro F s A H a B Q I r h;obtain⟨p,b,rfl,o,q⟩:=h;obtain⟨u,rfl,m⟩:=vals1 r;cases m;obtain⟨f,l,n,C⟩:=I.list o;have i:=Ab l;obtain⟨a,g⟩:=i.allInts.items;have x:s.heap.IsList p (intItems a):=g ▸ n.isList;refine sum_intListG (I.ok.hd w) x λD j t' v=>?_;have z:b=a.toList.map (·.1):=by rw[<-nums_intItems,<-g];exact(show numsOf f.toArray.toList=b from i.numsOf).symm
 have y:preSum (numAt a) a.size=b.sum:=by rw[preSum_eq,oa (by simp),z]
 rw[y];exact⟨.int b.sum,H,I.kept (t':=j) v,⟨t',rfl⟩,q⟩
noncomputable def B2:List PV->Option PV
 |[.lst a]=>(intsQ a).map λis=>.int is.sum
 |_=>ac
where intsQ:List PV->Option (List Int)
 |[]=>aa []
 |.int i::r=>(intsQ r).map (i::·)
 |_=>ac
theorem FQ{K:aw}:∀{a:List PV}{b:List V}{is:List Int},bd K H F a b->B2.intsQ a=aa is->b=is.map V.int
 |[],_,_,r,e=>by cases e;exact r
 |x::a,b,is,⟨v,r,i,g,f⟩,e=>by
  cases x <;> simp only[B2.intsQ,gU]at e <;> try cases e
  rename_i h;rw[i,FQ f h.1,<-h.2,show v=_ from g];rfl
theorem Ql:PL X.K (λb H Q=>∃(p:ab) (f:List Int),b=[.ref p]/\cg X.K H p (f.map V.int)/\Q (.int f.sum) H) B2:=λF H b m Q pv h e q=>by
 unfold B2 at e;split at e
 .obtain⟨v,rfl,a,n,rfl,i,_,g⟩:=dH h;obtain⟨is,l,j⟩:=gU.mp e;have:=FQ g l;subst this;subst j;exact⟨a,is,rfl,.inl i,q _ F H (Al.refl ..) rfl⟩
 trivial
end
section
variable{X:Cx}
def vI(i j:Nat)(f:ad aG):List PV->ah->R aG
 |[],c=>.ok .next c
 |x::g,c=>match x with
  |.tup [u,v]=>match f ((c.set i (.val u)).set j (.val v))with
   |.ok .next b=>vI i j f g b
   |.ok .cont b=>vI i j f g b
   |.ok .brk b=>.ok .next b
   |r=>r
  |_=>.no
def BU(i j:Nat)(g:ad (List PV))(h:ad aG):ad aG:=λc=>(g c).bind λf b=>vI i j h f b
theorem J0(i j:Nat)(r8:tz X.zz X.A X.env X.xe)(hc:X.calm=ag)(hN:X.N.Nodup)(hi:DI X E (.Tuple [.Name x p,.Name y p2] k C) o di)(hb:fP X E a r O)(hp:(i∉a)^1) (fi:(j∉a)^1) (M:(X.N[i]?=aa x)^0) (hy:(X.N[j]?=aa y)^0) (hl:Loc X.env.scope x^6) (g7:Loc X.env.scope y^6) (hs:(∀x,km o X.env x=pure x)^4)(hf:a3 X x^3) (oF:a3 X y^3):DS X E a (.For (.Tuple [.Name x p,.Name y p2] k C) o r [] d) (BU i j di O):=λF S ε σ H D rl h=>by
 refine eY (BF r8 hc vS (Cr hc (tq (nV hN M hl hf) (tq (nV hN hy g7 oF) Co))) nL hs) (hi F S ε σ H _ rl (h.bindE.imp λG Q F1 S1 H1 r1 g1 h1 J vs RR rs hz hw keep=>?_));refine Cn hw (λk l n=>∃z A m,aY X.K z A m l n/\bI (U S1) (U A) F1 z H1 n/\jP X.K E a l z A n (vI i j O (G.drop k) m) D) ⟨F1,S1,Q,r1,bI.refl ..,h1⟩ (λk l n _ ⟨z,A,m,_,g,_⟩=>keep A z n g) ?_ ?_
 .rintro k v l n hv ⟨z,A,m,Z,N,q⟩;obtain⟨x,M,rx⟩:=rs.back hv;have hk:k<G.length:=(cW.mp M).1;have ed:G.drop k=x::G.drop (k+1):=by rw[zE hk];congr 1;exact(cW.mp M).2
  rw[ed]at q;have Y:=rx.grow N r1.fit;unfold vI at q;split at q
  .rename_i u w;obtain⟨pp,us,rfl,fj,ru⟩:=Y;obtain⟨W,ra,rfl,r2,T,rb,rfl,I,rfl⟩:=ru;have r5:=(Z.set (i:=i) r2).set (i:=j) I;have gl:bI (U A) (U λj' b=>(A j' b/\j'≠i)/\j'≠j) z z n n:=(bI.less i).trans (bI.less j);refine⟨pp,_,rfl,cq.of fj,rfl,W,_,rfl,T,_,rfl,rfl,?_⟩;show nE X r _ ((l.set i (aa W)).set j (aa T)) n;refine hb z _ _ _ n _ r5 ?_;have q:=q.from gl ((ju.set (x:=aa W) hp).trans (ju.set (x:=aa T) fi));cases e:O ((m.set i (.val u)).set j (.val w))with
   |no=>rw[e]at q;exact q
   |er c B=>rw[e]at q;exact q
   |ok f B=>
    rw[e]at q;cases f with
    |next=>exact λF3 S3 P H3 I L C=>⟨F3,S3,B,I,(N.trans gl).trans L,q.from L C⟩
    |cont=>exact λF3 S3 P H3 I L C=>⟨F3,S3,B,I,(N.trans gl).trans L,q.from L C⟩
    |brk=>exact q
    |ret s=>exact q
  trivial
 .rintro l n ⟨z,A,m,Z,N,q⟩;have hl:vs.length=G.length:=rs.len;rw[hl,zF]at q;exact q z A l n Z (bI.refl ..) (ju.refl _ _)
end
end Pu
namespace HT
theorem getItem_tuple_whole{s:ak}{m:af}{b g:Option Int}{Q:af->ak->Prop}(f:IsTup s.heap t a)(o:s.heap.IsSliceOf i n m .none)(r:lW n b)(q:lW m g)(x:sIx a.size 0 b=0) (v:sIx a.size a.size g=a.size) (h:Q (.ref t) s):ao (ar c w) A (n6 (.ref t) (.ref i)) Q E s:=by
 obtain⟨u,p,j,y⟩:=id o;have l:s.TypeIs (.ref i) "slice":=⟨u,p,j⟩
 unfold n6
 try with_reducible refine d_ ?_
 first|refine aj (aq ?_)|skip
 refine aj (wpAny_sequenceKey f.typeIs (by rfl) ?_);refine aj (tG (name:=mN "__getitem__") f.typeIs DL (jm DL f.typeIs entry_tuple_getitem ?_ (args_tuple_getitem _ _)));show ao _ _ (DM (.ref t) >>= _) _ _ s;refine aj (tupleItemsOf_ f ?_);refine aj (tI l ?_);rw[if_pos (by rfl)];refine aj (Jd o r q ?_);have d:(((sIx a.size 0 b:Nat):Int) == 0&&(1:Int) == 1&&(sIx a.size a.size g-sIx a.size 0 b) == a.size)=ag:=by rw[x,v];simp
 show ao _ _ (if(((sIx a.size 0 b:Nat):Int) == 0&&(1:Int) == 1&&(sIx a.size a.size g-sIx a.size 0 b) == a.size)=ag then _ else _) _ _ s;rw[if_pos d];unfold Builtin.Tuple.tupleIsExact;refine aj (aj (tI f.typeIs (aq ?_)));rw[if_pos (by rfl)];exact aj (lu (aq ⟨_,rfl,aq h⟩))
end HT
namespace L2
def CL(K:aw):V->Option Int->Option Int->Hp->VK->Prop:=λx c d H Q=>∃a b,x=.ref a/\cq K H a b/\HT.sIx b.length 0 c=0/\HT.sIx b.length b.length d=b.length/\Q (.ref a) H
theorem Wp:lG X (CL X.K):=by
 intro C s n H x v p o w z u Q I f l i g h;obtain⟨a,d,rfl,j,B,A,q⟩:=h;cases f;obtain⟨b,r,c,y⟩:=I.tuple j;have m:b.toArray.size=d.length:=by rw[eJ];exact r.length.symm
 refine⟨"tuple",_,PyProof.Rows.slot_tuple_getitem.lookup,c.typeIs,?_⟩;exact HT.getItem_tuple_whole c l i g (by rw[m];trivial) ⋯ ⟨.ref a,H,I,rfl,q⟩
end L2
namespace Pu
open L2
def Dr:PV->Option Int->Option Int->Option PV
 |.tup a,b,c=>if HT.sIx a.length 0 b=0/\HT.sIx a.length a.length c=a.length then aa (.tup a)else aa (.tup (eB a b c))
 |x,b,c=>br x b c
theorem QS:lG X (λx a b H Q=>CL X.K x a b H Q\/xU X.K x a b H Q):=Wp.or cF
theorem Mu{K:aw}:BM K (λx b c H Q=>CL K x b c H Q\/xU K x b c H Q) Dr:=λF H x b c v Q pv d e q=>by
 cases x with
 |tup j=>
  unfold Dr at e;dsimp only at e;split at e
  .rename_i f;cases e;obtain⟨a,h,rfl,i,g⟩:=id d;exact .inl ⟨a,h,rfl,cq.of i,by rw[g.len];exact f.1,by rw[g.len];exact f.2,q _ F H (Al.refl ..) d⟩
  .rename_i f;exact .inr (cC F H _ b c v Q pv d ((if_neg f).trans e) q)
 |_=>exact .inr (cC F H _ b c v Q pv d e q)
end Pu
namespace L2
open Mx
section
variable{P:aM}{w:aD}{A:aZ}{E:af->ak->Prop}{s:ak}
noncomputable def DrIs(h:ax)(k:List Str×List Str)(v:af):Prop:=k.1≠[]/\∃(a b c:ab) (f d:Array af),v=.ref a/\IsTup h a #[.ref b,.ref c]/\IsTup h b f/\bR f.toList k.1/\IsTup h c d/\bR d.toList k.2
theorem DrIs.inj(x:DrIs h k v)(y:DrIs h f v):k=f:=by
 obtain⟨_,a,b,c,m,g,rfl,r,q,p,o,n⟩:=x;obtain⟨_,G,F,D,i,d,e,z,C,u,l,j⟩:=y;cases e;have B:b=F/\c=D:=by have:=congrArg Array.toList (tup_uniq r z);lia
 obtain⟨rfl,rfl⟩:=B;obtain rfl:=tup_uniq q C;obtain rfl:=tup_uniq o l;exact rh (strs_uniq p u) (strs_uniq n j)
noncomputable def hashTs(P:aM)(w:aD)(a:List Str):Int:=jT (gn (a.map (cn P w).hash))
def hashDr(P:aM)(w:aD)(k:List Str×List Str):Int:=jT (gn [hashTs P w k.1,hashTs P w k.2])
theorem hash_ts(j:A.units+1<cLine)(i:IsTup s.heap b a)(h:bR a.toList c):HsAt P w A s (.ref b) (hashTs P w c):=by obtain⟨g,f,d⟩:=strs_pairs (P:=P) (w:=w) (A:=A.in1) (s:=s) h;have:=hash_tup (P:=P) (w:=w) (A:=A) (s:=s) ∅ i g d;rw[f]at this;trivial
theorem hash_dr(n:A.units+4<cLine)(x:DrIs s.heap k v):HsAt P w A s v (hashDr P w k):=by
 obtain⟨_,a,b,c,g,d,rfl,m,l,j,i,h⟩:=x;refine hash_tup (hs:=[(.ref b,hashTs P w k.1),(.ref c,hashTs P w k.2)]) ∅ m rfl λp f=>?_;simp only[b8,fL,or_false]at f;rcases f with rfl|rfl
 .exact hash_ts (show A.units+1+1<cLine by lia) l j
 .exact hash_ts (show A.units+1+1<cLine by lia) i h
def drKd(P:aM)(w:aD):Keyd P w (List Str×List Str) where
 is:=DrIs
 hash:=hashDr P w
 room:=λA=>A.units+4<cLine
 keep:=λ⟨C,a,b,c,g,d,e,i,l,h,p,m⟩ k=>⟨C,a,b,c,g,d,e,tup_kept i k,tup_kept l k,h,tup_kept p k,m⟩
 ref:=λ⟨_,a,_,_,_,_,e,⟨o,i,_⟩,_⟩=>⟨a,o,e,i⟩
 eqBool:=λ{A E s x y u v Q} Z H G q=>by
  by_cases D:u=v
  .subst D;obtain rfl:=H.inj G;rw[decide_eq_true rfl]at q;exact DU _ _ _ _ _ q
  .obtain⟨_,a,b,c,g,d,rfl,i,l,h,p,m⟩:=H;obtain⟨_,a',b',c',F,B,rfl,M,O,L,r,I⟩:=G;have N:decide (x=y)=((ce (min 2 2)).all (λj=>if j=0 then decide (x.1=y.1)else decide (x.2=y.2))&&2 == 2):=by obtain⟨X,W⟩:=x;obtain⟨T,S⟩:=y;rw[tE];simp[rG]
   rw[N]at q;refine K8 (λz=>D (by rw[z])) (.tuples i M ∅ λj J Y=>?_) _ _ _ _ q
   match j,J with
   |0,_=>exact eq_strs (show A.units+1<cLine by lia) l h O L
   |1,_=>exact eq_strs (show A.units+1<cLine by lia) p m r I
 quiet:=λ⟨_,a,b,c,g,d,e,i,l,h,p,m⟩ q=>by
  subst e;refine quiet_tup (n:=7) i (λv f E Q q=>?_) q;simp only[b8,fL,or_false]at f;rcases f with rfl|rfl
  .refine quiet_tup (n:=6) l (λv f E Q q=>?_) q;obtain⟨z,t,rfl⟩:=strs_mem_shape h v f;exact iY (by unfold oA;rfl) q
  .refine quiet_tup (n:=6) p (λv f E Q q=>?_) q;obtain⟨z,t,rfl⟩:=strs_mem_shape m v f;exact iY (by unfold oA;rfl) q
 cls:=λ⟨_,a,b,c,g,d,e,i,l,h,p,m⟩ q=>by
  subst e;refine cls_tup (n:=7) i (λv f E Q q=>?_) q;simp only[b8,fL,or_false]at f;rcases f with rfl|rfl
  .refine cls_tup (n:=6) l (λv f E Q q=>?_) q;obtain⟨z,t,rfl⟩:=strs_mem_shape h v f;exact iY (by unfold rT;rfl) q
  .refine cls_tup (n:=6) p (λv f E Q q=>?_) q;obtain⟨z,t,rfl⟩:=strs_mem_shape m v f;exact iY (by unfold rT;rfl) q
 hbv:=λ⟨C,a,b,c,g,d,e,i,l,h,p,m⟩ q=>by
  subst e;refine hbv_tup (n:=7) (pre:=[]) (x:=.ref b) (post:=[.ref c]) i rfl (λv f=>by simp at f) (λE Q q=>?_) q;cases r:g.toList with
  |nil=>rw[r]at h;have:=strs_len h;exact absurd (D4 this.symm) C
  |cons v rest=>refine hbv_tup (n:=6) (pre:=[]) (x:=v) (post:=rest) l r (λv f=>by simp at f) (λE Q q=>?_) q;obtain⟨z,t,rfl⟩:=strs_mem_shape h v (by rw[r];simp);exact iY (by unfold rV;rfl) q
def ltD(a b:List Tx×List Tx):Bool:=if a.1=b.1 then ltL a.2 b.2 else ltL a.1 b.1
theorem ltL_tot(h:a≠b):ltL a b=ai->ltL b a=ag:=λd=>by
 cases c:ltL b a with
 |true=>rfl
 |false=>exact absurd (ordL.total a b d c) h
theorem ltL_irr(a:List Tx):ltL a a=ai:=ordL.irrefl a
def ordD:KeyOrd where
 α:=List Tx×List Tx
 blt:=ltD
 irrefl:=λa=>by unfold ltD;rw[if_pos rfl];exact ltL_irr _
 trans:=λa b c g f=>by
  unfold ltD at *;by_cases i:a.1=b.1
  .rw[if_pos i]at g;by_cases d:b.1=c.1
   .rw[if_pos d]at f;rw[if_pos (i.trans d)];exact ordL.trans _ _ _ g f
   .rw[if_neg d]at f;rw[if_neg (by rw[i];exact d),i];exact f
  .rw[if_neg i]at g;by_cases d:b.1=c.1
   .rw[if_neg (by rw[<-d];exact i),<-d];exact g
   .rw[if_neg d]at f;have l:=ordL.trans _ _ _ g f;have m:ltL a.1 c.1=ag:=l;rw[if_neg (λz=>by rw[z,ltL_irr]at m;cases m)];exact l
 negTrans:=λa b c h=>by
  unfold ltD at *;by_cases j:a.1=b.1
  .rw[if_pos j];by_cases d:b.1=c.1
   .rw[if_pos (j.trans d)]at h;rw[if_pos d];exact ordL.negTrans _ _ _ h
   .rw[if_neg (by rw[j];exact d)]at h;rw[if_neg d,<-j];exact .inr h
  .rw[if_neg j];by_cases d:b.1=c.1
   .rw[if_neg (by rw[<-d];exact j)]at h;rw[d];exact .inl h
   .rw[if_neg d];by_cases i:a.1=c.1
    .cases n:ltL a.1 b.1 with
     |true=>exact .inl rfl
     |false=>have:=ltL_tot j n;rw[i]at this;exact .inr this
    .rw[if_neg i]at h;exact ordL.negTrans _ _ _ h
 total:=λa b g f=>by
  unfold ltD at *;by_cases e:a.1=b.1
  .rw[if_pos e]at g;rw[if_pos e.symm]at f;exact rh e (ordL.total _ _ g f)
  .rw[if_neg e]at g;rw[if_neg (λz=>e z.symm)]at f;exact absurd (ordL.total _ _ g f) e
def cpsD(k:List Str×List Str):List Tx×List Tx:=(cpsL k.1,cpsL k.2)
def drKey(h:ax):KeyKind where
 toKeyOrd:=ordD
 keyOf:=λv=>open Classical in if z:∃k,DrIs h k v then aa (cpsD z.choose)else ac
 dflt:=(([],[]):List Tx×List Tx)
theorem drKey_of(x:DrIs h k v):(drKey h).keyOf v=aa (cpsD k):=by
 have z:∃k,DrIs h k v:=⟨k,x⟩
 show(open Classical in if z:∃k,DrIs h k v then aa (cpsD z.choose)else ac)=_;rw[dif_pos z,z.choose_spec.inj x]
theorem drKey_some(x:(drKey h).keyOf v=aa q):∃k,DrIs h k v/\cpsD k=q:=by
 by_cases z:∃k,DrIs h k v
 .obtain⟨k,z⟩:=z;rw[drKey_of z]at x;exact⟨k,z,fG x⟩
 .have:(drKey h).keyOf v=ac:=dif_neg z;lia
theorem drLt{h:ax}(hu:A.units+8<cLine)(k:∀b o,h.get? b=aa o->o.cls=.type "tuple"->s.heap.get? b=aa o):lQ (drKey h) (pN ai) P w A s:=λE x y a b Q N M I=>by
 obtain⟨f,H,rfl⟩:=drKey_some N;obtain⟨d,G,rfl⟩:=drKey_some M;obtain⟨_,a1,Z,X,F,n,rfl,O,v,u,r,q⟩:=(drKd P w).keep H k;obtain⟨_,a2,Y,W,p,i,rfl,S,C,B,l,j⟩:=(drKd P w).keep G k;obtain⟨o,J,_,m,L⟩:=O;obtain⟨o',T,_,m',D⟩:=S;have c:Q (if cpsL f.1=cpsL d.1 then ltL (cpsL f.2) (cpsL d.2)else ltL (cpsL f.1) (cpsL d.1)) s:=I;refine PySem.W.kat_lt J L T D ?_;show PySem.W.KatLex P w A ai _ Q [(Value.ref Z,Value.ref Y),(Value.ref X,Value.ref W)] 0 s;refine zL (eq_strs ∅ v u C B _ _ _ _ ?_);by_cases g:f.1=d.1
 .rw[if_pos (by rw[g])]at c;rw[decide_eq_true g];refine Ex (zL (eq_strs ∅ r q l j _ _ _ _ ?_));by_cases e:f.2=d.2
  .rw[e,ltL_irr]at c;rw[decide_eq_true e];trivial
  .rw[decide_eq_false e];exact Ey (Ez _ _ (lt_tupStrs r l q j ∅ c))
 .rw[if_neg (λz=>g (cpsL_inj z))]at c;rw[decide_eq_false g];exact Ey (Ez _ _ (lt_tupStrs v C u B ∅ c))
theorem drKind{d:List af}(i:∀v∈d,∃k,DrIs s.heap k v)(B:2<=d.length)(h:Q (pN ai) s):ao (ar P w) A (wc d.toArray) Q E s:=by
 have l:∀(d:List af),(∀v∈d,∃k,DrIs s.heap k v)->∃fs,K9 s.heap d fs/\fs.length=d.length/\∀f∈fs,∃b g,f=Value.ref b/\IsTup s.heap b g:=by
  intro d
  induction d with
  |nil=>intro _;exact⟨[],K_,rfl,λf j=>by simp at j⟩
  |cons v d C=>
   intro i;obtain⟨fs,p,z,n⟩:=C λu D=>i u (gr _ D);obtain⟨k,_,a,b,c,g,y,rfl,⟨o,r,x,m,F⟩,B,_⟩:=i v ii;refine⟨.ref b::fs,La r x F rfl p,by simp[z],λf j=>?_⟩;rcases b8.mp j with rfl|j
   .exact⟨b,g,rfl,B⟩
   .exact n f j
 obtain⟨fs,p,z,n⟩:=l d i;refine Lb (T:=.type "tuple") p ∅ (λv i=>?_) (by rfl) ?_
 .obtain⟨b,g,rfl,o,r,x,_⟩:=n v i;exact λ_ _ _ _ k q=>tI ⟨o,k _ _ r,x⟩ q
 ac_rfl
end
section
variable{X:Cx}
abbrev DrK:=List Tx×List Tx
def kSD(k:DrK):List Str×List Str:=(k.1.map tS,k.2.map tS)
theorem kSD_inj(h:kSD a=kSD b):a=b:=by obtain⟨j,i⟩:=a;obtain⟨g,f⟩:=b;have d:=congrArg (λx=>cpsL x.1) h;have c:=congrArg (λx=>cpsL x.2) h;simp only[kSD,cpsL,fg,rH,jx,List.map_id']at d c;rw[d,c]
def DrH(H:Hp)(k:DrK)(a:ab):Prop:=k.1≠[]/\∃b c,H a=aa (.tup [.ref b,.ref c])/\H b=aa (.tup (bz k.1))/\H c=aa (.tup (bz k.2))
theorem DrH.is(ok:cZ P w H h)(x:DrH H k a):DrIs h (kSD k) (.ref a):=by
 obtain⟨v,b,c,u,s,q⟩:=x;obtain⟨_,o,r,p,_⟩:=(show bN P w H h a (.tup [.ref b,.ref c])from ok a _ u)
 obtain⟨_,f,l,n,_⟩:=(show bN P w H h b (.tup (bz k.1))from ok b _ s)
 obtain⟨_,d,j,m,_⟩:=(show bN P w H h c (.tup (bz k.2))from ok c _ q)
 obtain _|⟨i,_|⟨g,_|_⟩⟩:=r;cases i;cases g;exact⟨λz=>v (by simpa[kSD]using z),a,b,c,f.toArray,d.toArray,rfl,p,n,by have:=p_ l;trivial,m,by have:=p_ j;trivial⟩
def toVD(q:DrK×ab):(List Str×List Str)×af:=(kSD q.1,.ref q.2)
noncomputable def addQD(a:List (DrK×ab))(q:DrK×ab):List (DrK×ab):=if q.1∈a.map (·.1)then a else a++[q]
def uniqQD(a:List (DrK×ab)):List (DrK×ab):=a.foldl addQD []
theorem addV_toVD(a:List (DrK×ab))(q:DrK×ab):addV (a.map toVD) (toVD q)=(addQD a q).map toVD:=by
 unfold addV addQD;have c:(toVD q).1∈(a.map toVD).map (·.1)↔q.1∈a.map (·.1):=by rw[fg,cX,cX];exact⟨λ⟨y,b,e⟩=>⟨y,b,kSD_inj e⟩,λ⟨y,b,e⟩=>⟨y,b,by show kSD y.1=kSD q.1;rw[e]⟩⟩
 grind
theorem uniqQD_take(a:List (DrK×ab))(i:Nat)(h:i<a.length):uniqQD (a.take (i+1))=addQD (uniqQD (a.take i)) a[i]:=by unfold uniqQD;rw[Ld h,v_];rfl
theorem addQD_len(a:List (DrK×ab))(q:DrK×ab):a.length<=(addQD a q).length:=by
 unfold addQD;split
 all_goals simp
theorem uniqQD_mono(l a:List (DrK×ab)):a.length<=(l.foldl addQD a).length:=by
 induction l generalizing a with
 |nil=>simp
 |cons x r b=>exact dD (addQD_len a x) (b _)
theorem uniqQD_le(a:List (DrK×ab))(i:Nat):(uniqQD (a.take i)).length<=(uniqQD a).length:=by
 have e:uniqQD a=(a.drop i).foldl addQD (uniqQD (a.take i)):=by unfold uniqQD;rw[<-v_,wm]
 rw[e];exact uniqQD_mono _ _
theorem uniqQD_mem(l b:List (DrK×ab)):∀x∈l.foldl addQD b,x∈b\/x∈l:=by
 induction l generalizing b with
 |nil=>exact λx a=>.inl a
 |cons y r c=>
  intro x a;rcases c _ x a with z|z
  .unfold addQD at z
   grind
  simp_all
theorem uniqQD_sub(h:x∈uniqQD a):x∈a:=(uniqQD_mem a [] x h).elim (λz=>by simp at z) id
def setDHO(X:Cx)(a:ab)(b:List (DrK×ab)):HO:=.ext λh=>SetV (drKd X.prog X.w) h a (b.map toVD)
def refsD(a:List (DrK×ab)):List V:=a.map λq=>.ref q.2
theorem refsD_vals:∀{a:List (DrK×ab)}{b:List af},bE (refsD a) b->b=a.map λq=>Value.ref q.2
 |[],_,.nil=>rfl
 |q::a,_,.cons r h=>by cases r;rw[refsD_vals h];rfl
theorem vals_refsD:∀(a:List (DrK×ab)),bE (refsD a) (a.map λq=>Value.ref q.2)
 |[]=>.nil
 |q::a=>.cons rfl (vals_refsD a)
theorem call_setLD(hu:X.A.units+64<cLine)(hc:X.calm=ag):c_ X (.type "set") (λD H Q=>∃(p:ab) (c:List (DrK×ab)),D=[.ref p]/\cg X.K H p (refsD c)/\(∀q∈c,DrH H q.1 q.2)/\(uniqQD c).length<4000/\∀a,H a=ac->Q (.ref a) (upd H a (setDHO X a (uniqQD c)))):=by
 intro ae s σ H D us Q I r h;obtain⟨p,c,rfl,G,hP,h4,q⟩:=h;obtain⟨u,rfl,T⟩:=vals1 r;cases T;obtain⟨y,O,Z,hz⟩:=I.list G;have N:=refsD_vals O;have C:y.toArray.size=c.length:=⋯
 have f:∀(h:ax),(∀b o,b<s.heap.objs.size->s.heap.get? b=aa o->h.get? b=aa o)->∀x∈c,(drKd X.prog X.w).is h (kSD x.1) (.ref x.2):=λh k x A=>(drKd X.prog X.w).keep ((hP x A).is I.hok) λb o e _=>k b o (bu e) e;refine Dk (P:=X.prog) (w:=X.w) (I.ok.hd hc) (.inl Z.isList) (J:=λi h=>SetV (drKd X.prog X.w) h s.heap.objs.size ((uniqQD (c.take i)).map toVD)/\∀b o,b<s.heap.objs.size->s.heap.get? b=aa o->h.get? b=aa o)
  (λi h n ⟨S,k⟩ g=>⟨S.at λo e=>g _ o (a_ _) e,λb o l e=>g b o (ig l) (k b o l e)⟩) ⟨⟨#[],0,_,[],bU _ rfl,mP _,rfl,by decide,⟨⟨rfl,List.Pairwise.nil,(λj hj=>by trivial),(by show 7∈_;decide),(by show 0*5<7*3;decide)⟩,rfl,(λq G=>by trivial)⟩,rfl,λh=>absurd rfl h⟩,λb o _ e=>bi _ e⟩
  (λi v d E Q hi B ⟨S,k⟩ q=>?_) λn m ⟨S,_⟩ k=>?_
 .have z:i<c.length:=⋯
  obtain rfl:v=.ref c[i].2:=by rw[N]at B;simp[z]at B;exact B.symm
  have F:=f d.heap k c[i] (rJ z);unfold setAdd;refine d_ (aj (hash_dr (P:=X.prog) (w:=X.w) (s:=d) (show X.A.units+3+4<cLine by lia) F d.toks _ _ λm oC=>?_));refine set_addV (kd:=drKd X.prog X.w) (s:={d with toks:=m}) (k:=kSD c[i].1) (show X.A.units+3+4<cLine by lia) S (λp hp=>?_) F (by rw[cy];exact pt (uniqQD_le c i) h4) λn b L mY=>?_
  .obtain⟨x,A,rfl⟩:=cX.mp hp;exact f d.heap k x (Le (uniqQD_sub A))
  .refine q n m b oC L ⟨?_,λb o l e=>by rw[L.2 b (cr l)];exact k b o l e⟩;rw[uniqQD_take c i z,<-addV_toVD];trivial
 .have M:SetV (drKd X.prog X.w) n s.heap.objs.size ((uniqQD c).map toVD):=by
   rw[C,Ee]at S;exact S
  refine⟨.ref s.heap.objs.size,_,I.laid (t':=m) (o:=setDHO X s.heap.objs.size (uniqQD c)) (λb o e=>k b o (bu e) e) (a_ _) ?_,rfl,q _ I.fresh⟩;obtain⟨es,ep,t,ss,e,_⟩:=M.ex;exact⟨M,⟨_,e⟩,λh1 h2 Y W=>Y.at W⟩
theorem call_sortedSetD(hu:X.A.units+64<cLine)(hc:X.calm=ag):c_ X (.builtin "sorted") (λD H Q=>∃(p:ab) (d:List (DrK×ab)),D=[.ref p]/\H p=aa (setDHO X p d)/\(∀q∈d,DrH H q.1 q.2)/\d.length<64 /\ ∀l f,H l=ac->EA f d->f.Pairwise (λx y=>ltD y.1 x.1=ai)->Q (.ref l) (upd H l (.lst (refsD f)))):=by
 intro ae s L H D us Q I r h;obtain⟨p,d,rfl,Z,hP,h4,q⟩:=h;obtain⟨u,rfl,N⟩:=vals1 r;cases N;obtain⟨S,_,_⟩:=(show bN X.prog X.w H s.heap p (setDHO X p d)from I.hok p _ Z)
 obtain⟨F,ep,t,ps,ho,hp,W,A,T,fM,cp⟩:=S.ex;have SE:qu X.w s.heap p F:=⟨ep,t,ho,A,T.fits (by simp),fM,λh0=>cp λz=>h0 (by simp_all)⟩
 have m:(F.toList.map (·.2)).Perm (d.map λq=>Value.ref q.2):=by rw[W,fg];have:=hp.map (·.2);rwa[fg]at this
 refine sorted_genK ∅ (Ai (np (I.ok.hd hc)) SE λM vs pv k eg eo=>?_);obtain⟨B,g',d',t',P⟩:=M;obtain rfl:g'=s.gens:=eg;obtain rfl:P=s.os:=eo;have C:Inv X ae L H {s with heap:=B,drawn:=d',toks:=t'}:=by have:=Inv.call (ch:=[]) I (g':=s.gens) (d':=d') (t':=t') (Un.kept (fs:=gc X.stack) (ex:=[]) k) (I.hok.kept k) I.bare (λb hb=>absurd hb (by simp));trivial
 have a:=pv.trans m;have c:∀x∈d,DrIs B (kSD x.1) (.ref x.2):=λx g=>(hP x g).is C.hok;refine⟨drKey B,pN ai,λv w=>?_,by have:=a.length_eq;grind,λA' h2 hA i g7=>⟨drLt hA λb o e _=>i b o e,λ{E Q} O=>drKind (λv w=>?_) g7 O⟩,λh2 n e i gY b1 J=>?_⟩
 .obtain⟨x,g,rfl⟩:=cX.mp (a.mem_iff.mp w);exact⟨_,drKey_of (c x g)⟩
 .obtain⟨x,g,rfl⟩:=cX.mp (a.mem_iff.mp w);exact⟨_,(drKd X.prog X.w).keep (c x g) λb o e _=>i b o e⟩
 .obtain⟨f,G,j⟩:=perm_mapE (b1.trans a);refine⟨.ref _,_,C.laid (t':=t') (o:=.lst (refsD f)) i (a_ _) ⟨?_,n.toList,e,by rw[G];exact vals_refsD f,by trivial⟩,rfl,q _ f C.fresh j ?_⟩
  .unfold refsD;rw[cy,j.length_eq];exact ig (qB ∅)
  .rw[G]at J;refine(pw.mp J).imp_of_mem λ{x y} g Y hh=>?_;have:ltD _ _=ai:=hh _ _ (drKey_of (c x (j.mem_iff.mp g))) (drKey_of (c y (j.mem_iff.mp Y)));simpa[cpsD,kSD,cpsL,fg,rH,jx]using this
end
end L2
namespace Pu
open L2
section
variable{X:Cx}{e:au}{p q:Pos}
def dr1:PV->Option DrK
 |.tup [.tup b,.tup c]=>(dS b).bind λa=>(dS c).bind λd=>if a≠[] then aa (a,d)else ac
 |_=>ac
def drs:List PV->Option (List DrK)
 |[]=>aa []
 |x::a=>(dr1 x).bind λk=>(drs a).bind λb=>aa (k::b)
def drV(k:DrK):PV:=.tup [.tup (a6 k.1),.tup (a6 k.2)]
noncomputable def uniqKD(b:List DrK):List DrK:=b.foldl (λa k=>if k∈a then a else a++[k]) []
def leKD(a b:DrK):Bool:=!ltD b a
def sortKD(a:List DrK):List DrK:=sX leKD a
def sortSetDP:List PV->Option PO
 |[.lst b]=>(drs b).bind λa=>if(uniqKD a).length<64 then aa (.lst ((sortKD (uniqKD a)).map drV))else ac
 |_=>ac
theorem dr1_eq(h:dr1 x=aa k):x=drV k/\k.1≠[]:=by
 unfold dr1 at h;split at h
 .obtain⟨f,c,e⟩:=jZ.mp h;obtain⟨d,b,a⟩:=jZ.mp e;split at a
  .rename_i l;cases a;rw[jG b,jG c];trivial
  trivial
 trivial
theorem drs_eq:∀{b:List PV}{a:List DrK},drs b=aa a->b=a.map drV/\∀k∈a,k.1≠[]
 |[],a,h=>by cases h;simp
 |x::b,a,h=>by
  obtain⟨k,m,l⟩:=jZ.mp h;obtain⟨c,f,d⟩:=jZ.mp l;cases d;obtain⟨s,r⟩:=drs_eq f;obtain⟨o,n⟩:=dr1_eq m
  grind
theorem dr_rep{K:aw}{k:DrK}{v:V}(h:aT K H F (drV k) v)(n:k.1≠[]):∃a,v=.ref a/\DrH H k a:=by obtain⟨a,w,rfl,l,y,A,rfl,⟨c,z,rfl,d,o⟩,x,m,rfl,⟨b,u,rfl,f,s⟩,r⟩:=h;rw[show m=[] from r]at l;rw[(Ws.mp s).1]at f;rw[(Ws.mp o).1]at d;exact⟨a,rfl,n,c,b,l,d,f⟩
theorem drs_rep{K:aw}:∀{c:List DrK}{d:List V},bd K H F (c.map drV) d->(∀k∈c,k.1≠[])->∃b:List (DrK×ab),b.map (·.1)=c/\d=refsD b/\∀q∈b,DrH H q.1 q.2/\aT K H F (drV q.1) (.ref q.2)
 |[],_,h,_=>⟨[],rfl,h,λq f=>by cases f⟩
 |k::c,_,⟨v,r,e,s,o⟩,l=>by
  obtain⟨a,rfl,x⟩:=dr_rep s (l k ii);obtain⟨b,w,m,u⟩:=drs_rep o λy n=>l y (gr _ n);refine⟨(k,a)::b,⋯,by rw[e,m];rfl,λq f=>?_⟩
  grind
theorem reps_refsD{K:aw}:∀{a:List (DrK×ab)},(∀q∈a,aT K H F (drV q.1) (.ref q.2))->bd K H F ((a.map (·.1)).map drV) (refsD a)
 |[],_=>rfl
 |q::a,h=>⟨_,_,rfl,h q ii,reps_refsD λx b=>h x (gr _ b)⟩
theorem uniqQD_keys(l a:List (DrK×ab)):(l.foldl addQD a).map (·.1)=(l.map (·.1)).foldl (λa k=>if k∈a then a else a++[k]) (a.map (·.1)):=by
 induction l generalizing a with
 |nil=>rfl
 |cons x r b=>
  rw[ot,b,cN,ot];congr 1;unfold addQD;split
  all_goals simp
theorem sortKD_uniq{m:List DrK}(o:m.Perm d)(n:m.Pairwise (λx y=>ltD y x=ai)):m=sortKD d:=by
 refine D5 (le:=λa b=>leKD a b=ag) (λa b u s l f=>?_) (n.imp λh=>by unfold leKD;rw[h];rfl) (vU (le:=leKD) (λa b c=>?_) (λa b=>?_) d) (o.trans (so d).symm)
 .unfold leKD at l f;exact ordD.total a b (show ltD a b=ai by simpa using f) (show ltD b a=ai by simpa using l)
 .unfold leKD;intro l f;have:ltD c a=ai:=tY (O:=ordD) (a:=a) (b:=b) (c:=c) (show ltD b a=ai by simpa using l) (show ltD c b=ai by simpa using f);rw[this];rfl
 .unfold leKD;cases h:ltD b a with
  |false=>rfl
  |true=>
   have:ltD a b=ai:=by
    cases r:ltD a b with
    |false=>rfl
    |true=>exact absurd (ordD.trans _ _ _ h r) (by have:ltD b b=ai:=ordD.irrefl _;show ¬ltD b b=ag;rw[this];simp)
   rw[this];rfl
def rSetThenD(X:Cx)(r:List V->Hp->VK->Prop):List V->Hp->VK->Prop:=λc H Q=>∃(p:ab) (b:List (DrK×ab)),c=[.ref p]/\cg X.K H p (refsD b)/\(∀q∈b,DrH H q.1 q.2)/\(uniqQD b).length<4000/\∀a,H a=ac->r [.ref a] (upd H a (setDHO X a (uniqQD b))) Q
def rSortD(X:Cx):List V->Hp->VK->Prop:=λc H Q=>∃(p:ab) (a:List (DrK×ab)),c=[.ref p]/\H p=aa (setDHO X p a)/\(∀q∈a,DrH H q.1 q.2)/\a.length<64 /\
  ∀l b,H l=ac->EA b a->b.Pairwise (λx y=>ltD y.1 x.1=ai)->Q (.ref l) (upd H l (.lst (refsD b)))
theorem pln_sortSetD:kc X.K (rSetThenD X (rSortD X)) sortSetDP:=λF H xs vs Q po T L e q=>by
 unfold sortSetDP at e;split at e
 .obtain⟨v,rfl,a,us,rfl,S,_,J⟩:=dH L;obtain⟨B,e1,G⟩:=jZ.mp e;obtain⟨rfl,b7⟩:=drs_eq e1;obtain⟨m,N,rfl,r⟩:=drs_rep J b7;split at G
  .rename_i hh;cases G;have D:(uniqQD m).map (·.1)=uniqKD B:=by unfold uniqQD uniqKD;rw[uniqQD_keys,N];rfl
   have A:(uniqQD m).length<64:=by rw[<-cy (f:=(·.1)),D];trivial
   refine⟨a,m,rfl,.inl S,λq s=>(r q s).1,gG A (by decide),λb n=>⟨b,uniqQD m,rfl,upd_same,λq s=>?_,A,λl x u C P=>?_⟩⟩
   .obtain⟨h0,c,d,Z,Y,W⟩:=(r q (uniqQD_sub s)).1;exact⟨h0,c,d,by rw[aU (kg Z n)];trivial,by rw[aU (kg Y n)];trivial,by rw[aU (kg W n)];trivial⟩
   .have I:l≠b:=by rintro rfl;rw[upd_same]at u;trivial
    have M:H l=ac:=by rw[aU I]at u;trivial
    have al:Al F F H (upd (upd H b (setDHO X b (uniqQD m))) l (.lst (refsD x))):=(Al.new0 n).trans (Al.new0 u);have ez:x.map (·.1)=sortKD (uniqKD B):=by rw[<-D];exact sortKD_uniq (C.map _) (pw.mpr P)
    refine q l F _ (λc=>c=l) al ⟨⟨_,upd_same,?_⟩,λc=>i5⟩ λc z=>?_
    .rw[<-ez];refine reps_refsD λy O=>?_;exact aT.mono (λ_ h=>h) (λ_ _ _ h=>al.same.rd h) (λc o h _=>al.same c o h) _ _ (r y (uniqQD_sub (C.mem_iff.mp O))).2
    .subst z;exact⟨M,λz=>rQ (T _ z) (λo w=>by lia),_,upd_same,trivial⟩
  trivial
 trivial
theorem dn_sortSetD(a:X.A.units+64<cLine)(b:X.calm=ag)(m:DA X E [e] j)(f:X.mg "sorted"=ac)(o:X.mg "set"=ac)(l:Gl X "sorted"^0)(d:Gl X "set"^0)(h:(jj e=ai)^0):DN X E (.Call (.Name "sorted" p) [.Call (.Name "set" q) [e] [] g] [] i) (dL sortSetDP j):=λF S s r H Q c n=>bT (jQ (call_sortedSetD a b) l f jL (fU (lO (call_setLD a b) d o oV eC (by decide) (by rfl) (dA h) rfl) gM (dA rfl)) (by decide) (by rfl) (dA rfl) rfl) (qE pln_sortSetD m c n)
end
end Pu
namespace L2
section
variable{a:aM}{w:aD}{A:aZ}{E:af->ak->Prop}{s:ak}
def gE(x y:Str)(i:Nat):Str:=if i=0 then x else y
theorem yL{i:Nat}(h:(#[Value.str x t,Value.str y u])[i]?=aa v):∃b,v=.str (gE x y i) b:=by
 match i with
 |0=>simp at h;exact⟨t,h.symm⟩
 |1=>simp at h;exact⟨u,h.symm⟩
 |n+2=>trivial
theorem Ou{x y:Str}{t:Tok}(B:A.handled=ac)(h:∀b g,(∀c o,s.heap.get? c=aa o->b.get? c=aa o)->Q (if y.cps.toList<x.cps.toList then .str y u else .str x t) {s with heap:=b,toks:=g}):ao (ar a w) A (call (.builtin "min") [.str x t,.str y u]) Q E s:=by
 have n:(s.heap.push {cls:=.type "tuple",data:=.seq #[.str x t,.str y u]}).IsTuple s.heap.objs.size #[.str x t,.str y u]:=⟨_,bU _ rfl,rfl,0,rfl⟩
 refine call_min_two (tT n ?_);have l:(s.heap.push {cls:=.type "tuple",data:=.seq #[.str x t,.str y u]}).objs.size=s.heap.objs.size+1:=rF ..;refine⟨_,[_,s.heap.objs.size],[_],_,_,_,λi j=>decide ((gE x y i).cps.toList<(gE x y j).cps.toList),rfl,Walks.tuple (A:=A.in1) B _ s.heap.objs.size ⋯ #[.str x t,.str y u],
  ⟨⟨_,bU _ rfl,rfl,rfl⟩,n.push _⟩,λc M=>?_,by simp,λi j H G L O P z r C=>?_,λv b g D q=>?_⟩
 .show c<((s.heap.push _).push _).objs.size;rw[rF,l]
  grind
 .obtain⟨J,rfl⟩:=yL z;obtain⟨I,rfl⟩:=yL r;exact Ew C
 .have F:∀c o,s.heap.get? c=aa o->b.get? c=aa o:=λc o e=>by
   refine q c o (λm=>?_) (bi _ (bi _ e));rcases b8.mp m with N|m
   .have:=bu e;lia
   trivial
  have:=h b g F;have p:v=if y.cps.toList<x.cps.toList then Value.str y u else Value.str x t:=by
   have d:(#[Value.str x t,Value.str y u])[jC (λi j=>decide ((gE x y i).cps.toList<(gE x y j).cps.toList)) 1]?=aa v:=D;by_cases f:y.cps.toList<x.cps.toList
   .have e:jC (λi j=>decide ((gE x y i).cps.toList<(gE x y j).cps.toList)) 1=1:=by simp[jC,gE,f]
    rw[e]at d;rw[if_pos f];simpa using d.symm
   .have e:jC (λi j=>decide ((gE x y i).cps.toList<(gE x y j).cps.toList)) 1=0:=by simp only[jC,gE];exact if_neg (~~~f)
    rw[e]at d;rw[if_neg f];simpa using d.symm
  rw[p];trivial
theorem OZ{x y:Str}{t:Tok}(B:A.handled=ac)(h:∀b g,(∀c o,s.heap.get? c=aa o->b.get? c=aa o)->Q (if x.cps.toList<y.cps.toList then .str y u else .str x t) {s with heap:=b,toks:=g}):ao (ar a w) A (call (.builtin "max") [.str x t,.str y u]) Q E s:=by
 have n:(s.heap.push {cls:=.type "tuple",data:=.seq #[.str x t,.str y u]}).IsTuple s.heap.objs.size #[.str x t,.str y u]:=⟨_,bU _ rfl,rfl,0,rfl⟩
 refine call_max_two (tT n ?_);have l:(s.heap.push {cls:=.type "tuple",data:=.seq #[.str x t,.str y u]}).objs.size=s.heap.objs.size+1:=rF ..;refine⟨_,[_,s.heap.objs.size],[_],_,_,_,λi j=>decide ((gE x y j).cps.toList<(gE x y i).cps.toList),rfl,Walks.tuple (A:=A.in1) B _ s.heap.objs.size ⋯ #[.str x t,.str y u],
  ⟨⟨_,bU _ rfl,rfl,rfl⟩,n.push _⟩,λc M=>?_,by simp,λi j H G L O P z r C=>?_,λv b g D q=>?_⟩
 .show c<((s.heap.push _).push _).objs.size;rw[rF,l]
  grind
 .obtain⟨J,rfl⟩:=yL z;obtain⟨I,rfl⟩:=yL r;exact PySem.P.gt_str C
 .have F:∀c o,s.heap.get? c=aa o->b.get? c=aa o:=λc o e=>by
   refine q c o (λm=>?_) (bi _ (bi _ e));rcases b8.mp m with N|m
   .have:=bu e;lia
   trivial
  have:=h b g F;have p:v=if x.cps.toList<y.cps.toList then Value.str y u else Value.str x t:=by
   have d:(#[Value.str x t,Value.str y u])[jC (λi j=>decide ((gE x y j).cps.toList<(gE x y i).cps.toList)) 1]?=aa v:=D;by_cases f:x.cps.toList<y.cps.toList
   .have e:jC (λi j=>decide ((gE x y j).cps.toList<(gE x y i).cps.toList)) 1=1:=by simp[jC,gE,f]
    rw[e]at d;rw[if_pos f];simpa using d.symm
   .have e:jC (λi j=>decide ((gE x y j).cps.toList<(gE x y i).cps.toList)) 1=0:=by simp only[jC,gE];exact if_neg (~~~f)
    rw[e]at d;rw[if_neg f];simpa using d.symm
  rw[p];trivial
end
section
variable{X:Cx}
theorem UA(c:X.calm=ag):c_ X (.builtin "min") (λb H Q=>∃x y:Tx,b=[tV x,tV y]/\Q (tV (if y<x then y else x)) H):=by
 intro m s d H b g Q I r h;obtain⟨x,y,rfl,q⟩:=h;obtain⟨u,f,rfl,⟨t,rfl⟩,⟨j,rfl⟩⟩:=vals2 r;refine Ou (I.ok.hd c) λl i k=>⟨_,H,I.kept k,?_,q⟩
 rw[jx,jx];by_cases a:y<x
 .rw[if_pos a,if_pos a];exact⟨_,rfl⟩
 .rw[if_neg a,if_neg a];exact⟨_,rfl⟩
theorem Us(c:X.calm=ag):c_ X (.builtin "max") (λb H Q=>∃x y:Tx,b=[tV x,tV y]/\Q (tV (if x<y then y else x)) H):=by
 intro m s d H b g Q I r h;obtain⟨x,y,rfl,q⟩:=h;obtain⟨u,f,rfl,⟨t,rfl⟩,⟨j,rfl⟩⟩:=vals2 r;refine OZ (I.ok.hd c) λl i k=>⟨_,H,I.kept k,?_,q⟩
 rw[jx,jx];by_cases a:x<y
 .rw[if_pos a,if_pos a];exact⟨_,rfl⟩
 .rw[if_neg a,if_neg a];exact⟨_,rfl⟩
end
end L2
namespace Pu
open L2
section
variable{K:aw}
noncomputable def AA:List PV->Option PV
 |[.str x,.str y]=>aa (.str (if y<x then y else x))
 |_=>ac
noncomputable def B1:List PV->Option PV
 |[.str x,.str y]=>aa (.str (if x<y then y else x))
 |_=>ac
theorem N5:PL K (λa H Q=>∃x y:Tx,a=[tV x,tV y]/\Q (tV (if y<x then y else x)) H) AA:=λF H a g Q pv d e q=>by
 unfold AA at e;split at e
 .rename_i x y;cases e;obtain⟨v,h,rfl,c,f⟩:=d;obtain⟨u,rfl,b⟩:=dH f;refine⟨x,y,by rw[c.1,b.1],q _ F H (Al.refl ..) ⟨rfl,?_⟩⟩;split
  .exact b.2
  .exact c.2
 trivial
theorem Ml:PL K (λa H Q=>∃x y:Tx,a=[tV x,tV y]/\Q (tV (if x<y then y else x)) H) B1:=λF H a g Q pv d e q=>by
 unfold B1 at e;split at e
 .rename_i x y;cases e;obtain⟨v,h,rfl,c,f⟩:=d;obtain⟨u,rfl,b⟩:=dH f;refine⟨x,y,by rw[c.1,b.1],q _ F H (Al.refl ..) ⟨rfl,?_⟩⟩;split
  .exact b.2
  .exact c.2
 trivial
end
end Pu
local macro_rules | `(⇑$x) => `(.val (.int $x))
local macro_rules | `(↥$x) => `(.val (.str $x))
namespace Sh
open L2 Pu
structure Ad where
 SlitError:ab
 NoText:ab
 NoWidth:ab
 NoView:ab
 NoWindow:ab
 Never:ab
 Full:ab
 Nothing:ab
 Unlike:ab
 NoPlace:ab
 NoLetters:ab
 BadText:ab
 Seeker:ab
 Slit:ab
def yao(a:Ad):ad aG:=aC (dw 1 (uS))
 (aC (λb=>dI (dv 2 (cL (dV 0)) (jF 1 (dV 2) (d2 bn (lP 1 (dV 2) (dC (.int 0))) (dC (.int 1)))) b))
 (kX 1))
def vL(a:Ad):ad Slot:=dU 1 [] (bg 2 (yao a))
def yaa(a:Ad)(c:ad Slot):ad aG:=aC (bS (jd (dB (uZ 2))) (aC (kQ 3 (dV 0)) (JV (.ret (.val .non)))) (cm))
 (aC (bG 4 (bC br (dV 0) (bf (d2 bn (d2 d9 (dL cf (ap (dV 0) (az))) (dV 1)) (dC (.int 1)))) (bW)))
 (λb=>dI (dv 5 (cL (dC (.str [97,98,99]))) (aC (bG 6 (d2 bn (dV 4) (dV 5)))
 (bS (dB (d2 (dq λi j=>decide (j<i)) (lP 2 (dV 6) (dC (.int 0))) (dC (.int 0)))) (aC (jF 2 (dV 6) (d2 d9 (nN 2 (dV 6)) (dC (.int 1))))
 (aC (fW (aK (c) (gV (d2 bn (dV 0) (dV 5)) (gV (dV 1) (gO 2 (gO 3 (aX)))))))
 (jF 2 (dV 6) (d2 bn (nN 2 (dV 6)) (dC (.int 1)))))) (cm))) b)))
def o_(a:Ad):Nat->ah->R Slot
 |0=>dU 4 [2,3] (bg 3 hZ)
 |k+1=>dU 4 [2,3] (bg 3 (yaa a (o_ a k)))
def yaI(a:Ad):ad aG:=aC (bS (dB (d2 (dq λi j=>decide (i<j)) (dV 1) (dL cf (ap (dV 0) (az))))) (cz (d2 bv (dV 0) (dV 1))) (cm))
 (aC (bS (dB (d2 (eqT ai) (dV 0) (dF (dL cB (az))))) (cz (dC (.int 0))) (cm))
 (cz (d2 bn (d2 jO (d2 bv (dV 0) (d2 fQ (dV 1) (dL cf (ap (dV 0) (az))))) (dC (.int 31))) (dV 1))))
def sM(a:Ad):ad Slot:=dU 2 [] (bg 0 (yaI a))
def yaL(a:Ad):ad aG:=aC (bG 3 (d2 fQ (d2 bn (d2 bn (d2 jO (bp (aK (sM a) (gV (dV 0) (gV (dV 1) (aX))))) (dC (.int 1103515245))) (d2 jO (dC (.int 7919)) (dV 1))) (dC (.int 12345))) (dC (.int 2147483647))))
 (cz (d2 fQ (d2 fQ (d2 fQ (d2 uR (dV 3) (dC (.int 5))) (dC (.int 2147483647))) (dC (.int 999983))) (dV 2)))
def yP(a:Ad):ad Slot:=dU 3 [] (bg 1 (yaL a))
def yaJ(a:Ad):ad aG:=aC (kQ 1 (dC (.int 0)))
 (iw (aK (yP a) (gV (dV 0) (gV (jN (λb=>uE (cf b)) 1) (gV (dV 2) (aX))))))
def jR(a:Ad):ad Slot:=dU 3 [1] (bg 0 (yaJ a))
def yaM(a:Ad):ad aG:=cz (d2 bv (dV 2) (bp (aK (jR a) (gV (dV 0) (gO 1 (gV (dL cf (ap (dV 2) (az))) (aX)))))))
def lH(a:Ad):ad Slot:=dU 3 [1] (bg 0 (yaM a))
def yaN(a:Ad):ad aG:=aC (bG 4 (bp (aK (lH a) (gV (dV 0) (gO 1 (gV (dF (dL cB (ap (dC (.int 1)) (ap (dC (.int 2)) (ap (dC (.int 2)) (ap (dC (.int 3)) (ap (dC (.int 3)) (ap (dC (.int 3)) (az))))))))) (aX)))))))
 (aC (bG 5 (dC (.str [])))
 (aC (λb=>dI (dv 6 (dL iz (ap (d2 bn (dV 2) (bp (aK (jR a) (gV (dV 0) (gO 1 (gV (d2 bn (d2 d9 (dV 3) (dV 2)) (dC (.int 1))) (aX))))))) (az))) (bG 5 (d2 bn (dV 5) (d2 bv (dC (.str [97,98,99])) (bp (aK (jR a) (gV (dV 0) (gO 1 (gV (dV 4) (aX))))))))) b))
 (cz (dV 5))))
def oS(a:Ad):ad Slot:=dU 4 [1] (bg 3 (yaN a))
def yaK(a:Ad):ad aG:=aC (bG 4 (d2 bn (dC (.int 1)) (bp (aK (lH a) (gV (dV 0) (gO 1 (gV (dF (dL cB (ap (dC (.int 1)) (ap (dC (.int 1)) (ap (dC (.int 2)) (ap (dC (.int 2)) (ap (dC (.int 3)) (az)))))))) (aX))))))))
 (aC (bG 5 (bp (aK (oS a) (gV (dV 0) (gO 1 (gV (dV 2) (gV (dC (.int 4)) (aX))))))))
 (aC (λb=>dI (iC (dB (d2 (dq λi j=>decide (i<j)) (dL cf (ap (dV 5) (az))) (d2 d9 (dV 3) (dC (.int 2))))) (bG 5 (d2 bn (dV 5) (bp (aK (lH a) (gV (dV 0) (gO 1 (gV (dF (dL cB (ap (bC br (dV 5) (bW) (bf (dC (.int 2)))) (ap (bC br (dV 5) (bW) (bf (dC (.int 3)))) (ap (bC br (dV 5) (bf (dC (.int 1))) (bf (dC (.int 3)))) (ap (dC (.str [97])) (ap (dC (.str [98])) (ap (bC br (dV 5) (bf (d1 gA (dC (.int 2)))) (bW)) (az))))))))) (aX)))))))) 1000 b))
 (cz (dL eE (ap (bC br (dV 5) (bW) (bf (dL sS (ap (dV 4) (ap (d2 d9 (dV 3) (bp (aK (jR a) (gV (dV 0) (gO 1 (gV (dC (.int 3)) (aX))))))) (az)))))) (ap (dV 4) (az)))))))
def qh(a:Ad):ad Slot:=dU 4 [1] (bg 2 (yaK a))
end Sh
namespace Pu
open L2
noncomputable def tyN:Nat->String
 |0=>"int" |1=>"bool" |2=>"str" |3=>"tuple" |_=>"list"
noncomputable def isiF(k:Nat):PV->Option PV
 |.int _=>aa (.bl (fZ k 0))
 |.bl _=>aa (.bl (t9 k 1))
 |.str _=>aa (.bl (fZ k 2))
 |.tup _=>aa (.bl (fZ k 3))
 |.lst _=>aa (.bl (fZ k 4))
 |_=>ac
theorem isiF_eq{k:Nat}(a:k<=4){x:PV}{pv:PV}(h:isiF k x=aa pv):vN [x,.raw (.ty (tyN k))]=aa pv:=by
 rw[<-h];obtain rfl|rfl|rfl|rfl|rfl:k=0\/k=1\/k=2\/k=3\/k=4:=∅
 all_goals cases x <;> first | (cases h;done) | (clear h;kernel_rfl)
theorem d1_imp{X:Cx}{E:XK}{e:au}{d:ad PV}{k:Nat}(l:k<=4)(h:DE X E e (dL vN (ap d (ap (dC (.raw (.ty (tyN k)))) az)))):DE X E e (d1 (isiF k) d):=λF S i b H Q r q=>by
 refine h F S i b H Q r ?_;unfold d1 at q;unfold dL ap dC;cases g:d i with
 |no=>rw[g]at q;exact q.elim
 |er c j=>rw[g]at q;exact q
 |ok x a=>
  rw[g]at q;cases f:isiF k x with
  |none=>replace q:Ok X.K E b F S H (aW (isiF k x) a) _:=q;rw[f]at q;exact q.elim
  |some pv=>replace q:Ok X.K E b F S H (aW (isiF k x) a) _:=q;rw[f]at q;show Ok X.K E b F S H (aW (vN [x,.raw (.ty (tyN k))]) a) _;rw[isiF_eq l f];exact q
noncomputable def fN(n:Nat){a:Type}(k:Nat->a):a:=bif fZ n 97 then k 97 else bif fZ n 98 then k 98 else bif fZ n 99 then k 99 else k n
def fT{a:Type}:Tx->(Tx->a)->a
 |[],k=>k []
 |c::r,k=>fN c λd=>fT r λb=>k (d::b)
noncomputable def fI{a:Type}(n:Int)(k:Int->a):a:=match n with
 |.ofNat m=>bif fZ m 2 then k 2 else bif fZ m 3 then k 3 else bif fZ m 1 then k 1 else bif fZ m 0 then k 0 else bif fZ m 4 then k 4 else k (.ofNat m)
 |.negSucc m=>k (.negSucc m)
mutual
def fV{d:Type}:PV->(PV->d)->d
 |.str x,k=>fT x λf=>k (.str f)
 |.int i,k=>fI i λg=>k (.int g)
 |.bl b,k=>bif b then k (.bl ag)else k (.bl ai)
 |.tup c,k=>fVs c λa=>k (.tup a)
 |.lst c,k=>fVs c λa=>k (.lst a)
 |v,k=>k v
def fVs{b:Type}:List PV->(List PV->b)->b
 |[],k=>k []
 |x::c,k=>fV x λd=>fVs c λa=>k (d::a)
end
def fE{c:Type}:ah->(ah->c)->c
 |[],k=>k []
 |.val v::r,k=>fV v λf=>fE r λa=>k (.val f::a)
 |.own (.lst d)::r,k=>fVs d λb=>fE r λa=>k (.own (.lst b)::a)
 |s::r,k=>fE r λa=>k (s::a)
theorem fN_eq{a:Type}(n:Nat)(k:Nat->a):fN n k=k n:=by
 unfold fN;cases d:fZ n 97 <;> cases c:fZ n 98 <;> cases b:fZ n 99 <;> simp_all[zN]
theorem fT_eq{a:Type}:∀(x:Tx) (k:Tx->a),fT x k=k x
 |[],_=>rfl
 |c::r,k=>by unfold fT;rw[fN_eq,fT_eq]
theorem fI_eq{a:Type}(n:Int)(k:Int->a):fI n k=k n:=by
 unfold fI;cases n with
 |negSucc=>rfl
 |ofNat m=>cases g:fZ m 2 <;> cases f:fZ m 3 <;> cases d:fZ m 1 <;> cases c:fZ m 0 <;> cases b:fZ m 4 <;> simp_all[zN]
mutual
theorem fV_eq{a:Type}:∀(x:PV) (k:PV->a),fV x k=k x
 |.str x,k=>by unfold fV;rw[fT_eq]
 |.int x,k=>by unfold fV;rw[fI_eq]
 |.bl b,k=>by cases b <;> rfl
 |.tup c,k=>by unfold fV;rw[fVs_eq]
 |.lst c,k=>by unfold fV;rw[fVs_eq]
 |.non,_=>rfl
 |.raw _,_=>rfl
 |.exc _,_=>rfl
theorem fVs_eq{a:Type}:∀(x:List PV) (k:List PV->a),fVs x k=k x
 |[],_=>rfl
 |x::b,k=>by unfold fVs;rw[fV_eq,fVs_eq]
end
theorem fE_eq{a:Type}:∀(x:ah) (k:ah->a),fE x k=k x
 |[],_=>rfl
 |.none::r,k=>by unfold fE;rw[fE_eq r]
 |.val v::r,k=>by unfold fE;rw[fV_eq,fE_eq r]
 |.own (.lst b)::r,k=>by unfold fE;rw[fVs_eq,fE_eq r]
 |.own (.dK _)::r,k=>by unfold fE;rw[fE_eq r]
 |.own (.lls _)::r,k=>by unfold fE;rw[fE_eq r]
 |.own (.ins ..)::r,k=>by unfold fE;rw[fE_eq r]
 |.own (.dT _)::r,k=>by unfold fE;rw[fE_eq r]
 |.own (.dN _)::r,k=>by unfold fE;rw[fE_eq r]
 |.own (.inl ..)::r,k=>by unfold fE;rw[fE_eq r]
 |.own (.dL _)::r,k=>by unfold fE;rw[fE_eq r]
def grdF(len:Nat)(a:List Nat)(g:ad Slot):ad Slot:=λb=>fE b (dU len a g)
theorem grdF_eq:grdF=dU:=by funext l p g ss;exact fE_eq ..
theorem cal_genF{m:eX}{P:aM}{w:aD}{K:aw}{j:Str->Option af}{b:ax}{x:Str}{a:aR}{N g:List Str}{k n:Nat}{d:ad aG}{pin:List Nat}(D:bw K j x a)(y:bq N g (aQ a))(p:N.length=g.length+n)(q:∀(kV l o:af) (v:Option ab) (h u:af) (i:List af),i.length=g.length->fH (iW x x (ji a) (eT a) (aQ a) .none kV l o v h u) ⟨i,[]⟩=pure (g.zip i))(r:∀(f:ab) (h:af) (A:aZ) (c:List Env) (s:ak) (H:Hp) (E:XK),Room k (A.deeper (iV x (aQ a) s.heap.objs.size f h))->fP (ic m P w K j b N x (aQ a) f h A c s H E) E pin (eT a) d):jk m P w K j b x (k+1) g (dO K (grdF g.length pin (bg n d))):=by rw[grdF_eq];exact xG D y p q r
theorem cal_genLF{o:eX}{P:aM}{w:aD}{K:aw}{i:Str->Option af}{b:ax}{x:Str}{g:aR}{N h:List Str}{k n:Nat}{d:ad aG}{pin:List Nat}(C:∃c T,yJ K i x c T)(q:x∈tm)(D:bw K i x g)(B:bq N h (aQ g))(r:N.length=h.length+n)(u:∀(kV m p:af) (z:Option ab) (j y:af) (l:List af),l.length=h.length->fH (iW x x (ji g) (eT g) (aQ g) .none kV m p z j y) ⟨l,[]⟩=pure (h.zip l))(v:∀(f:ab) (j:af) (c T:ab) (A:aZ) (a:List Env) (s:ak) (H:Hp) (E:XK),Room k (A.deeper (iV x (aQ g) s.heap.objs.size f j))->uL (ic o P w K i b N x (aQ g) f j A a s H E) x c T->fP (ic o P w K i b N x (aQ g) f j A a s H E) E pin (eT g) d):jk o P w K i b x (k+1) h (dO K (grdF h.length pin (bg n d))):=by rw[grdF_eq];exact T9 C q D B r u v
open L2
section
variable{X:Cx}{K:aw}{E:XK}
inductive my(X:Cx):List au->List (ah->R Slot)->List ab->Prop
 |nil:my X [] [] []
 |cons {x:Str}{p:Pos}{k:Nat}{ps:List Str}{g:ad Slot}{f:ab}{fd:gT}{xs:List au}{gs:List (ah->R Slot)}{fs:List ab} (m:X.mg x=aa (.ref f)) (F:jf X.prog X.w X.K X.mg X.base (hG X.prog X.w) k f fd ps (dO X.K g)) (b:Binds X.K fd ps []) (kp:pr X.K (.ref f)=ag) (rm:Room k X.A) (hg:Gl X x) (hd:av x) (r:my X xs gs fs):my X (.Name x p::xs) (g::gs) (f::fs)
theorem LP:∃fs,my X [] [] fs:=⟨[],.nil⟩
theorem nu{x:Str}{p:Pos}{k:Nat}{i:List Str}{g:ad Slot}{a:List au}{d:List (ah->R Slot)}(c:jk (hG X.prog X.w) X.prog X.w X.K X.mg X.base x k i (dO X.K g))(h:Room k X.A)(r:∃fs,my X a d fs)(l:Gl X x^0)(n:av x^1):∃fs,my X (.Name x p::a) (g::d) fs:=by obtain⟨f,o,m,F,b,j⟩:=c.ex;obtain⟨fs,s⟩:=r;exact⟨f::fs,.cons m F b j h l n s⟩
def qy:List ab->ah->R (List PV)
 |[]=>az
 |f::fs=>ap (dC (.raw (.ref f))) (qy fs)
theorem Fj(a:ah):∀fs,qy fs a=.ok (fs.map λf=>.raw (.ref f)) a
 |[]=>rfl
 |f::fs=>by unfold qy ap;show(qy fs a).bind _=_;rw[Fj a fs];rfl
theorem my.at{xs:List au}{c:List (ah->R Slot)}{fs:List ab}(s:my X xs c fs):∀{j:Nat}{g:ad Slot},c[j]?=aa g->∃f d k a,fs[j]?=aa f/\jf X.prog X.w X.K X.mg X.base (hG X.prog X.w) k f d a (dO X.K g)/\Binds X.K d a []/\pr X.K (.ref f)=ag/\Room k X.A:=by
 induction s with
 |nil=>intro j g h;simp at h
 |cons m F b l i o p r n=>
  intro j g h;cases j with
  |zero=>cases h;exact⟨_,_,_,_,rfl,F,b,l,i⟩
  |succ j=>exact n (~~~h)
theorem my.len{b:List au}{a:List (ah->R Slot)}{fs:List ab}(s:my X b a fs):fs.length=a.length:=by
 induction s with
 |nil=>rfl
 |cons _ _ _ _ _ _ _ _ c=>simp[c]
end
theorem bX{X:Cx}(cap:List Nat)(h:A3 X.N X.env.scope a x (x::cap.map λj=>X.N.getD j "") cap=ag:=by kernel_rfl):iy X a x (x::cap.map λj=>X.N.getD j "") cap:=iy.of _ _ rfl rfl h
theorem kH:∀C b c f d,DF (bO X a g C b c f d) E0 [] fR:=λ_ _ _ _ _=>ND
abbrev bQ(P:aM)(w:aD)(K:aw)(c:Str->Option af)(a:ax)(x:Str)(k:Nat)(b:List Str)(g:ad Slot):=jk (hG P w) P w K c a x k b (dO K g)
theorem nI{K:aw}{l:Str->Option af}{c:ax}{x:Str}{b:aR}{N i:List Str}{k n:Nat}{d:ad aG}{pin:List Nat}(D:bw K l x b)(z:bq N i (aQ b))(u:∀(f:ab) (j:af) (A:aZ) (g:List Env) (s:ak) (H:Hp) (E:XK),Room k (A.deeper (iV x (aQ b) s.heap.objs.size f j))->fP (ic o P w K l c N x (aQ b) f j A g s H E) E pin (eT b) d) (q:(N.length=i.length+n)^0)(r:∀(kV m p:af) (y:Option ab) (j v:af) (a:List af),a.length=i.length->fH (iW x x (ji b) (eT b) (aQ b) .none kV m p y j v) ⟨a,[]⟩=pure (i.zip a):=by
   first|exact λ_ _ _ _ _ _ a h=>Hv (λ_=>rfl) a h|exact λ_ _ _ _ _ _ a h=>E3 (λ_ _=>rfl) a h|exact λ_ _ _ _ _ _ a h=>G1 (λ_ _ _=>rfl) a h|exact λ_ _ _ _ _ _ a h=>JG (λ_ _ _ _=>rfl) a h) :
  jk o P w K l c x (k+1) i (dO K (dU i.length pin (bg n d))):=xG D z q r u
section
variable{X:Cx}
theorem ba(c:jk f X.prog X.w X.K X.mg X.base x k h (dO X.K g))(l:Room j X.A)(i:nH f X E)(q:DG X E (e::b) d)(m:(k<=j)^1)(n:Gl X x^0)(o:av x^1) (s:(aV (e::b) X.env=(ai,aS e X.env)::aV b X.env)^0) (r:((c8 a (aV b X.env)).any (·.1)=ai)^0):DR X E (.Call (.Name x p) (e::b) [] a) (aK g d):=qW c (l.mono m) i q n o s r
end
section
variable{X:Cx}{E:XK}{pin:List Nat}
theorem dn_ifx{c a b:au}{j:Pos}{s:ad Bool}{m l:ad PO}(I:DT X E c s)(L:DN X E a m)(J:DN X E b l):DN X E (.IfExp c a b j) (bS s m l):=λF S B f H Q C q=>by
 refine bT (Hk mz bL bL) (I F S B f H _ C ((Ok.bind q).imp λk d p n h u N M=>?_));have w:Ok X.K E f p n h (if k=ag then m d else l d) λv _ r y i=>∀a g,eR X.K i r v a g->(∀b,g b->h b=ac/\¬r b/\¬U y b/\∃o,i b=aa o/\eA o)->Q (.ref a) i:=by
  cases k <;> exact(Ok.from M (bI.refl ..)).imp λv A r y i O P G a g D x=>G a g D λb z=>⟨jv N (x b z).1,(x b z).2⟩
 cases k with
 |true=>exact mC (L p n d f h Q u w)
 |false=>exact mr (J p n d f h Q u w)
def dSlN(d:ad PV)(i h:ad (Option Int)):ad PO:=λf=>(d f).bind λx c=>(i c).bind λl b=>(h b).bind λu a=>match x with
 |.lst g=>.ok (.lst (eB g l u)) a
 |_=>.no
theorem dn_slice{e:au}{y A:Option au}{d:ad PV}{I G:ad (Option Int)}{T m:Pos}(Z:DE X E e d)(Y:DO X E y I)(W:DO X E A G):DN X E (.Subscript e (.Slice y A ac T) m) (dSlN d I G):=λF S M f H Q O h=>by
 refine bT (HF (Nj (X:=X)) bL xp xp) (Z F S M f H _ O ((Ok.bind h).imp λx i F1 S1 H1 s g1 h1 v N=>?_));refine Y F1 S1 i f H1 _ s ((Ok.bind h1).imp λl g F2 S2 H2 r D h2=>?_);refine W F2 S2 g f H2 _ r ((Ok.bind h2).imp λu L n S3 J j C B=>?_);cases x with
 |lst xs=>
  obtain⟨a,q,rfl,ha,fa,P⟩:=(N.grow D s.fit).grow C r.fit;refine⟨a,q,rfl,.inl ha,λp c=>?_⟩;have al:Al n n J (upd J p (.lst (nv q l u))):=Al.new0 c;refine B n S3 _ (j.al al) al.grow p (λb=>b=p) (uK c (AQ P l u)) λb z=>?_;subst z;refine⟨jv g1 (jv D (jv C c)),λw=>?_,λ⟨k,w⟩=>?_,_,upd_same,trivial⟩
  .obtain⟨o,e⟩:=j.ex b w;rw[c]at e;cases e
  .obtain⟨_,_,o,e,_⟩:=j.foot k b w;rw[c]at e;cases e
 |_=>exact B.elim
section
variable{T:String}{x y:Str}{p b:Pos}{r:List V->Hp->VK->Prop}{c:List PV->Option PO}
theorem dn_own1T(i:Nat)(w:c_ X (.type T) r)(n:kc X.K r c)(s:X.mg x=ac)(l:dX x=aa (.type T))(z:(X.N[i]?=aa y)^0)(C:cO X.env.scope y^2)(v:av y^1) (D:a4 y^1) (u:Gl X x^0) (o:(x≠"__name__")^1) (j:av x^1) {d:Pos}(f:(aV [.Name y d] X.env=(ai,aS (.Name y d) X.env)::aV [] X.env)^0) (B:((c8 b (aV [] X.env)).any (·.1)=ai)^0):DN X E (.Call (.Name x p) [.Name y d] [] b) (jN (λg=>nK (c g)) i):=λF S I G H Q h q=>by obtain⟨a,A,m⟩:=Jm n h q;exact bT (lO w u s l (fU (dR z C v D) gM f) o j f B) ⟨_,A,m⟩
end
def dAsks(i j:Nat)(a:List (ah->R Slot))(b:ad (List cu)):ad aG:=λε=>match ε[j]? with
 |some (⇑n)=>match fu a n with
  |some g=>if i<ε.length/\i≠j then iw (aK g b) (ε.set i .none)else .no
  |none=>.no
 |_=>.no
theorem asks_of{i j:Nat}{a:List (ah->R Slot)}{b:ad (List cu)}{ε:ah}{n:Int}{g:ad Slot}(h:ε[j]?=aa (⇑n))(f:fu a n=aa g)(d:i<ε.length)(c:i≠j):dAsks i j a b ε=iw (aK g b) (ε.set i .none):=by unfold dAsks;rw[h];dsimp only;rw[f];exact if_pos ⟨d,c⟩
theorem my.daX{a:List au}{g:List (ah->R Slot)}{fs:List ab}(s:my X a g fs):DA X E a (qy fs):=by
 induction s with
 |nil=>exact aH
 |cons m F b i h d f r c=>exact ay (RQ m d f) c
theorem wp_callv{k:Nat}{f:ab}{u:gT}{p:List Str}{g:ad Slot}{e:au}{d:List au}{w:ad (List cu)}{a:Pos}(Y:jf X.prog X.w X.K X.mg X.base (hG X.prog X.w) k f u p (dO X.K g))(L:Binds X.K u p [])(J:pr X.K (.ref f)=ag)(G:Room k X.A)(M:DG X E (e::d) w)(D:nH (hG X.prog X.w) X E)(O:aV (e::d) X.env=(ai,aS e X.env)::aV d X.env) (N:(c8 a (aV d X.env)).any (·.1)=ai) {F:ab->Prop}{S:Nat->ab->Prop}{i:ah}{c:St}{H:Hp}{Q:VK} (B:aY X.K F S i c H)(h:Ok X.K E c F S H (aK g w i) (λs _ z W n=>∀v x,sR X.K n z s v x->(∀b,x b->H b=ac/\¬z b/\¬U W b/\∃o,n b=aa o/\eA o)->Q v n)) {l:List (ab×Obj)}{s:ak} (I:Inv X l c H s):ao X.zz X.A (callWith a (.ref f) [] (c8 a (aV (e::d) X.env)) (rA a (rB [] X.env))) (EP X l c Q) X.xe s:=by have q:=M F S i c H (λj m=>dO X.K g (j++[]) m Q E) B ((Ok.bind h).imp λas A F1 S1 m C P q j T=>by rw[jU];exact IY C P T q);refine PySem.W.callWith_K (h₀:=X.base) I.ok.mod.kin J (aP (eC a l s c H _ I q) λZ s1 ⟨j,m,y,r,q⟩=>⟨y.kIn,?_⟩) O N;exact Kh Y G L .nil D y r q
theorem dss_asks(i j:Nat){x y:Str}{B p2 py lp sp A q l:Pos}{Z:List au}{J:List (ah->R Slot)}{e:au}{M:List au}{dg:ad (List cu)}(m:∃fs,my X Z J fs)(ha:DG X E (e::M) dg)(hx:nH (hG X.prog X.w) X E)(hN:X.N.Nodup)(hi:(X.N[i]?=aa x)^0)(hj:(X.N[j]?=aa y)^0)(hp:(i∉pin)^1) (hl:Loc X.env.scope x^6) (hv:cO X.env.scope x^2) (hw:cO X.env.scope y^2)(hd:av x^1) (bj:a4 x^1) (j0:av y^1) (C:a4 y^1)(hf:a3 X x^3) (oG:(iG (.List Z lp) (aa (.Name x B)) A.line X.env=pure ai)^0)(hn:J.length<=1000:=by exact Nat.le_of_ble_eq_true rfl) (h1:(aV (e::M) X.env=(ai,aS e X.env)::aV M X.env)^0) (h2:((c8 l (aV M X.env)).any (·.1)=ai)^0) (pR:BS (.Name y py)^8):fP X E pin [.Assign [.Name x B] (.List Z lp) A,.Return (aa (.Call (.Subscript (.Name x p2) (.Name y py) sp) (e::M) [] l)) q] (dAsks i j J dg):=λF S a σ H D rl h=>by
 obtain⟨fs,m⟩:=m;unfold dAsks at h;split at h
 .rename_i n ej;split at h
  .rename_i g N;split at h
   .rename_i jp;have ed:dF (dL cB (qy fs)) a=.ok (.lst (fs.map λf=>.raw (.ref f))) a:=by unfold dF dL;rw[Fj,R.bind_ok,show cB (fs.map λf=>PV.raw (.ref f))=aa (.lst (fs.map λf=>.raw (.ref f)))from if_pos (by rw[cy,m.len];exact hn)];rfl
    have e0:bG i (dF (dL cB (qy fs))) a=.ok .next (a.set i (.val (.lst (fs.map λf=>.raw (.ref f))))):=by unfold bG;rw[ed];rfl
    refine vq (E_ xM nL) (cP (E:=E) i hN (kY m.daX) hp hi hl oG hf F S a σ H {D with nx:=nE X _ D} rl ?_);rw[e0];intro F1 S1 d H1 r1 g1 B;have bo:i<(a.set i (.val (.lst (fs.map λf=>.raw (.ref f))))).length:=by rw[kn];exact jp.1
    have r2:=r1.drop i;have e2:(a.set i (.val (.lst (fs.map λf=>.raw (.ref f))))).set i .none=a.set i .none:=List.set_set ..;rw[e2]at r2;unfold iw at h;refine vq (FX xM) (eY (uA bL) ⟨λae s I=>?_⟩);have hf':DE X E (.Subscript (.Name x p2) (.Name y py) sp) (d2 bv (dV i) (dV j)):=bV bY bZ (am i hi hv hd bj) (am j hj hw j0 C) pR;unfold fu at N;cases ek:kh J.length n with
    |none=>rw[ek]at N;cases N
    |some k=>
     rw[ek]at N;obtain⟨f,fd,kk,ps,ef,Fn,hb,hk,hr⟩:=m.at (show J[k]?=aa g from N)
     have gZ:bv (.lst (fs.map λf=>.raw (.ref f))) (.int n)=aa (.raw (.ref f)):=by show fu (fs.map λf=>PV.raw (.ref f)) n=_;unfold fu;rw[cy,m.len,ek];show(fs.map λf=>PV.raw (.ref f))[k]?=_;rw[cT,ef];rfl
     have hvv:d2 bv (dV i) (dV j) (a.set i (.val (.lst (fs.map λf=>.raw (.ref f)))))=.ok (.raw (.ref f)) (a.set i (.val (.lst (fs.map λf=>.raw (.ref f))))):=by
      unfold d2 dV;rw[iT jp.1];show R.bind (match (a.set i _)[j]? with|aa (.val p)=>_|_=>_) _=_;rw[ff jp.2,ej];show aW (bv _ _) _=_;rw[gZ];rfl
     have wf:=(hf' F1 S1 _ d H1 (λv T=>v=.ref f/\∃Y Q,aY X.K Y Q (a.set i (.val (.lst (fs.map λf=>.raw (.ref f))))) d T/\bI (U S1) (U Q) F1 Y H1 T) r1 (by rw[hvv];exact λP O W r L v o=>⟨o,P,O,r,L⟩)).run ae s I;refine aj (aP wf λu s1 ⟨v,T,I2,o,ev,Y,Q,r3,g3⟩=>?_);subst ev;obtain rfl:u=Value.ref f:=o;have r4:=r3.drop i;rw[e2]at r4;refine wp_callv Fn hb hk hr ha hx h1 h2 r4 ?_ I2;have gb:bI (U S) (U λk b=>Q k b/\k≠i) F Y H T:=(g1.trans g3).trans (bI.less i);cases e3:aK g dg (a.set i .none)with
     |no=>rw[e3]at h;exact h.elim
     |er c ε'=>rw[e3]at h;exact λx P O W r L=>h x P O d W r (gb.trans L) B
     |ok s ε1=>rw[e3]at h;intro P O W r L v Sr o fr;have G:=gb.trans L;exact h v P O d W Sr r ⟨G.fro,G.keep,G.there,G.fnew,λb z=>z.elim (G.onew b) λw=>.inr (jv gb (fr b w).1)⟩ B o λb z=>(fr b z).2
   .exact h.elim
  .exact h.elim
 .exact h.elim
end
theorem cal_goF{o:eX}{P:aM}{w:aD}{K:aw}{l:Str->Option af}{c:ax}{x:Str}{b:aR}{N i:List Str}{k n:Nat}{d:ad aG}{pin:List Nat}(D:bw K l x b)(z:bq N i (aQ b))(u:∀(f:ab) (j:af) (A:aZ) (g:List Env) (s:ak) (H:Hp) (E:XK),Room k (A.deeper (iV x (aQ b) s.heap.objs.size f j))->fP (ic o P w K l c N x (aQ b) f j A g s H E) E pin (eT b) d) (q:(N.length=i.length+n)^0)(r:∀(kV m p:af) (y:Option ab) (j v:af) (a:List af),a.length=i.length->fH (iW x x (ji b) (eT b) (aQ b) .none kV m p y j v) ⟨a,[]⟩=pure (i.zip a):=by
   first|exact λ_ _ _ _ _ _ a h=>Hv (λ_=>rfl) a h|exact λ_ _ _ _ _ _ a h=>E3 (λ_ _=>rfl) a h|exact λ_ _ _ _ _ _ a h=>G1 (λ_ _ _=>rfl) a h|exact λ_ _ _ _ _ _ a h=>JG (λ_ _ _ _=>rfl) a h) :
  jk o P w K l c x (k+1) i (dO K (grdF i.length pin (bg n d))):=by
 rw[grdF_eq];exact xG D z q r u
end Pu
local macro_rules | `(tactic| simp! [$xs,*]) => `(tactic| simp [Pu.aC, Pu.bS, Pu.dB, Pu.d2, Pu.d1, Pu.dV, Pu.dC, Pu.dL, Pu.dF, Pu.ap, Pu.az, Pu.cz, Pu.iw, Pu.bG, Pu.dw, Pu.aK, Pu.gV, Pu.gO, Pu.aX, Pu.iL, Pu.iR, Pu.cU, Pu.gm, Pu.iu, Pu.R.bind, Pu.aW, Pu.dU, Pu.kN, Pu.bg, Pu.back, Pu.ki, Pu.su, Pu.T8, Pu.AL, Pu.JD, Pu.So, Pu.bp, Pu.ie, Pu.cB, Pu.eE, Pu.cm, Pu.JV, Pu.fW, Pu.WF, Pu.jd, Pu.Jz, Pu.FR, Pu.nn, Pu.nr, Pu.WC, Pu.oW, Pu.dq, Pu.eQ, Pu.kQ, Pu.jN, Pu.uE, Pu.imm, Pu.nK, Pu.mw, fJ, n4, $xs,*])
namespace K40
open L2 Pu Sh
noncomputable def bM(i:Nat):aR:=PySem.Challenge.pw_slitview_k40_whole_again_and_kept.main.body.getD i (.Pass ⟨0,0,0,0⟩)
abbrev AY:aR:=bM 15
abbrev A5:aR:=bM 16
abbrev CI:aR:=bM 17
abbrev Dq:aR:=bM 18
abbrev CD:aR:=bM 19
abbrev A8:aR:=bM 20
abbrev Cs:aR:=bM 21
abbrev BZ:aR:=bM 22
abbrev Cb:aR:=bM 23
abbrev Dd:aR:=bM 24
abbrev Dv:aR:=bM 25
abbrev Ds:aR:=bM 26
abbrev C5:aR:=bM 27
abbrev Br:aR:=bM 28
abbrev AV:aR:=bM 29
abbrev AZ:aR:=bM 30
abbrev B6:aR:=bM 31
abbrev A1:aR:=bM 32
abbrev Dj:aR:=bM 34
abbrev AH:aR:=bM 36
abbrev Bg:aR:=bM 37
abbrev Df:aR:=bM 38
abbrev B0:aR:=bM 39
abbrev CT:aR:=bM 40
abbrev At:aR:=bM 43
abbrev B7:aR:=bM 44
abbrev z6:aR:=bM 45
abbrev Ag:aR:=bM 47
abbrev AE:aR:=bM 48
abbrev xW:aR:=bM 49
abbrev Dn:aR:=bM 50
abbrev Af:aR:=bM 52
abbrev BB:aR:=bM 53
abbrev BR:aR:=bM 54
abbrev Bv:aR:=bM 55
abbrev BI:aR:=bM 56
abbrev Bw:aR:=bM 58
abbrev Bc:aR:=bM 59
abbrev CS:aR:=bM 60
abbrev Dh:aR:=bM 61
abbrev CY:aR:=bM 62
abbrev AU:aR:=bM 65
abbrev Dl:aR:=bM 66
abbrev Bi:aR:=bM 68
abbrev CP:aR:=bM 69
abbrev Bh:aR:=bM 70
abbrev Cq:aR:=bM 71
abbrev CG:aR:=bM 72
abbrev BO:aR:=bM 75
abbrev zZ:aR:=bM 76
abbrev AJ:aR:=bM 77
abbrev yn:aR:=bM 78
abbrev BP:aR:=bM 79
abbrev Dm:aR:=bM 80
abbrev Ay:aR:=bM 81
abbrev Ar:aR:=bM 83
abbrev z_:aR:=bM 84
abbrev BH:aR:=bM 85
abbrev C0:aR:=bM 86
abbrev Bp:aR:=bM 87
abbrev Cu:aR:=bM 88
abbrev A0:aR:=bM 89
abbrev xg:aR:=bM 90
structure bK(K:aw)(mg:Str->Option af)(base:ax)(a:Ad):Prop where
 yaw:bw K mg "has_only" AY
 yaC:bw K mg "is_whole_number" A5
 yaz:bw K mg "is_text_up_to" CI
 yaD:bw K mg "is_width" Dq
 yaE:bw K mg "is_window" CD
 yac:bw K mg "are_windows" A8
 yaB:bw K mg "is_view_with" Cs
 yaA:bw K mg "is_view" BZ
 yax:bw K mg "is_blurred_view" Cb
 yaj:bw K mg "check_text" Dd
 yal:bw K mg "check_width" Dv
 yak:bw K mg "check_view" Ds
 yah:bw K mg "check_blurred_view" C5
 yaU:bw K mg "pieces" Br
 ya7:bw K mg "view_of" AV
 ya0:bw K mg "text_view" AZ
 ya6:bw K mg "unrolled" B6
 ya9:bw K mg "windows_that_fit" A1
 ya3:bw K mg "turned" Dj
 yao:bw K mg "counted" AH
 yaa:bw K mg "add_endings" Bg
 ya1:bw K mg "texts" Df
 yaW:bw K mg "rings" B0
 ya5:bw K mg "twins" CT
 yaQ:bw K mg "narrower" At
 ya8:bw K mg "wider" B7
 yaf:bw K mg "by_all" z6
 yap:bw K mg "excesses" Ag
 yaV:bw K mg "reached_pieces" AE
 yav:bw K mg "find_bar" xW
 yad:bw K mg "bar" Dn
 yan:bw K mg "clearing_views" Af
 yam:bw K mg "cleared" BB
 ya2:bw K mg "through" BR
 yay:bw K mg "is_in_all" Bv
 yaY:bw K mg "seen" BI
 yas:bw K mg "exchanges_from" Bw
 yar:bw K mg "exchanges" Bc
 ya4:bw K mg "turns" CS
 yaR:bw K mg "one_step_off" Dh
 yaq:bw K mg "exchanged" CY
 yag:bw K mg "check_alike" AU
 yaX:bw K mg "road" Dl
 yab:bw K mg "added_letters" Bi
 yba:bw K mg "without" CP
 yaO:bw K mg "least_ending" Bh
 yaZ:bw K mg "shortest" Cq
 yaF:bw K mg "lacking" CG
 yai:bw K mg "check_shared_view" BO
 yaT:bw K mg "partings" zZ
 yaS:bw K mg "pairs" AJ
 yat:bw K mg "fewest_for" yn
 yau:bw K mg "fewest_texts" BP
 yaP:bw K mg "least_list" Dm
 yae:bw K mg "bundle" Ay
 yaI:bw K mg "_law_cell_at" Ar
 yaL:bw K mg "_law_mixed" z_
 yaJ:bw K mg "_law_draw" BH
 yaM:bw K mg "_law_pick" C0
 yaN:bw K mg "_law_text" Bp
 yaK:bw K mg "_law_like" Cu
 yaH:bw K mg "_law_ask" A0
 yaG:bw K mg "law" xg
 ybc:mg "all"=ac
 ybd:mg "any"=ac
 ybe:mg "bool"=ac
 ybf:mg "enumerate"=ac
 ybg:mg "int"=ac
 ybh:mg "isinstance"=ac
 ybi:mg "len"=ac
 ybj:mg "list"=ac
 ybk:mg "max"=ac
 ybl:mg "min"=ac
 ybm:mg "range"=ac
 ybn:mg "set"=ac
 ybo:mg "sorted"=ac
 ybp:mg "str"=ac
 ybq:mg "sum"=ac
 ybr:mg "tuple"=ac
 ybs:∃t,mg "LETTERS"=aa (.str (tS [97,98,99]) t)
 ybt:∃t,mg "MOST_LETTERS"=aa (.int 12 t)
 ybu:∃t,mg "MOST_POINTS"=aa (.int 6 t)
 ybv:∃t,mg "MOST_VIEWS"=aa (.int 4 t)
 ybw:∃t,mg "MOST_WINDOWS"=aa (.int 9 t)
 ybx:∃t,mg "MOST_WINDOWS_SHARED"=aa (.int 6 t)
 yby:∃t,mg "POINT"=aa (.str (tS [46]) t)
 ybz:∃t,mg "WIDEST"=aa (.int 4 t)
 ybb:∃c T,yJ K mg "least_ending" c T
section
variable{P:aM}{w:aD}{K:aw}{c:Str->Option af}{b:ax}{a:Ad}
def yaw(a:Ad):ad aG:=cz (dL vf (ap (dF (eD [1] (cL (dV 0)) (fR) (d2 (xB ai) (dV 0) (dV 1)))) (az)))
def CW(a:Ad):ad Slot:=grdF 2 [] (bg 0 (yaw a))
theorem NF:bq ["text","signs"] ["text","signs"] (aQ AY):=by ac_nf
theorem Il(G:bK K c b a):bQ P w K c b "has_only" 1 ["text","signs"] (CW a) :=
 cal_goF G.yaw NF (λf m A d s H E j=>by exact
  (aJ (cS (cb (CK rfl) Dt G.ybc Dg (ay (iN (bX [1]) rfl (c6 (am 0)) kH (λC g h l i=>by exact(s0 Js E8 (am 0) (am 1) rfl))).de aH)))))
def yaC(a:Ad):ad aG:=cz (nr (d1 (isiF 0) (dV 0)) (Jz (d1 (isiF 1) (dV 0))))
def Ft(a:Ad):ad Slot:=grdF 1 [] (bg 0 (yaC a))
theorem Py:bq ["thing"] ["thing"] (aQ A5):=by ac_nf
theorem Nr(G:bK K c b a):bQ P w K c b "is_whole_number" 1 ["thing"] (Ft a) :=
 cal_goF G.yaC Py (λf h A d s H E g=>by exact
  (aJ (cS (o7 (d1_imp (k:=0) (by decide) (cb oQ oZ G.ybh o5 (ay (am 0) (ay (oR G.ybg R6) aH)))) (sv (TB (d1_imp (k:=1) (by decide) (cb oQ oZ G.ybh o5 (ay (am 0) (ay (oR G.ybe RU) aH))))))))))
def yaz(a:Ad):ad aG:=cz (nr (d1 (isiF 2) (dV 0)) (nr (oW (dq λi j=>decide (i<=j)) (dq λi j=>decide (i<=j)) (dC (.int 1)) (dL cf (ap (dV 0) (az))) (dV 1)) (bp (aK (CW a) (gV (dV 0) (gV (dC (.str [97,98,99])) (aX)))))))
def JH(a:Ad):ad Slot:=grdF 2 [] (bg 0 (yaz a))
theorem MM:bq ["thing","most"] ["thing","most"] (aQ CI):=by ac_nf
theorem Vh(G:bK K c b a):bQ P w K c b "is_text_up_to" 2 ["thing","most"] (JH a) :=
 cal_goF G.yaz MM (λf h A d s H E g=>by exact
  (aJ (cS (o7 (d1_imp (k:=2) (by decide) (cb oQ oZ G.ybh o5 (ay (am 0) (ay (oR G.ybp Hr) aH)))) (o7 (JW lC lC fD fD aA (cb c5 c7 G.ybi c4 (ay (am 0) aH)) (am 1)) (sv ((ba (Il G) g bA (aB (am 0) (aB (o9 G.ybs) a8)))).de))))))
def yaD(a:Ad):ad aG:=cz (nr (bp (aK (Ft a) (gV (dV 0) (aX)))) (oW (dq λi j=>decide (i<=j)) (dq λi j=>decide (i<=j)) (dC (.int 1)) (dV 0) (dC (.int 4))))
def C7(a:Ad):ad Slot:=grdF 1 [] (bg 0 (yaD a))
theorem UH:bq ["thing"] ["thing"] (aQ Dq):=by ac_nf
theorem G7(G:bK K c b a):bQ P w K c b "is_width" 2 ["thing"] (C7 a) :=
 cal_goF G.yaD UH (λf h A d s H E g=>by exact
  (aJ (cS (o7 ((ba (Nr G) g bA (aB (am 0) a8))).de (sv (JW lC lC fD fD aA (am 0) (nO G.ybz)))))))
def yaE(a:Ad):ad aG:=cz (nr (d1 (isiF 2) (dV 0)) (nr (d2 (eqT ai) (dL cf (ap (dV 0) (az))) (dV 1)) (bp (aK (CW a) (gV (dV 0) (gV (dV 2) (aX)))))))
def Jh(a:Ad):ad Slot:=grdF 3 [] (bg 0 (yaE a))
theorem NJ:bq ["thing","width","signs"] ["thing","width","signs"] (aQ CD):=by ac_nf
theorem Pb(G:bK K c b a):bQ P w K c b "is_window" 2 ["thing","width","signs"] (Jh a) :=
 cal_goF G.yaE NJ (λf h A d s H E g=>by exact
  (aJ (cS (o7 (d1_imp (k:=2) (by decide) (cb oQ oZ G.ybh o5 (ay (am 0) (ay (oR G.ybp Hr) aH)))) (o7 (s0 (gi g.units) gg (cb c5 c7 G.ybi c4 (ay (am 0) aH)) (am 1) rfl) (sv ((ba (Il G) g bA (aB (am 0) (aB (am 2) a8)))).de))))))
def yac(a:Ad):ad aG:=aC (bS (nn (jd (dB (d1 (isiF 3) (dV 0)))) (jd (dB (oW (dq λi j=>decide (i<=j)) (dq λi j=>decide (i<=j)) (dC (.int 1)) (dL cf (ap (dV 0) (az))) (dC (.int 9)))))) (cz (dC (.bl ai))) (cm))
 (aC (bS (jd (dB (dL vf (ap (dF (eD [1,2] (cL (dV 0)) (fR) (bp (aK (Jh a) (gV (dV 0) (gV (dV 1) (gV (dV 2) (aX)))))))) (az))))) (cz (dC (.bl ai))) (cm))
 (cz (d2 (eqT ai) (dF (dL kj (ap (dV 0) (az)))) (dF (dL kW (ap (dV 0) (az)))))))
def HL(a:Ad):ad Slot:=grdF 3 [] (bg 0 (yac a))
theorem TM:bq ["thing","width","signs"] ["thing","width","signs"] (aQ A8):=by ac_nf
theorem Qf(G:bK K c b a):bQ P w K c b "are_windows" 3 ["thing","width","signs"] (HL a) :=
 cal_goF G.yac TM (λf m A d s H E h=>by exact
  (aI (cI ((uw (ka (lj (d1_imp (k:=3) (by decide) (cb oQ oZ G.ybh o5 (ay (am 0) (ay (oR G.ybr sG) aH)))))) (ur (ka (AF lC lC fD fD aA (cb c5 c7 G.ybi c4 (ay (am 0) aH)) (nO G.ybw)))))).dt (aJ (cS lI)) cH)
  (aI (cI (ka (lj (cb (CK rfl) Dt G.ybc Dg (ay (iN (bX [1,2]) rfl (c6 (am 0)) kH (λC g i l j=>by exact((ba (Pb G) h eF (aB (am 0) (aB (am 1) (aB (am 2) a8))))).de)).de aH)))) (aJ (cS lI)) cH)
  (aJ (cS (s0 (gi h.units) gg (xV vR vd G.ybj qo (ay (am 0) aH)).de (xD sx sE G.ybo jL (ay (am 0) aH)).de rfl))))))
def yaB(a:Ad):ad aG:=aC (bS (nn (jd (dB (d1 (isiF 3) (dV 0)))) (dB (d2 (eqT ag) (dL cf (ap (dV 0) (az))) (dC (.int 2))))) (cz (dC (.bl ai))) (cm))
 (cz (nr (bp (aK (C7 a) (gV (d2 bv (dV 0) (dC (.int 0))) (aX)))) (bp (aK (HL a) (gV (d2 bv (dV 0) (dC (.int 1))) (gV (d2 bv (dV 0) (dC (.int 0))) (gV (dV 1) (aX))))))))
def BQ(a:Ad):ad Slot:=grdF 2 [] (bg 0 (yaB a))
theorem L0:bq ["thing","signs"] ["thing","signs"] (aQ Cs):=by ac_nf
theorem F8(G:bK K c b a):bQ P w K c b "is_view_with" 4 ["thing","signs"] (BQ a) :=
 cal_goF G.yaB L0 (λf h A d s H E g=>by exact
  (aI (cI ((uw (ka (lj (d1_imp (k:=3) (by decide) (cb oQ oZ G.ybh o5 (ay (am 0) (ay (oR G.ybr sG) aH)))))) (ur (cK (uv g.units) vm (cb c5 c7 G.ybi c4 (ay (am 0) aH)) aA rfl)))).dt (aJ (cS lI)) cH)
  (aJ (cS (o7 ((ba (G7 G) g bA (aB (bV bY bZ (am 0) aA) a8))).de (sv ((ba (Qf G) g bA (aB (bV bY bZ (am 0) aA) (aB (bV bY bZ (am 0) aA) (aB (am 1) a8))))).de))))))
def yaA(a:Ad):ad aG:=iw (aK (BQ a) (gV (dV 0) (gV (dC (.str [97,98,99])) (aX))))
def Io(a:Ad):ad Slot:=grdF 1 [] (bg 0 (yaA a))
theorem M8:bq ["thing"] ["thing"] (aQ BZ):=by ac_nf
theorem TH(G:bK K c b a):bQ P w K c b "is_view" 5 ["thing"] (Io a) :=
 cal_goF G.yaA M8 (λf h A d s H E g=>by exact
  (aJ (nq (ba (F8 G) g bA (aB (am 0) (aB (o9 G.ybs) a8))))))
def yax(a:Ad):ad aG:=cz (nr (bp (aK (BQ a) (gV (dV 0) (gV (d2 bn (dC (.str [46])) (dC (.str [97,98,99]))) (aX))))) (d2 (dq λi j=>decide (i<=j)) (xR AK (xR AO (dC (.str [])) (ap (d2 bv (dV 0) (dC (.int 1))) (az))) (ap (dC (.str [46])) (az))) (dC (.int 6))))
def GV(a:Ad):ad Slot:=grdF 1 [] (bg 0 (yax a))
theorem OT:bq ["thing"] ["thing"] (aQ Cb):=by ac_nf
theorem MC(G:bK K c b a):bQ P w K c b "is_blurred_view" 5 ["thing"] (GV a) :=
 cal_goF G.yax OT (λf h A d s H E g=>by exact
  (aJ (cS (o7 ((ba (F8 G) g bA (aB (am 0) (aB (bH cM cG (o9 G.yby) (o9 G.ybs)) a8)))).de (sv (s0 lC fD (Bs PySem.F.slot_str_count PySem.F.type_str_count RV S9 (Bs PySem.F.slot_str_join PySem.F.type_str_join NY Rf (kZ []) (ay (bV bY bZ (am 0) aA) aH)) (ay (o9 G.yby) aH)) (nO G.ybu) rfl))))))
def yaj(a:Ad):ad aG:=bS (jd (dB (bp (aK (JH a) (gV (dV 0) (gV (dC (.int 12)) (aX))))))) (hZ) (cm)
def CF(a:Ad):ad Slot:=grdF 1 [] (bg 0 (yaj a))
theorem Rz:bq ["thing"] ["thing"] (aQ Dd):=by ac_nf
theorem Ka(G:bK K c b a):bQ P w K c b "check_text" 3 ["thing"] (CF a) :=
 cal_goF G.yaj Rz (λf h A d s H E g=>by exact
  (aJ (cI (ka (lj ((ba (Vh G) g bA (aB (am 0) (aB (nO G.ybt) a8)))).de)) (aJ lg) cH)))
def yal(a:Ad):ad aG:=bS (jd (dB (bp (aK (C7 a) (gV (dV 0) (aX)))))) (hZ) (cm)
def IE(a:Ad):ad Slot:=grdF 1 [] (bg 0 (yal a))
theorem LU:bq ["thing"] ["thing"] (aQ Dv):=by ac_nf
theorem UX(G:bK K c b a):bQ P w K c b "check_width" 3 ["thing"] (IE a) :=
 cal_goF G.yal LU (λf h A d s H E g=>by exact
  (aJ (cI (ka (lj ((ba (G7 G) g bA (aB (am 0) a8))).de)) (aJ lg) cH)))
def yak(a:Ad):ad aG:=bS (jd (dB (bp (aK (Io a) (gV (dV 0) (aX)))))) (hZ) (cm)
def mv(a:Ad):ad Slot:=grdF 1 [] (bg 0 (yak a))
theorem VQ:bq ["thing"] ["thing"] (aQ Ds):=by ac_nf
theorem qU(G:bK K c b a):bQ P w K c b "check_view" 6 ["thing"] (mv a) :=
 cal_goF G.yak VQ (λf h A d s H E g=>by exact
  (aJ (cI (ka (lj ((ba (TH G) g bA (aB (am 0) a8))).de)) (aJ lg) cH)))
def yah(a:Ad):ad aG:=bS (jd (dB (bp (aK (GV a) (gV (dV 0) (aX)))))) (hZ) (cm)
def Iw(a:Ad):ad Slot:=grdF 1 [] (bg 0 (yah a))
theorem Uv:bq ["thing"] ["thing"] (aQ C5):=by ac_nf
theorem U6(G:bK K c b a):bQ P w K c b "check_blurred_view" 6 ["thing"] (Iw a) :=
 cal_goF G.yah Uv (λf h A d s H E g=>by exact
  (aJ (cI (ka (lj ((ba (MC G) g bA (aB (am 0) a8))).de)) (aJ lg) cH)))
def yaU(a:Ad):ad aG:=fO (eD [0,1] (dL iz (ap (d2 bn (d2 d9 (dL cf (ap (dV 0) (az))) (dV 1)) (dC (.int 1))) (az))) (fR) (bC br (dV 1) (bf (dV 0)) (bf (d2 bn (dV 0) (dV 2)))))
def yT(a:Ad):ad Slot:=grdF 2 [] (bg 0 (yaU a))
theorem Ut:bq ["text","length"] ["text","length"] (aQ Br):=by ac_nf
theorem C8(G:bK K c b a):bQ P w K c b "pieces" 1 ["text","length"] (yT a) :=
 cal_goF G.yaU Ut (λf m A d s H E j=>by exact
  (aJ (h_ (iN (bX [0,1]) rfl (sy G.ybm (ay (bH cM cG (bH j8 j9 (cb c5 c7 G.ybi c4 (ay (am 0) aH)) (am 1)) aA) aH)) kH (λC g h l i=>by exact(cE cF cC (am 1) (ci (am 0)) (ci (bH cM cG (am 0) (am 2)))))))))
def ya7(a:Ad):ad aG:=aC (bS (jd (dB (oW (dq λi j=>decide (i<=j)) (dq λi j=>decide (i<=j)) (dC (.int 1)) (dL cf (ap (dV 1) (az))) (dC (.int 9))))) (hZ) (cm))
 (cz (dL eE (ap (dV 0) (ap (dL qD (ap (dF (dL kW (ap (dV 1) (az)))) (az))) (az)))))
def J4(a:Ad):ad Slot:=grdF 2 [] (bg 0 (ya7 a))
theorem UD:bq ["width","windows"] ["width","windows"] (aQ AV):=by ac_nf
theorem NV(G:bK K c b a):bQ P w K c b "view_of" 1 ["width","windows"] (J4 a) :=
 cal_goF G.ya7 UD (λf h A d s H E g=>by exact
  (aI (cI (ka (AF lC lC fD fD aA (cb c5 c7 G.ybi c4 (ay (am 1) aH)) (nO G.ybw))) (aJ lg) cH)
  (aJ (cS (ge (ay (am 0) (ay (yU yF yI G.ybr sG (ay (xD sx sE G.ybo jL (ay (am 1) aH)).de aH)) aH)))))))
def ya0(a:Ad):ad aG:=aC (fW (aK (CF a) (gV (dV 0) (aX))))
 (aC (fW (aK (IE a) (gV (dV 1) (aX))))
 (iw (aK (J4 a) (gV (dV 1) (gV (bp (aK (yT a) (gV (dV 0) (gV (dV 1) (aX))))) (aX))))))
def qY(a:Ad):ad Slot:=grdF 2 [] (bg 0 (ya0 a))
theorem MP:bq ["text","width"] ["text","width"] (aQ AZ):=by ac_nf
theorem sV(G:bK K c b a):bQ P w K c b "text_view" 4 ["text","width"] (qY a) :=
 cal_goF G.ya0 MP (λf h A g s H E d=>by exact
  (aI (ir (ba (Ka G) d bA (aB (am 0) a8)))
  (aI (ir (ba (UX G) d bA (aB (am 1) a8)))
  (aJ (nq (ba (NV G) d bA (aB (am 1) (aB ((ba (C8 G) d bA (aB (am 0) (aB (am 1) a8)))).de a8))))))))
def ya6(a:Ad):ad aG:=cz (bC br (d2 jO (dV 0) (dV 1)) (bW) (bf (d2 d9 (d2 bn (dL cf (ap (dV 0) (az))) (dV 1)) (dC (.int 1)))))
def Az(a:Ad):ad Slot:=grdF 2 [] (bg 0 (ya6 a))
theorem NS:bq ["ring","width"] ["ring","width"] (aQ B6):=by ac_nf
theorem GO(G:bK K c b a):bQ P w K c b "unrolled" 1 ["ring","width"] (Az a) :=
 cal_goF G.ya6 NS (λf h A d s H E g=>by exact
  (aJ (cS (cE cF cC (bH u0 uI (am 0) (am 1)) cQ (ci (bH j8 j9 (bH cM cG (cb c5 c7 G.ybi c4 (ay (am 0) aH)) (am 1)) aA))))))
def ya9(a:Ad):ad aG:=aC (bG 1 (dF (dL cB (ap (dC (.str [])) (az)))))
 (aC (λd=>dI (dv 2 (cL (dV 0)) (aC (bG 3 (bS (dB (d2 (eqT ai) (dV 2) (dC (.str [46])))) (dC (.str [97,98,99])) (dV 2)))
 (aC (dw 4 (dL cB (az)))
 (aC (dv 5 (cL (dV 1)) (vg 4 (dF (eD [5] (cL (dV 3)) (fR) (d2 bn (dV 1) (dV 0))))))
 (bG 1 (dM 4))))) d))
 (cz (dV 1)))
def GP(a:Ad):ad Slot:=grdF 1 [] (bg 5 (ya9 a))
theorem Qm:bq ["blurred_window","found","sign","letters","longer","start"] ["blurred_window"] (aQ A1):=by ac_nf
theorem Sg(G:bK K c b a):bQ P w K c b "windows_that_fit" 1 ["blurred_window"] (GP a) :=
 cal_goF G.ya9 Qm (λf m A d s H E i=>by exact
  (aI (cP 1 Qm.nd (kY (ay (kZ []) aH)))
  (aI (hU (fA 2 eK rfl Qm.nd (c6 (am 0)) (aI (cP 3 Qm.nd (RD (cK (gi i.units) gg (am 2) (o9 G.yby) rfl) (o9 G.ybs) (am 2)))
  (aI (fC 4 Qm.nd (ke aH))
  (aI (fA 5 eK rfl Qm.nd (c6 (am 1)) (aJ (Bq 4 (iN (bX [5]) rfl (c6 (am 3)) kH (λC g h l j=>by exact(bH cM cG (am 1) (am 0)))).de)))
  (aJ (cP 1 Qm.nd (Dc 4))))))))
  (aJ (cS (am 1))))))
def ya3(a:Ad):ad aG:=aC (fW (aK (CF a) (gV (dV 0) (aX))))
 (cz (dL A2 (ap (dF (eD [0] (dL iz (ap (dL cf (ap (dV 0) (az))) (az))) (fR) (d2 bn (bC br (dV 1) (bf (dV 0)) (bW)) (bC br (dV 1) (bW) (bf (dV 0)))))) (az))))
def Hd(a:Ad):ad Slot:=grdF 1 [] (bg 0 (ya3 a))
theorem O6:bq ["text"] ["text"] (aQ Dj):=by ac_nf
theorem Rt(G:bK K c b a):bQ P w K c b "turned" 4 ["text"] (Hd a) :=
 cal_goF G.ya3 O6 (λf m A d s H E i=>by exact
  (aI (ir (ba (Ka G) i bA (aB (am 0) a8)))
  (aJ (cS (cb (Np rfl) Q9 G.ybl zW (ay (iN (bX [0]) rfl (sy G.ybm (ay (cb c5 c7 G.ybi c4 (ay (am 0) aH)) aH)) kH (λC g h l j=>by exact(bH cM cG (cE cF cC (am 1) (ci (am 0)) cQ) (cE cF cC (am 1) cQ (ci (am 0)))))).de aH))))))
theorem MN:bq ["windows","counts","window"] ["windows"] (aQ AH):=by ac_nf
theorem Oj(G:bK K c b a):bQ P w K c b "counted" 1 ["windows"] (vL a) :=
 nI G.yao MN (λf h A d s H E g=>by exact
  (aI (fC 1 MN.nd (AG))
  (aI (hU (fA 2 eK rfl MN.nd (c6 (am 0)) (aJ (pb 1 g.units (am 2) (bH cM cG (yz 1 g.units (am 2) aA) aA)))))
  (aJ (o6 1)))))
theorem FM:bq ["text","width","left","found","head","letter","window"] ["text","width","left","found"] (aQ Bg):=by ac_nf
theorem Qz(G:bK K c b a)(m:Nat):jk (hG P w) P w K c b "add_endings" (1+m) ["text","width","left","found"] (dO K (o_ a m)):=by
 induction m with
 |zero=>exact nI G.yaa FM (λf l A d s H E g=>vH)
 |succ m i=>exact xG (k:=1+m) (pin:=[2,3]) G.yaa FM rfl (λ_ _ _ _ _ _ h j=>Pu.JG (λ_ _ _ _=>rfl) h j) (λf l A d s H E g=>by exact
  (aI (cI (ka (lj (Rk 2 rfl G.ybd))) (aI (qG 3 (am 0))
  (aJ U0)) cH)
  (aI (cP 4 FM.nd (cE cF cC (am 0) (ci (bH cM cG (bH j8 j9 (cb c5 c7 G.ybi c4 (ay (am 0) aH)) (am 1)) aA)) cQ))
  (aJ (hU (fA 5 eK rfl FM.nd (c6 (o9 G.ybs)) (aI (cP 6 FM.nd (bH cM cG (am 4) (am 5)))
  (aJ (cI (cK oU fD (yz 2 g.units (am 6) aA) aA rfl) (aI (pb 2 g.units (am 6) (bH j8 j9 (xS 2 g.units (am 6)) aA))
  (aI (ir (qW i (g.mono ∅) eF (aB (bH cM cG (am 0) (am 5)) (aB (am 1) (jJ 2 (jJ 3 a8))))))
  (aJ (pb 2 g.units (am 6) (bH cM cG (xS 2 g.units (am 6)) aA))))) cH)))))))))
def ya1(a:Ad):ad aG:=aC (fW (aK (mv a) (gV (dV 0) (aX))))
 (aC (bG 1 (d2 bv (dV 0) (dC (.int 0))))
 (aC (dw 2 (dL cB (az)))
 (aC (λd=>dI (dv 3 (cL (dF (dL u5 (ap (dF (eD [] (cL (d2 bv (dV 0) (dC (.int 1)))) (fR) (bC br (dV 0) (bW) (bf (d1 gA (dC (.int 1))))))) (az))))) (fW (sw (o_ a 12) (o0 (dV 3) (o0 (dV 1) (gN (ie (aK (vL a) (gV (d2 bv (dV 0) (dC (.int 1))) (aX)))) (gO 2 (aX))))))) d))
 (kX 2))))
def yC(a:Ad):ad Slot:=grdF 1 [] (bg 3 (ya1 a))
theorem VR:bq ["view","width","found","head"] ["view"] (aQ Df):=by ac_nf
theorem MR(G:bK K c b a):bQ P w K c b "texts" 14 ["view"] (yC a) :=
 cal_goF G.ya1 VR (λf m A d s H E g=>by exact
  (aI (ir (ba (qU G) g bA (aB (am 0) a8)))
  (aI (cP 1 VR.nd (bV bY bZ (am 0) aA))
  (aI (fC 2 VR.nd (ke aH))
  (aI (hU (fA 3 eK rfl VR.nd (c6 (Qt rfl (ay (iN (bX []) rfl (c6 (bV bY bZ (am 0) aA)) kH (λC h i l j=>by exact(cE cF cC (am 0) cQ (ci (kT kM lf aA))))).de aH) G.ybo G.ybn).de) (aJ (ir (Jf (Qz G 12) (g.mono (by decide)) eF (xr (am 3) (xr (am 1) (GM (((ba (Oj G) g eF (aB (bV bY bZ (am 0) aA) a8))).dn) (jJ 2 a8)))))))))
  (aJ (o6 2)))))))
end
end K40
namespace Mx
open L2 Pu
def nU:Tx:=[97,98,99]
noncomputable def gD(z:Tx)(w:Nat):List Tx:=((ce z.length).filter λi=>decide (i+w<=z.length)).map λi=>(z.drop i).take w
theorem HY(w L:Nat):∀m:Nat,(ce m).filter (λi=>decide (i+w<=L))=ce (min m (L+1-w))
 |0=>by rfl
 |m+1=>by
  rw[rG,Ei,HY w L m];by_cases h:m+w<=L
  .rw[show min m (L+1-w)=m by lia,show min (m+1) (L+1-w)=m+1 by lia,rG];simp[h]
  grind
def nw(w:Nat)(t:Tx):Tx->List Tx
 |[]=>[]
 |c::s=>(t.drop (t.length+1-w)++[c])::nw w (t++[c]) s
def kU(w:Nat):Nat->Tx->List Tx->List Tx
 |0,t,_=>[t]
 |r+1,t,q=>nU.flatMap λc=>if t.drop (t.length+1-w)++[c]∈q then kU w r (t++[c]) (q.erase (t.drop (t.length+1-w)++[c]))else []
def uX(w:Nat)(a:List Tx):List Tx:=(b_ (bP (a.map zO))).flatMap λh=>kU w a.length h a
end Mx
namespace Sh
open L2 Pu Mx
theorem qO{c:List PV}{v:b}(h:d ε=.ok c a)(g:f c=aa v):dL f d ε=.ok v a:=by unfold dL;simp_all
theorem nD(h:d ε=.ok x b)(g:f b=.ok c a):ap d f ε=.ok (x::c) a:=by unfold ap;simp_all
theorem sB:az ε=.ok [] ε:=rfl
theorem RO(pv:PV)(ε:ah):dC pv ε=.ok pv ε:=rfl
theorem jM(h:c ε=.ok x b)(g:db b=.ok y a)(d:f x y=aa z):d2 f c db ε=.ok z a:=by unfold d2;simp_all
section
variable{a:Ad}
abbrev a9(ns:List Int):Slot:=.val (.lst (ns.map .int))
theorem JR(b:List Int)(k:Int)(c:0<=k)(h:k<b.length):∃v,fu (b.map PV.int) k=aa (.int v):=by
 have d:k.toNat<b.length:=⋯
 refine⟨b[k.toNat],?_⟩;rw[IG c (by rw[cy];trivial)];simp
theorem OX(b:List Int):Pu.eqT ai (.lst (b.map .int)) (.lst [])=aa (.bl b.isEmpty):=by
 cases b with
 |nil=>rfl
 |cons x c=>
  have d:∀l:List Int,iS (l.map .int)=0:=λl=>by induction l with|nil=>rfl|cons y l f=>trivial
  have:iS ((x::c).map .int)=0:=d _;simp only[cN]at this;simp[Pu.eqT,dP,cD,iA,gC,this]
theorem RS(b:Bool)(i j:Int):Pu.eqT b (.int i) (.int j)=aa (.bl (b^^decide (i=j))):=by show(if vh (V.int i) (V.int j)then aa (PV.bl (b^^decide (V.int i=V.int j)))else ac)=_;have:vh (V.int i) (V.int j)=ag:=rfl;simp_all
theorem MZ(b:List Int)(k:Int)(j:0<=k):∃v,sM a [a9 b,⇑k]=.ok (⇑v) [a9 b,⇑k]:=by
 by_cases h:k<b.length
 .obtain⟨v,d⟩:=JR b k j h;refine⟨v,?_⟩;simp![sM,yaI,cf,bv,d,h]
 .have e:=OX b;by_cases g:b=[]
  .subst g;refine⟨0,?_⟩;simp only[rC,Lh]at e;have l:¬k<0:=nofun
   simp![sM,yaI,cf,bv,e,l]
  .have f:0<b.length:=by grind
   obtain⟨v,d⟩:=JR b (k % b.length) (Int.emod_nonneg _ ⋯) (Li _ ⋯);refine⟨v*31+k,?_⟩;have m:b.isEmpty=ai:=by grind
   rw[m]at e;have i:fQ (.int k) (.int (b.length:Int))=aa (.int (k % b.length)):=by simp[fQ];omega
   have c:jO (.int v) (.int 31)=aa (.int (v*31)):=by simp[jO,yO]
   simp![sM,yaI,cf,bv,h,e,i,d,c,bn]
theorem QY(b:List Int)(k m:Int)(q:0<=k)(i:0<m):∃v,0<=v/\v<m/\yP a [a9 b,⇑k,⇑m]=.ok (⇑v) [a9 b,⇑k,⇑m]:=by
 obtain⟨c,p⟩:=MZ (a:=a) b k q;have r:0<=(c*1103515245+7919*k+12345) % 2147483647:=Int.emod_nonneg _ (by simp);have d1:(c*1103515245+7919*k+12345) % 2147483647<2147483647:=Li _ (by simp);have o:jO (.int c) (.int 1103515245)=aa (.int (c*1103515245)):=by simp[jO,yO]
 have n:jO (.int 7919) (.int k)=aa (.int (7919*k)):=by rfl
 have h:fQ (.int (c*1103515245+7919*k+12345)) (.int 2147483647)=aa (.int ((c*1103515245+7919*k+12345) % 2147483647)):=by rfl
 generalize (c*1103515245+7919*k+12345) % 2147483647=d at r d1 h;have l:uR (.int d) (.int 5)=aa (.int (d^5)):=by
  have:d.natAbs<2^64:=∅
  simp[uR,this]
 have g:fQ (.int (d^5)) (.int 2147483647)=aa (.int (d^5 % 2147483647)):=by rfl
 generalize d^5 % 2147483647=d5 at g;have f:fQ (.int d5) (.int 999983)=aa (.int (d5 % 999983)):=by rfl
 generalize d5 % 999983=d6 at f;have j:fQ (.int d6) (.int m)=aa (.int (d6 % m)):=by simp[fQ,i]
 refine⟨d6 % m,Int.emod_nonneg _ ∅,Li _ i,?_⟩;simp![yP,yaL,p,o,n,h,l,g,f,j,bn]
theorem vM(ns:List Int)(b:List PV)(m:Int)(g:0<m)(i:b.length<=1000):∃v,0<=v/\v<m/\jR a [a9 ns,.own (.lst b),⇑m]=.ok (⇑v) [a9 ns,.own (.lst (b++[.int 0])),⇑m]:=by
 obtain⟨v,d,c,f⟩:=QY (a:=a) ns ((b.length:Int)+1) m ∅ g;refine⟨v,d,c,?_⟩;have h:b.length<ck:=by unfold ck;lia
 simp![jR,yaJ,cf,h,f]
theorem GX(b:List c)(v:Int)(f:0<=v)(g:v<b.length):∃x∈b,fu b v=aa x:=by
 have d:v.toNat<b.length:=⋯
 exact⟨b[v.toNat],rJ _,IG f d⟩
theorem Cz(d:List Int)(c b:List PV)(i:c.length<=1000)(m:0<b.length):∃x∈b,lH a [a9 d,.own (.lst c),.val (.lst b)]=.ok (.val x) [a9 d,.own (.lst (c++[.int 0])),.val (.lst b)]:=by obtain⟨v,g,f,j⟩:=vM (a:=a) d c (b.length:Nat) ⋯ i;obtain⟨x,l,h⟩:=GX b v g f;refine⟨x,l,?_⟩;simp![lH,yaM,cf,bv,j,h]
theorem IU{n:Nat}(h:n<=1000000):iz [.int n]=aa (iM 0 n):=by
 show(if(n:Int)<=1000000/\-1000000<=(n:Int)then aa (iM 0 (n:Int).toNat)else ac)=_
 grind
theorem xY{x y:Tx}(h:x.length+y.length<=ck):bn (.str x) (.str y)=aa (.str (x++y)):=by show(if(x++y).length<=ck then aa (PV.str (x++y))else ac)=_;rw[if_pos (by rw[lX];exact h)]
theorem gz{d1 d2:ad aG}(h:d1 ε=.ok .next b):aC d1 d2 ε=d2 b:=by unfold aC;rw[h]
theorem qT(h:d ε=.ok x b):bG i d ε=.ok .next (b.set i (.val x)):=by unfold bG;rw[h];rfl
theorem Gq{I:Nat->ah->Prop}{N:Nat}(step:∀k c x,k<N->I k c->∃b,db (c.set i (.val x))=.ok .next b/\I (k+1) b):∀(d:List PV) (k:Nat) (c:ah),k+d.length<=N->I k c->∃b,li i db d c=.ok .next b/\I (k+d.length) b
 |[],k,c,_,h=>⟨c,rfl,h⟩
 |x::d,k,c,j,h=>by
  simp only[gH]at j;obtain⟨g,m,l⟩:=step k c x ∅ h;obtain⟨f,o,n⟩:=Gq step d (k+1) g ∅ l;refine⟨f,by unfold li;rw[m];trivial,?_⟩
  grind
theorem vK{I:List PV->ah->Prop}(step:∀(x:PV) (r:List PV) ε,I (x::r) ε->∃b,db (ε.set i (.val x))=.ok .next b/\I r b):∀(c:List PV) (ε:ah),I c ε->∃b,li i db c ε=.ok .next b/\I [] b
 |[],ε,h=>⟨ε,rfl,h⟩
 |x::c,ε,h=>by obtain⟨f,l,j⟩:=step x c ε h;obtain⟨d,m,g⟩:=vK step c f j;exact⟨d,by unfold li;rw[l];trivial,g⟩
theorem R0(l:List Int)(j:List PV)(b most:Nat)(P:b<=most)(Y:most<=100)(X:j.length<=500):∃(z:Tx) (h:List PV),b<=z.length/\z.length<=most/\(∀c∈z,c∈nU)/\h.length<=j.length+2+most /\ oS a [a9 l,.own (.lst j),⇑b,⇑most]=.ok (↥z) [a9 l,.own (.lst h),⇑b,⇑most]:=by
 obtain⟨f,w,M⟩:=Cz (a:=a) l j [.int 1,.int 2,.int 2,.int 3,.int 3,.int 3] ∅ (by simp);obtain⟨g,rfl,Q,f1⟩:∃g:Int,f=.int g/\0<g/\g<=3:=by simp only[b8,fL,or_false]at w;rcases w with rfl|rfl|rfl|rfl|rfl|rfl <;> exact⟨_,rfl,by decide,by decide⟩
 obtain⟨m,W,T,y⟩:=vM (a:=a) l (j++[.int 0]) ((most:Int)-b+1) ∅ (by simp;lia);obtain⟨n,O⟩:∃n:Nat,(b:Int)+m=n:=⟨(b+m).toNat,∅⟩
 have L:iz [.int ((b:Int)+m)]=aa (iM 0 n):=by rw[O];exact IU ∅
 have bo:(iM 0 n).length=n:=by simp[iM]
 obtain⟨C,A,h,z,o,rfl,u,H,B⟩:=Gq (i:=6) (db:=bG 5 (d2 bn (dV 5) (d2 bv (dC (.str [97,98,99])) (bp (aK (jR a) (gV (dV 0) (gO 1 (gV (dV 4) (Pu.aX)))))))))
  (I:=λk s=>∃h z o,s=[a9 l,.own (.lst h),⇑b,⇑most,⇑g,↥z,o]/\z.length=k/\h.length<=j.length+2+k/\∀c∈z,c∈nU) (N:=n)
  (by
   rintro k s x Z ⟨h,z,o,rfl,u,H,B⟩;obtain⟨v,D,S,J⟩:=vM (a:=a) l h g Q ∅;obtain⟨c,hc,G⟩:=GX nU v D (by simp[nU];lia);refine⟨[a9 l,.own (.lst (h++[.int 0])),⇑b,⇑most,⇑g,↥(z++[c]),.val x],?_,h++[.int 0],z++[c],.val x,rfl,by simp[u],by simp;ac_rfl,λd y=>?_⟩
   .have p:bv (.str [97,98,99]) (.int v)=aa (.str [c]):=by
     show(fu nU v).map _=_;rw[G];rfl
    have E:bn (.str z) (.str [c])=aa (.str (z++[c])):=xY (by simp[ck];lia);simp![J,p,E]
   grind)
  (iM 0 n) 0 [a9 l,.own (.lst (j++[.int 0]++[.int 0])),⇑b,⇑most,⇑g,.val (.str []),.none] ⋯ ⟨j++[.int 0]++[.int 0],[],.none,rfl,rfl,by simp,by simp⟩
 refine⟨z,h,∅,∅,B,∅,?_⟩;have F:d9 (.int most) (.int b)=aa (.int ((most:Int)-b)):=rfl;have r:bn (.int ((most:Int)-b)) (.int 1)=aa (.int ((most:Int)-b+1)):=rfl;have q:bn (.int b) (.int m)=aa (.int ((b:Int)+m)):=rfl;simp only[KM,K5,Eu]at A;simp![oS,yaN,M,F,r,q,y,dv,L,dI,A]
theorem AR(p:PV->Bool)(f:PV->PV):∀(b:List PV),(∀x∈b,jK (lK cap dt x ε)=.ok (p x) ε/\(p x=ag->jK (lK cap de x ε)=.ok (f x) ε))->∀c,mD cap dt de b c ε=.ok (c++(b.filter p).map f) ε
 |[],_,c=>by simp[mD]
 |x::b,h,c=>by
  have g:=h x (by simp);have i:=AR p f b (λy d=>h y (by simp[d]));unfold mD;rw[g.1];simp only[R.bind_ok];cases j:p x with
  |false=>simp_all
  |true=>simp_all
theorem QG{z:Tx}(h:i+w<=z.length):eB z (aa (i:Int)) (aa ((i:Int)+w))=(z.drop i).take w:=by
 unfold eB;have c:HT.sIx z.length 0 (aa (i:Int))=i:=by rw[HT.sIx_nat];lia
 have b:HT.sIx z.length z.length (aa ((i:Int)+w))=i+w:=by rw[show(i:Int)+w=((i+w:Nat):Int) by rfl,HT.sIx_nat];lia
 rw[c,b,Nat.add_sub_cancel_left]
theorem Q5(b:List Tx):(a6 b).length=b.length:=by simp[a6]
theorem UN{n:Nat}{v:Int}(c:0<=v)(b:v<n):kh n v=aa v.toNat:=by unfold kh;rw[if_pos c,if_pos b]
theorem Ph(b:List c)(n:Nat):eB b ac (aa (n:Int))=b.take n:=by unfold eB;have d:HT.sIx b.length 0 ac=0:=rfl;rw[d,HT.sIx_nat,List.drop_zero,Nat.sub_zero];simp
theorem Rb(b:List c)(n:Nat):eB b (aa (n:Int)) ac=b.drop n:=by
 unfold eB;have d:HT.sIx b.length b.length ac=b.length:=rfl;rw[d,HT.sIx_nat];by_cases h:n<=b.length
 .rw[Nat.min_eq_left h,oa (by simp)]
 .rw[Lj ∅,EH (by simp),EH ∅];simp
end
noncomputable def dJ(m:List (Tx×Int))(x:Tx):Option Int:=(m.find? λp=>decide (p.1=x)).map (·.2)
noncomputable def dQ(m:List (Tx×Int))(x:Tx)(n:Int):List (Tx×Int):=if(m.any λp=>decide (p.1=x))=ag then m.map (λp=>if p.1=x then(p.1,n)else p)else m++[(x,n)]
def dk(m:List (Tx×Int)):List (aF×PV):=m.map λp=>(Sum.inr (tS p.1),PV.int p.2)
theorem C_(x y:Tx):((Sum.inr (tS x):aF)=Sum.inr (tS y))=(x=y):=propext ⟨λh=>qx (Sum.inr.inj h),λh=>by rw[h]⟩
theorem xu(m:List (Tx×Int))(x:Tx):mq (dk m) (Sum.inr (tS x))=(dJ m x).map .int:=by
 induction m with
 |nil=>rfl
 |cons p m a=>
  show((List.find? _ ((Sum.inr (tS p.1),PV.int p.2)::dk m)).map (·.2))=_;unfold dJ;rw[jX,jX];simp only[C_];by_cases h:p.1=x
  .simp[h]
  .simp only[h,decide_false];trivial
theorem U_(m:List (Tx×Int))(x:Tx):((dk m).any λa=>decide (a.1=(Sum.inr (tS x):aF)))=m.any λp=>decide (p.1=x):=by unfold dk;rw[List.any_map];congr 1;funext p;simp only[wd,C_]
theorem AI(m:List (Tx×Int))(x:Tx)(n:Int):sA (dk m) (Sum.inr (tS x)) (.int n)=dk (dQ m x n):=by
 unfold sA dQ;rw[U_];split
 .unfold dk;rw[fg,fg];refine zq λp _=>?_;simp only[wd,C_];split <;> rfl
 .unfold dk;simp
theorem IC(m:List (Tx×Int)):qM (dk m)=aa (m.any λp=>decide (p.2≠0)):=by
 induction m with
 |nil=>rfl
 |cons p m a=>show(qM (dk m)).map _=_;rw[a];rfl
theorem Ap{m:List (Tx×Int)}(h:(m.any λp=>decide (p.1=x))=ai):dJ m x=ac:=by
 unfold dJ
 grind
theorem PB{m:List (Tx×Int)}(h:(m.any λp=>decide (p.1=x))=ai):dJ (m++[(x,n)]) y=if y=x then aa n else dJ m y:=by
 have a:=Ap h;unfold dJ at a ⊢
 grind
theorem MU{m:List (Tx×Int)}:dJ (m.map λp=>if p.1=x then(p.1,n)else p) y=(dJ m y).map λz=>if y=x then n else z:=by
 induction m with
 |nil=>rfl
 |cons p m a=>
  unfold dJ at a ⊢
  grind
theorem VB{m:List (Tx×Int)}(h:(m.any λp=>decide (p.1=x))=ag):∃n,dJ m x=aa n:=by
 unfold dJ;cases a:m.find? (λp=>decide (p.1=x))with
 |none=>grind
 |some p=>simp
theorem z9(m:List (Tx×Int))(x y:Tx)(n:Int):dJ (dQ m x n) y=if y=x then aa n else dJ m y:=by
 unfold dQ;by_cases h:(m.any λp=>decide (p.1=x))=ag
 .rw[if_pos h,MU];by_cases e:y=x
  .subst e;obtain⟨k,a⟩:=VB h;rw[a];simp
  .simp[e]
 .rw[if_neg h,PB (K6.mpr h)]
structure oX(m:List (Tx×Int))(q:List Tx):Prop where
 nd:(m.map (·.1)).Nodup
 get:∀x,(dJ m x).getD 0=(q.count x:Nat)
theorem oX.mem(h:oX m q)(a:p∈m):dJ m p.1=aa p.2:=by
 have b:=h.nd;clear h
 induction m with
 |nil=>trivial
 |cons r m c=>
  unfold dJ;rw[jX];rcases b8.mp a with rfl|a
  .simp
  .rw[cN,lr]at b;have:¬r.1=p.1:=λz=>b.1 (cX.mpr ⟨p,a,z.symm⟩);simp only[this,decide_false];exact c a b.2
theorem Gx:(dQ m x n).map (·.1)=if(m.any λp=>decide (p.1=x))=ag then m.map (·.1)else m.map (·.1)++[x]:=by
 unfold dQ;split
 .rw[fg];refine zq λp _=>?_;lia
 simp
theorem Hc{m:List (Tx×Int)}(h:(m.map (·.1)).Nodup):((dQ m x n).map (·.1)).Nodup:=by
 rw[Gx]
 grind
theorem oX.any(h:oX m q):(m.any λp=>decide (p.2≠0))=!q.isEmpty:=by
 cases q with
 |nil=>rw[Lh,mS,List.any_eq_false];intro p b;have a:=h.get p.1;rw[h.mem b]at a;simpa using a
 |cons x q=>
  rw[List.isEmpty_cons,zK,Lk];have a:=h.get x;rw[List.count_cons_self]at a;cases e:m.find? (λp=>decide (p.1=x))with
  |none=>unfold dJ at a;rw[e]at a;simp at a;lia
  |some p=>
   unfold dJ at a
   grind
theorem oX.dec(h:oX m q)(g:x∈q):∃n,dJ m x=aa n/\0<n/\oX (dQ m x (n-1)) (q.erase x)/\dJ (dQ m x (n-1)) x=aa (n-1)/\dQ (dQ m x (n-1)) x (n-1+1)=m:=by
 have a:=h.get x;have l:0<q.count x:=List.count_pos_iff.mpr g;cases e:dJ m x with
 |none=>rw[e]at a;simp at a;lia
 |some n=>
  rw[e]at a;simp only[Option.getD_some]at a;refine⟨n,rfl,⋯,⟨Hc h.nd,λy=>?_⟩,by rw[z9,if_pos rfl],?_⟩
  .rw[z9];by_cases c:y=x
   .grind
   .rw[if_neg c,List.count_erase_of_ne (fF (fF c))];exact h.get y
  .have f:(m.any λp=>decide (p.1=x))=ag:=by
    cases z:(m.any λp=>decide (p.1=x))with
    |true=>rfl
    |false=>rw[Ap z]at e;cases e
   have i:((dQ m x (n-1)).any λp=>decide (p.1=x))=ag:=by unfold dQ;rw[if_pos f];obtain⟨p,d,b⟩:=Lk.mp f;refine Lk.mpr ⟨_,cX.mpr ⟨p,d,rfl⟩,?_⟩;rw[decide_eq_true_eq]at b;rw[if_pos b];simpa using b
   have j:dQ (dQ m x (n-1)) x (n-1+1)=(m.map λp=>if p.1=x then(p.1,n-1)else p).map λp=>if p.1=x then(p.1,n-1+1)else p:=by show(if((dQ m x (n-1)).any λp=>decide (p.1=x))=ag then _ else _)=_;rw[if_pos i];unfold dQ;rw[if_pos f]
   rw[j,fg];have:∀p∈m,((λp:Tx×Int=>if p.1=x then(p.1,n-1+1)else p) ∘ λp:Tx×Int=>if p.1=x then(p.1,n-1)else p) p=p:=by
    intro p d;simp only[wd];by_cases c:p.1=x
    .rw[if_pos c,if_pos c];have o:=h.mem d;lia
    .rw[if_neg c,if_neg c]
   rw[zq this,List.map_id''];intro p;rfl
theorem oX.zero(h:oX m q)(a:x∉q):(dJ m x).getD 0=0:=by rw[h.get,List.count_eq_zero_of_not_mem a];rfl
section
theorem Uo(b:List Tx)(F:b.length<=100):∃m,oX m b/\m.length<=b.length/\vL a [.val (.tup (a6 b))]=.ok (.own (.dK (dk m))) [.val (.tup (a6 b))]:=by
 obtain⟨v,u,m,g,l,rfl,f,j,B⟩:=vK (i:=2) (db:=(jF 1 (dV 2) (d2 bn (lP 1 (dV 2) (dC (.int 0))) (dC (.int 1)))))
  (I:=λr h=>∃(m:List (Tx×Int)) (g:Slot) (l:List Tx),h=[.val (.tup (a6 b)),.own (.dK (dk m)),g]/\oX m l/\m.length<=l.length/\∃q,b=l++q/\r=a6 q)
  (by
   rintro x r h ⟨m,g,l,rfl,f,j,q,d,w⟩;cases q with
   |nil=>trivial
   |cons y q=>
    have n:x::r=.str y::a6 q:=w;simp only[t5]at n;obtain⟨rfl,rfl⟩:=n;have G:m.length<ck:=by have:=congrArg n4 d;simp at this;unfold ck;lia
    refine⟨[.val (.tup (a6 b)),.own (.dK (dk (dQ m y ((dJ m y).getD 0+1)))),↥y],?_,dQ m y ((dJ m y).getD 0+1),_,l++[y],rfl,⟨Hc f.nd,λz=>?_⟩,?_,q,by rw[d];simp,rfl⟩
    .have o:=xu m y;have p:=AI m y ((dJ m y).getD 0+1);have s:(dk m).length<ck:=by unfold dk;rw[cy];trivial
     have A:((dJ m y).map PV.int).getD (.int 0)=.int ((dJ m y).getD 0):=by simp
     generalize dk m=D at o p s;simp![jF,lP,dW,jh,o,A,bn,s,p]
    .rw[z9];by_cases c:z=y
     .subst c;rw[if_pos rfl,List.count_append,List.count_singleton_self];have:=f.get z;simp_all
     .rw[if_neg c,List.count_append,f.get z]
      grind
    .have:(dQ m y ((dJ m y).getD 0+1)).length<=m.length+1:=by
      unfold dQ;split <;> simp
     grind)
  (a6 b) [.val (.tup (a6 b)),.own (.dK (dk [])),.none] ⟨[],.none,[],rfl,⟨by simp,λx=>by rfl⟩,by simp,b,by rfl,rfl⟩
 obtain⟨q,d,E⟩:=B;have:q=[]:=by cases q with|nil=>rfl|cons=>trivial
 subst this;rw[jU]at d;subst d;refine⟨m,f,j,?_⟩;have C:dk []=[]:=rfl;rw[C]at u;simp![vL,yao,uS,dv,cL,vA,dI,u,kX]
end
section
variable{a:Ad}
theorem R5{t:Tx}(b:w<=t.length+1)(c:1<=w):br (.str t) (aa ((t.length:Int)-w+1)) ac=aa (.str (t.drop (t.length+1-w))):=by show aa (PV.str (eB t _ ac))=_;rw[show((t.length:Int)-w+1)=((t.length+1-w:Nat):Int) by omega,Rb]
def qC(c:Nat):PV:=.str [c]
theorem HN(w:Nat)(Q:1<=w):∀(r s:Nat) (t:Tx) (m:List (Tx×Int)) (q:List Tx) (b:List Tx),r<s->q.length=r->oX m q->w<=t.length+1->t.length+r<=1000->m.length<=1000->b.length+(kU w r t q).length<=ck -> o_ a s [↥t,⇑w,.own (.dK (dk m)),.own (.lst (a6 b))]=.ok (.val .non) [↥t,⇑w,.own (.dK (dk m)),.own (.lst (a6 (b++kU w r t q)))]
 |0,0,_,_,_,_,h,_,_,_,_,_,_=>absurd h (by simp)
 |r+1,0,_,_,_,_,h,_,_,_,_,_,_=>absurd h (by simp)
 |0,s+1,t,m,q,b,_,hq,hm,hw,ht,ng,hs=>by
  have O:q=[]:=List.length_eq_zero_iff.mp hq;subst O;have d:=IC m;rw[hm.any]at d;simp only[Lh,mS]at d;have X:(a6 b).length<ck:=by rw[Q5];trivial
  have e:a6 (b++kU w 0 t [])=a6 b++[.str t]:=by simp[a6,kU]
  rw[e];generalize dk m=D at d;generalize a6 b=L at X;simp![o_,yaa,uZ,dW,d,X]
 |r+1,s+1,t,m,q,b,hf,hq,hm,hw,ht,ng,hs=>by
  have b7:q.isEmpty=ai:=by grind
  have d:=IC m;rw[hm.any,b7]at d;simp only[zK]at d;have A:=R5 (t:=t) hw Q;have bc:cf [.str t]=aa (.int (t.length:Nat)):=rfl;have kw:d9 (.int (t.length:Nat)) (.int w)=aa (.int ((t.length:Int)-w)):=rfl;have mV:bn (.int ((t.length:Int)-w)) (.int 1)=aa (.int ((t.length:Int)-w+1)):=rfl
  let H:=t.drop (t.length+1-w)
  let f:=λc=>if H++[c]∈q then kU w r (t++[c]) (q.erase (H++[c]))else []
  have hE:kU w (r+1) t q=nU.flatMap f:=rfl;have hH:H.length<=1000:=by grind
  obtain⟨ε',o,J,G,p,rest,v,hr0,rfl⟩:=vK (i:=5) (db:=(aC (bG 6 (d2 bn (dV 4) (dV 5)))
 (bS (dB (d2 (dq λi j=>decide (j<i)) (lP 2 (dV 6) (dC (.int 0))) (dC (.int 0)))) (aC (jF 2 (dV 6) (d2 d9 (nN 2 (dV 6)) (dC (.int 1))))
 (aC (fW (aK (o_ a s) (gV (d2 bn (dV 0) (dV 5)) (gV (dV 1) (gO 2 (gO 3 (Pu.aX)))))))
 (jF 2 (dV 6) (d2 bn (nN 2 (dV 6)) (dC (.int 1)))))) (cm))))
   (I:=λM P=>∃(J G:Slot) (p rest:Tx),nU=p++rest/\M=rest.map qC/\P=[↥t,⇑w,.own (.dK (dk m)),.own (.lst (a6 (b++p.flatMap f))),↥H,J,G])
   (by
    rintro x M P ⟨J,G,p,rest,v,mh,rfl⟩;cases rest with
    |nil=>trivial
    |cons c rest=>
     have Z:x::M=qC c::rest.map qC:=mh;simp only[t5]at Z;obtain⟨rfl,rfl⟩:=Z;have S:bn (.str H) (.str [c])=aa (.str (H++[c])):=xY (by simp[ck];lia);have pX:bn (.str t) (.str [c])=aa (.str (t++[c])):=xY (by simp[ck];lia);have E:b.length+(p.flatMap f).length+(f c).length<=ck:=by
      grind
     have T:a6 (b++(p++[c]).flatMap f)=a6 ((b++p.flatMap f)++f c):=by simp
     by_cases B:H++[c]∈q
     .obtain⟨n,Y,g2,g3,g4,g5⟩:=hm.dec B;have g:f c=kU w r (t++[c]) (q.erase (H++[c])):=if_pos B;have u:=HN w Q r s (t++[c]) (dQ m (H++[c]) (n-1)) (q.erase (H++[c])) (b++p.flatMap f) ∅ (by rw[List.length_erase_of_mem B,hq];rfl) g3 (by simp;lia) (by simp;lia)
       (by
        have:(dQ m (H++[c]) (n-1)).length=m.length:=by
         have:=congrArg n4 (Gx (m:=m) (x:=H++[c]) (n:=n-1));have d:(m.any λp=>decide (p.1=H++[c]))=ag:=by
          cases z:(m.any λp=>decide (p.1=H++[c]))with
          |true=>rfl
          |false=>rw[Ap z]at Y;trivial
         rw[if_pos d]at this;simpa using this
        simp_all)
       (by rw[<-g,lX];trivial)
      rw[<-g]at u;have l:=xu m (H++[c]);rw[Y]at l;have N:=AI m (H++[c]) (n-1);have C:=xu (dQ m (H++[c]) (n-1)) (H++[c]);rw[g4]at C;have F:=AI (dQ m (H++[c]) (n-1)) (H++[c]) (n-1+1);rw[g5,show n-1+1=n by simp]at F;have y:(dk m).length<ck:=by unfold dk;rw[cy];unfold ck;lia
      have W:(dk (dQ m (H++[c]) (n-1))).length<ck:=by
       unfold dk;rw[cy];have:(dQ m (H++[c]) (n-1)).length<=m.length+1:=by unfold dQ;split <;> simp
       unfold ck;lia
      have gt:(0:Int)<n:=g2;refine⟨[↥t,⇑w,.own (.dK (dk m)),.own (.lst (a6 (b++(p++[c]).flatMap f))),↥H,.val (.str [c]),↥(H++[c])],?_,_,_,p++[c],rest,by rw[v];simp,rfl,rfl⟩;rw[T];have s1:d9 (.int n) (.int 1)=aa (.int (n-1)):=rfl;have s2:bn (.int (n-1)) (.int 1)=aa (.int n):=by show aa (PV.int (n-1+1))=_;simp
      simp only[mQ]at l C;generalize dk m=D at l N F y;generalize dk (dQ m (H++[c]) (n-1))=D2 at C N F u W;generalize a6 (b++p.flatMap f)=L at u;generalize a6 ((b++p.flatMap f)++f c)=L2 at u;clear_value H f;simp![qC,S,lP,nN,jF,dW,jh,l,gt,s1,y,N,pX,u,C,s2,W,F]
     .have g:f c=[]:=if_neg B;have hz:=hm.zero B;have l:=xu m (H++[c]);have hg:((dJ m (H++[c])).map PV.int).getD (.int 0)=.int 0:=by simp_all
      refine⟨[↥t,⇑w,.own (.dK (dk m)),.own (.lst (a6 (b++(p++[c]).flatMap f))),↥H,.val (.str [c]),↥(H++[c])],?_,_,_,p++[c],rest,by rw[v];simp,rfl,rfl⟩;rw[T,g,jU];generalize dk m=D at l;generalize a6 (b++p.flatMap f)=L;clear_value H f;simp![qC,S,lP,dW,jh,l,hg])
   (nU.map qC) [↥t,⇑w,.own (.dK (dk m)),.own (.lst (a6 (b++([]:Tx).flatMap f))),↥H,.none,.none] ⟨.none,.none,[],nU,by rfl,rfl,rfl⟩
  have m9:rest=[]:=by simp_all
  subst m9;rw[jU]at v;rw[hE];rw[<-v]at o;simp only[List.flatMap_nil,jU]at o;have wA:vA (.str [97,98,99])=aa (nU.map qC):=rfl;have Wl:br (.str t) (aa ((t.length:Int)-w+1)) ac=aa (.str H):=A;generalize dk m=D at d o;generalize a6 b=L at o;generalize a6 (b++nU.flatMap f)=L2 at o;clear_value H f;simp![o_,yaa,uZ,dW,d,bC,bf,bW,bc,kw,mV,Wl,dI,dv,cL,wA,o]
end
end Sh
namespace K40
open L2 Pu Mx Sh
section
variable{P:aM}{w:aD}{K:aw}{c:Str->Option af}{b:ax}{a:Ad}
abbrev lL(w:Nat)(d:List Tx):PV:=.tup [.int w,.tup (a6 d)]
theorem Rg{f:Type}(d:List f):eB d ac (aa (-1))=d.dropLast:=by unfold eB;rw[show HT.sIx d.length 0 ac=0 from rfl,List.drop_zero,Nat.sub_zero,List.dropLast_eq_take];congr 1;show(HT.sIx d.length d.length (aa (-1)))=_;show(if(-1:Int)<0 then((-1:Int)+(d.length:Int)).toNat else min (-1:Int).toNat d.length)=_;lia
theorem MD(V:PV)(g:List Tx)(w:Nat)(f d:Slot):mD [] fR (bC br (dV 0) bW (bf (d1 gA (dC (.int 1))))) (a6 g) [] [.val V,⇑w,f,d]=.ok (a6 (g.map zO)) [.val V,⇑w,f,d]:=by
 have l:=AR (cap:=[]) (dt:=fR) (de:=(bC br (dV 0) bW (bf (d1 gA (dC (.int 1)))))) (ε:=[.val V,⇑w,f,d]) (λ_=>ag) (λx=>match x with|.str z=>.str z.dropLast|_=>.non) (a6 g)
  (by
   intro x h;obtain⟨z,_,rfl⟩:=cX.mp h;refine⟨by simp![lK,jH,jK,fR],λ_=>?_⟩;have i:br (.str z) ac (aa (-1))=aa (.str z.dropLast):=by show aa (PV.str (eB z ac (aa (-1))))=_;rw[Rg]
   have j:gA (.int 1)=aa (.int (-1)):=rfl;simp![lK,jH,jK,bC,bW,bf,j,i]) []
 rw[l,Eu,Em.mpr (by simp)];unfold a6;rw[fg,fg];rfl
def xt(w:Nat)(d:List Tx):Bool:=t9 1 w&&(t9 w 4&&(d.all (λx=>fZ x.length w)&&(t9 1 d.length&&(t9 d.length 9&&t9 (uX w d).length 1000))))
theorem UV{w:Nat}{d:List Tx}{y:PV}{e:ah}(n:mv a [.val (lL w d)]=.ok (.val y) e)(he:e.length=1)(E:xt w d=ag):yC a [.val (lL w d)]=.ok (.own (.lst (a6 (uX w d)))) [.val (lL w d)]:=by
 unfold xt at E;simp only[iX,Nat.ble_eq,tW,zN]at E;obtain⟨W,w4,bo,Q,t_,F⟩:=E;obtain⟨y0,rfl⟩:=List.length_eq_one_iff.mp he;have A:bv (lL w d) (.int 0)=aa (.int w):=rfl;have o:bv (lL w d) (.int 1)=aa (.tup (a6 d)):=rfl;obtain⟨m,C,M,l⟩:=Uo (a:=a) d ∅;have Y:m.length<=1000:=∅
 let hd:=b_ (bP (d.map zO))
 have X:∀h∈hd,h.length=w-1:=λh N=>by have C:=(sL _ _).mp ((nt _).mem_iff.mp N);obtain⟨y,hy,rfl⟩:=cX.mp C;rw[List.length_dropLast,bo y hy]
 let f:=λh=>kU w d.length h d
 have O:uX w d=hd.flatMap f:=rfl;obtain⟨S,j,u,p,rest,q,B,rfl⟩:=vK (i:=3) (db:=(fW (sw (o_ a 12) (o0 (dV 3) (o0 (dV 1) (gN (ie (aK (vL a) (gV (d2 bv (dV 0) (dC (.int 1))) (Pu.aX)))) (gO 2 (Pu.aX))))))))
  (I:=λr G=>∃(u:Slot) (p rest:List Tx),hd=p++rest/\r=a6 rest/\G=[.val (lL w d),⇑w,.own (.lst (a6 (p.flatMap f))),u])
  (by
   rintro x r G ⟨u,p,rest,q,J,rfl⟩;cases rest with
   |nil=>cases J
   |cons h rest=>
    have H:x::r=.str h::a6 rest:=J;simp only[t5]at H;obtain⟨rfl,rfl⟩:=H;have N:h.length=w-1:=X h (by rw[q];simp);have s:=HN (a:=a) w W d.length 12 h m d (p.flatMap f) ∅ rfl C ∅ ∅ Y (by rw[O,q,List.flatMap_append,List.flatMap_cons,lX,lX]at F;show(p.flatMap f).length+(f h).length<=ck;unfold ck;lia);refine⟨[.val (lL w d),⇑w,.own (.lst (a6 ((p++[h]).flatMap f))),↥h],?_,_,p++[h],rest,by rw[q];simp,rfl,rfl⟩;have e2:(p++[h]).flatMap f=p.flatMap f++kU w d.length h d:=by simp[f]
    rw[e2];generalize a6 (p.flatMap f)=L at s;generalize a6 (p.flatMap f++kU w d.length h d)=L2 at s;generalize dk m=D at s l;simp only[lL]at o ⊢;generalize a6 d=T at l o;clear_value f hd;simp![sw,o0,gN,Hg,o,l,s])
  (a6 hd) [.val (lL w d),⇑w,.own (.lst (a6 (([]:List Tx).flatMap f))),.none] ⟨.none,[],hd,by simp,rfl,rfl⟩
 have Z:rest=[]:=by cases rest with|nil=>rfl|cons=>cases B
 subst Z;rw[jU]at q;rw[<-q,<-O]at j;simp only[List.flatMap_nil]at j;have g:=MD (lL w d) d w (.own (.lst [])) .none;have v:u5 [.lst (a6 (d.map zO))]=aa (.lst (a6 hd)):=by show(dS (a6 _)).bind _=_;rw[FU,iZ,if_pos ⟨λz=>by rw[List.map_eq_nil_iff.mp z]at Q;exact absurd Q (by decide),pt (SY _) (by rw[cy];lia)⟩]
 have e0:a6 ([]:List Tx)=[]:=rfl;rw[e0]at j;generalize a6 (uX w d)=L at j;generalize a6 hd=D at j v;generalize a6 (d.map zO)=D0 at g v;simp only[lL]at n A o g j ⊢;generalize hTT:a6 d=T at n A o g j;clear_value f hd;simp![yC,ya1,grdF_eq,n,A,o,dI,dv,cL,vA,eD,g,v,j,kX]
def x9(a:Ad)(d:ah):R Slot:=match d with
 |[.val (.tup [.int (.ofNat w),.tup g])]=>match dS g with
  |some f=>match mv a d with
   |.ok (.val _) e=>bif fZ e.length 1&&xt w f then .ok (.own (.lst (a6 (uX w f)))) d else .no
   |_=>.no
  |none=>.no
 |_=>.no
theorem Tc{d:ah}(h:x9 a d≠.no):yC a d=x9 a d:=by
 unfold x9 at h ⊢;split at h
 .rename_i w j;split at h
  .rename_i f g;obtain rfl:=jG g;split at h
   .rename_i y e i;cases q:fZ e.length 1&&xt w f with
    |false=>rw[q]at h;exact absurd rfl h
    |true=>rw[iX,zN]at q;exact UV i q.1 q.2
   .exact absurd rfl h
  .exact absurd rfl h
 .exact absurd rfl h
def je(a:Ad):ad Slot:=λd=>fE d (x9 a)
theorem lS(G:bK K c b a):jk (hG P w) P w K c b "texts" 14 ["view"] (dO K (je a)):=by obtain⟨f,j,i,h,g⟩:=(MR (P:=P) (w:=w) G).ex;refine⟨f,j,i,h.imp λl H Q E ⟨F,S,d,r,q⟩=>⟨F,S,d,r,?_⟩,g⟩;unfold je at q;rw[fE_eq]at q;rw[Tc λe=>by rw[e]at q;exact q];exact q
end
open L2 Pu Sh
section
variable{P:aM}{w:aD}{K:aw}{d:Str->Option af}{b:ax}{a:Ad}
def yaW(a:Ad):ad aG:=aC (dw 1 (uS))
 (aC (λc=>dI (dv 2 (cL (bp (aK (je a) (gV (dV 0) (aX))))) (aC (bG 3 (bC br (dV 2) (bW) (bf (dL cf (ap (d2 bv (dV 0) (dC (.int 1))) (az))))))
 (bS (dB (d2 (eqT ai) (bp (aK (Az a) (gV (dV 3) (gV (d2 bv (dV 0) (dC (.int 0))) (aX))))) (dV 2))) (jF 1 (bp (aK (Hd a) (gV (dV 3) (aX)))) (dC (.bl ag))) (cm))) c))
 (fO (yR 1)))
def uz(a:Ad):ad Slot:=grdF 1 [] (bg 3 (yaW a))
theorem MY:bq ["view","found","text","ring"] ["view"] (aQ B0):=by ac_nf
theorem S5(G:bK K d b a):bQ P w K d b "rings" 15 ["view"] (uz a) :=
 cal_goF G.yaW MY (λf h A g s H E c=>by exact
  (aI (fC 1 MY.nd (AG))
  (aI (hU (fA 2 eK rfl MY.nd (c6 ((ba (lS G) c eF (aB (am 0) a8))).de) (aI (cP 3 MY.nd (cE cF cC (am 2) cQ (ci (cb c5 c7 G.ybi c4 (ay (bV bY bZ (am 0) aA) aH)))))
  (aJ (cI (cK (gi c.units) gg ((ba (GO G) c eF (aB (am 3) (aB (bV bY bZ (am 0) aA) a8)))).de (am 2) rfl) (aJ (pb 1 c.units ((ba (Rt G) c eF (aB (am 3) a8))).de lI)) cH)))))
  (aJ (h_ (Hy 1 rfl G.ybo))))))
def ya5(a:Ad):ad aG:=fO (eD [0] (cL (bp (aK (je a) (gV (bp (aK (qY a) (gV (dV 0) (gV (dV 1) (aX))))) (aX))))) (dB (d2 (eqT ag) (dV 0) (dV 1))) (dV 0))
def zX(a:Ad):ad Slot:=grdF 2 [] (bg 0 (ya5 a))
theorem Re:bq ["text","width"] ["text","width"] (aQ CT):=by ac_nf
theorem Mm(G:bK K d b a):bQ P w K d b "twins" 15 ["text","width"] (zX a) :=
 cal_goF G.ya5 Re (λf m A h s H E i=>by exact
  (aJ (h_ (iN (bX [0]) rfl (c6 ((ba (lS G) i bA (aB ((ba (sV G) i bA (aB (am 0) (aB (am 1) a8)))).de a8))).de) (λC c g l j=>by exact o4 (cK (uv i.units) vm (am 0) (am 1) rfl)) (λC c g l j=>by exact(am 0))))))
def yaQ(a:Ad):ad aG:=aC (fW (aK (mv a) (gV (dV 0) (aX))))
 (aC (bS (dB (d2 (eqT ai) (d2 bv (dV 0) (dC (.int 0))) (dC (.int 1)))) (hZ) (cm))
 (aC (bS (dB (d2 (eqT ai) (dL cf (ap (d2 bv (dV 0) (dC (.int 1))) (az))) (dC (.int 9)))) (hZ) (cm))
 (fO (dL sortSetVP (ap (dF (eD [0] (cL (bp (aK (je a) (gV (dV 0) (aX))))) (fR) (bp (aK (qY a) (gV (dV 0) (gV (d2 d9 (d2 bv (dV 1) (dC (.int 0))) (dC (.int 1))) (aX))))))) (az))))))
def BD(a:Ad):ad Slot:=grdF 1 [] (bg 0 (yaQ a))
theorem Om:bq ["view"] ["view"] (aQ At):=by ac_nf
theorem OG(G:bK K d b a):bQ P w K d b "narrower" 15 ["view"] (BD a) :=
 cal_goF G.yaQ Om (λf m A g s H E c=>by exact
  (aI (ir (ba (qU G) c bA (aB (am 0) a8)))
  (aI (cI (cK (gi c.units) gg (bV bY bZ (am 0) aA) aA rfl) (aJ lg) cH)
  (aI (cI (cK (gi c.units) gg (cb c5 c7 G.ybi c4 (ay (bV bY bZ (am 0) aA) aH)) (nO G.ybw) rfl) (aJ lg) cH)
  (aJ (h_ (dn_sortSetV c.units rfl (ay (iN (bX [0]) rfl (c6 ((ba (lS G) c bA (aB (am 0) a8))).de) kH (λC h i l j=>by exact((ba (sV G) c eF (aB (am 0) (aB (bH j8 j9 (bV bY bZ (am 1) aA) aA) a8)))).de)).de aH) G.ybo G.ybn)))))))
def ya8(a:Ad):ad aG:=aC (fW (aK (mv a) (gV (dV 0) (aX))))
 (aC (bS (dB (d2 (eqT ai) (d2 bv (dV 0) (dC (.int 0))) (dC (.int 4)))) (hZ) (cm))
 (aC (bS (dB (d2 (eqT ai) (dL cf (ap (d2 bv (dV 0) (dC (.int 1))) (az))) (dC (.int 1)))) (fO (dL cB (az))) (cm))
 (fO (dL sortSetVP (ap (dF (eD [0] (cL (bp (aK (je a) (gV (dV 0) (aX))))) (fR) (bp (aK (qY a) (gV (dV 0) (gV (d2 bn (d2 bv (dV 1) (dC (.int 0))) (dC (.int 1))) (aX))))))) (az))))))
def uu(a:Ad):ad Slot:=grdF 1 [] (bg 0 (ya8 a))
theorem NL:bq ["view"] ["view"] (aQ B7):=by ac_nf
theorem RM(G:bK K d b a):bQ P w K d b "wider" 15 ["view"] (uu a) :=
 cal_goF G.ya8 NL (λf m A g s H E c=>by exact
  (aI (ir (ba (qU G) c bA (aB (am 0) a8)))
  (aI (cI (cK (gi c.units) gg (bV bY bZ (am 0) aA) (nO G.ybz) rfl) (aJ lg) cH)
  (aI (cI (cK (gi c.units) gg (cb c5 c7 G.ybi c4 (ay (bV bY bZ (am 0) aA) aH)) aA rfl) (aJ (h_ (ke aH))) cH)
  (aJ (h_ (dn_sortSetV c.units rfl (ay (iN (bX [0]) rfl (c6 ((ba (lS G) c bA (aB (am 0) a8))).de) kH (λC h i l j=>by exact((ba (sV G) c eF (aB (am 0) (aB (bH cM cG (bV bY bZ (am 1) aA) aA) a8)))).de)).de aH) G.ybo G.ybn)))))))
def yaf(a:Ad):ad aG:=aC (bS (nn (jd (dB (d1 (isiF 4) (dV 0)))) (jd (dB (oW (dq λi j=>decide (i<=j)) (dq λi j=>decide (i<=j)) (dC (.int 1)) (dL cf (ap (dV 0) (az))) (dC (.int 4)))))) (hZ) (cm))
 (aC (dw 1 (ie (aK (je a) (gV (d2 bv (dV 0) (dC (.int 0))) (aX)))))
 (aC (dv 2 (cL (bC br (dV 0) (bf (dC (.int 1))) (bW))) (dw 1 (J7 (ap (dM 1) (az)) (ap (bp (aK (je a) (gV (dV 2) (aX)))) (az)))))
 (kX 1)))
def sn(a:Ad):ad Slot:=grdF 1 [] (bg 2 (yaf a))
theorem OH:bq ["views","found","view"] ["views"] (aQ z6):=by ac_nf
theorem G9(G:bK K d b a):bQ P w K d b "by_all" 15 ["views"] (sn a) :=
 cal_goF G.yaf OH (λf h A c s H E g=>by exact
  (aI (cI ((uw (ka (lj (d1_imp (k:=4) (by decide) (cb oQ oZ G.ybh o5 (ay (am 0) (ay (oR G.ybj qo) aH)))))) (ur (ka (AF lC lC fD fD aA (cb c5 c7 G.ybi c4 (ay (am 0) aH)) (nO G.ybv)))))).dt (aJ lg) cH)
  (aI (fC 1 OH.nd (((ba (lS G) g bA (aB (bV bY bZ (am 0) aA) a8))).dn))
  (aI (fA 2 PassesOwn.leaving rfl OH.nd (c6 (cE cF cC (am 0) (ci aA) cQ)) (aJ (fC 1 OH.nd (Mj rfl (ay (Dc 1) aH) (ay ((ba (lS G) g bA (aB (am 2) a8))).de aH) G.ybo G.ybn))))
  (aJ (o6 1))))))
def yap(a:Ad):ad aG:=aC (dw 1 (uS))
 (aC (λc=>dI (dv 2 (cL (dV 0)) (aC (jF 1 (bC br (dV 2) (bW) (bf (d1 gA (dC (.int 1))))) (d2 bn (lP 1 (bC br (dV 2) (bW) (bf (d1 gA (dC (.int 1))))) (dC (.int 0))) (dC (.int 1))))
 (jF 1 (bC br (dV 2) (bf (dC (.int 1))) (bW)) (d2 d9 (lP 1 (bC br (dV 2) (bf (dC (.int 1))) (bW)) (dC (.int 0))) (dC (.int 1))))) c))
 (kX 1))
def An(a:Ad):ad Slot:=grdF 1 [] (bg 2 (yap a))
theorem PY:bq ["windows","excess","window"] ["windows"] (aQ Ag):=by ac_nf
theorem IL(G:bK K d b a):bQ P w K d b "excesses" 1 ["windows"] (An a) :=
 cal_goF G.yap PY (λf h A g s H E c=>by exact
  (aI (fC 1 PY.nd (AG))
  (aI (hU (fA 2 eK rfl PY.nd (c6 (am 0)) (aI (pb 1 c.units (cE cF cC (am 2) cQ (ci (kT kM lf aA))) (bH cM cG (yz 1 c.units (cE cF cC (am 2) cQ (ci (kT kM lf aA))) aA) aA))
  (aJ (pb 1 c.units (cE cF cC (am 2) (ci aA) cQ) (bH j8 j9 (yz 1 c.units (cE cF cC (am 2) (ci aA) cQ) aA) aA))))))
  (aJ (o6 1)))))
def yaV(a:Ad):ad aG:=aC (dw 1 (FA (bC br (d2 bv (dV 0) (dC (.int 0))) (bW) (bf (d1 gA (dC (.int 1))))) (dC (.bl ag))))
 (aC (bG 2 (dC (.int 0)))
 (aC (λc=>dI (iC (dB (d2 (dq λi j=>decide (i<j)) (dV 2) (yr 1))) (aC (bG 2 (yr 1))
 (dv 3 (cL (dV 0)) (bS (nn (dB (nz ai 1 (bC br (dV 3) (bW) (bf (d1 gA (dC (.int 1))))))) (dB (nz ai 1 (bC br (dV 3) (bf (dC (.int 1))) (bW))))) (aC (jF 1 (bC br (dV 3) (bW) (bf (d1 gA (dC (.int 1))))) (dC (.bl ag)))
 (jF 1 (bC br (dV 3) (bf (dC (.int 1))) (bW)) (dC (.bl ag)))) (cm)))) 1000 c))
 (kX 1)))
def B4(a:Ad):ad Slot:=grdF 1 [] (bg 3 (yaV a))
theorem U2:bq ["windows","reached","known","window"] ["windows"] (aQ AE):=by ac_nf
theorem Jg(G:bK K d b a):bQ P w K d b "reached_pieces" 1 ["windows"] (B4 a) :=
 cal_goF G.yaV U2 (λf h A g s H E c=>by exact
  (aI (fC 1 U2.nd (O4 (cE cF cC (bV bY bZ (am 0) aA) cQ (ci (kT kM lf aA))) lI))
  (aI (cP 2 U2.nd aA)
  (aI (hU (BA (λ_=>1000) eK (cK vB fD (am 2) (Jt 1 G.ybi) rfl) (aI (cP 2 U2.nd (Jt 1 G.ybi))
  (aJ (fA 3 eK rfl U2.nd (c6 (am 0)) (aJ (cI ((uw (x_ 1 c.units (cE cF cC (am 3) cQ (ci (kT kM lf aA)))) (ur (x_ 1 c.units (cE cF cC (am 3) (ci aA) cQ))))).dt (aI (pb 1 c.units (cE cF cC (am 3) cQ (ci (kT kM lf aA))) lI)
  (aJ (pb 1 c.units (cE cF cC (am 3) (ci aA) cQ) lI))) cH)))))))
  (aJ (o6 1))))))
def yav(a:Ad):ad aG:=aC (dw 1 (ie (aK (An a) (gV (dV 0) (aX)))))
 (aC (bG 2 (dF (eD [1] (cL (dF (yR 1))) (dB (d2 (dq λi j=>decide (j<i)) (nN 1 (dV 0)) (dC (.int 0)))) (dV 0))))
 (aC (bS (dB (d2 (dq λi j=>decide (j<i)) (dL cf (ap (dV 2) (az))) (dC (.int 1)))) (cz (dL eE (ap (dC (.str [116,119,111])) (ap (d2 bv (dV 2) (dC (.int 0))) (ap (d2 bv (dV 2) (dC (.int 1))) (az)))))) (cm))
 (aC (bS (FR (dB (d2 (eqT ai) (dL cf (ap (dV 2) (az))) (dC (.int 1)))) (dB (d2 (dq λi j=>decide (j<i)) (nN 1 (d2 bv (dV 2) (dC (.int 0)))) (dC (.int 1))))) (cz (dL eE (ap (dC (.str [109,111,114,101])) (ap (d2 bv (dV 2) (dC (.int 0))) (az))))) (cm))
 (aC (dw 3 (ie (aK (B4 a) (gV (dV 0) (aX)))))
 (aC (bG 4 (dF (BV [3] (Ht (ap (dV 0) (az))) (dB (nz ai 2 (bC br (dV 1) (bW) (bf (d1 gA (dC (.int 1))))))) (dV 0))))
 (aC (bS (dB (d2 (dq λi j=>decide (i<j)) (dL cf (ap (dV 4) (az))) (dL cf (ap (dV 0) (az))))) (cz (dL eE (ap (dC (.str [97,112,97,114,116])) (ap (dL qD (ap (dV 4) (az))) (az))))) (cm))
 (cz (dC .non))))))))
def Gf(a:Ad):ad Slot:=grdF 1 [] (bg 4 (yav a))
theorem S7:bq ["windows","excess","starts","reached","places"] ["windows"] (aQ xW):=by ac_nf
theorem Su(G:bK K d b a):bQ P w K d b "find_bar" 2 ["windows"] (Gf a) :=
 cal_goF G.yav S7 (λf n A l s H E h=>by exact
  (aI (fC 1 S7.nd (((ba (IL G) h bA (aB (am 0) a8))).dn))
  (aI (Ff 2 S7.nd (bX [1]) rfl (c6 (Hy 1 rfl G.ybo).de) (λC c g m i=>by exact o4 (cK oU fD (xS 1 h.units (am 0)) aA rfl)) (λC c g m i=>by exact(am 0)))
  (aI (cI (cK oU fD (cb c5 c7 G.ybi c4 (ay (am 2) aH)) aA rfl) (aJ (cS (ge (ay (kZ [116,119,111]) (ay (bV bY bZ (am 2) aA) (ay (bV bY bZ (am 2) aA) aH)))))) cH)
  (aI (cI ((PN (cK (gi h.units) gg (cb c5 c7 G.ybi c4 (ay (am 2) aH)) aA rfl) (Mp (cK oU fD (xS 1 h.units (bV bY bZ (am 2) aA)) aA rfl)))).dt (aJ (cS (ge (ay (kZ [109,111,114,101]) (ay (bV bY bZ (am 2) aA) aH))))) cH)
  (aI (fC 3 S7.nd (((ba (Jg G) h bA (aB (am 0) a8))).dn))
  (aI (UU 4 S7.nd (cap:=[3]) (j:=5) (N':=["place","window","reached"]) (iy.of ["windows","excess","starts","reached","places"] (aQ xW) rfl rfl (by decide +kernel)) rfl (SQ G.ybf (ay (am 0) aH)) (λC c g m i=>by exact o4 (x_ 2 h.units (cE cF cC (am 1) cQ (ci (kT kM lf aA))))) (λC c g m i=>by exact(am 0)))
  (aI (cI (cK vB fD (cb c5 c7 G.ybi c4 (ay (am 4) aH)) (cb c5 c7 G.ybi c4 (ay (am 0) aH)) rfl) (aJ (cS (ge (ay (kZ [97,112,97,114,116]) (ay (yU yF yI G.ybr sG (ay (am 4) aH)) aH))))) cH)
  (aJ (cS Aa))))))))))
def yad(a:Ad):ad aG:=aC (fW (aK (mv a) (gV (dV 0) (aX))))
 (iw (aK (Gf a) (gV (d2 bv (dV 0) (dC (.int 1))) (aX))))
def FE(a:Ad):ad Slot:=grdF 1 [] (bg 0 (yad a))
theorem RN:bq ["view"] ["view"] (aQ Dn):=by ac_nf
theorem SD(G:bK K d b a):bQ P w K d b "bar" 7 ["view"] (FE a) :=
 cal_goF G.yad RN (λf h A c s H E g=>by exact
  (aI (ir (ba (qU G) g bA (aB (am 0) a8)))
  (aJ (nq (ba (Su G) g bA (aB (bV bY bZ (am 0) aA) a8))))))
def yan(a:Ad):ad aG:=aC (dw 1 (Jk (dL eE (az)) (dC (.bl ag))))
 (aC (λc=>dI (dv 2 (cL (d2 bv (dV 0) (dC (.int 1)))) (aC (dw 3 CA)
 (aC (Bt 4 1 (dv 5 (cL (bp (aK (GP a) (gV (dV 2) (aX))))) (Bd 3 (dL qD (ap (dF (dL kW (ap (d2 vE (dV 4) (dL eE (ap (dV 5) (az)))) (az)))) (az))) (dC (.bl ag)))))
 (Ct 1 3))) c))
 (fO (eD [0] (cL (dF (ym 1))) (fR) (dL eE (ap (d2 bv (dV 1) (dC (.int 0))) (ap (dV 0) (az)))))))
def Jx(a:Ad):ad Slot:=grdF 1 [] (bg 5 (yan a))
theorem L_:bq ["blurred","ways","blurred_window","longer","windows","window"] ["blurred"] (aQ Af):=by ac_nf
theorem Tg(G:bK K d b a):bQ P w K d b "clearing_views" 2 ["blurred"] (Jx a) :=
 cal_goF G.yan L_ (λf m A g s H E c=>by exact
  (aI (fC 1 L_.nd (Of c.units (ge aH) lI))
  (aI (hU (fA 2 eK rfl L_.nd (c6 (bV bY bZ (am 0) aA)) (aI (fC 3 L_.nd GI)
  (aI (Oh 4 1 eK rfl L_.nd (aJ (fA 5 eK rfl L_.nd (c6 ((ba (Sg G) c eF (aB (am 2) a8))).de) (aJ (J9 3 c.units (yU yF yI G.ybr sG (ay (xD sx sE G.ybo jL (ay (bH ut BG (am 4) (ge (ay (am 5) aH))) aH)).de aH)) lI)))))
  (aJ (N_ 1 3 L_.nd))))))
  (aJ (h_ (iN (bX [0]) rfl (c6 (JS 1 c.units rfl G.ybo).de) kH (λC h i l j=>by exact(ge (ay (bV bY bZ (am 1) aA) (ay (am 0) aH))))))))))
def yam(a:Ad):ad aG:=aC (fW (aK (Iw a) (gV (dV 0) (aX))))
 (fO (eD [] (cL (bp (aK (Jx a) (gV (dV 0) (aX))))) (dB (d2 (xK ai) (bp (aK (FE a) (gV (dV 0) (aX)))) (dC .non))) (dV 0)))
def qj(a:Ad):ad Slot:=grdF 1 [] (bg 0 (yam a))
theorem P5:bq ["blurred"] ["blurred"] (aQ BB):=by ac_nf
theorem Ae(G:bK K d b a):bQ P w K d b "cleared" 8 ["blurred"] (qj a) :=
 cal_goF G.yam P5 (λf m A h s H E i=>by exact
  (aI (ir (ba (U6 G) i bA (aB (am 0) a8)))
  (aJ (h_ (iN (bX []) rfl (c6 ((ba (Tg G) i bA (aB (am 0) a8))).de) (λC c g l j=>by exact o4 (cK LV Ui ((ba (SD G) i eF (aB (am 0) a8))).de Aa rfl)) (λC c g l j=>by exact(am 0)))))))
def ya2(a:Ad):ad aG:=aC (dw 1 (dL cB (az)))
 (aC (dv 2 (cL (bp (aK (qj a) (gV (dV 0) (aX))))) (vg 1 (bp (aK (je a) (gV (dV 2) (aX))))))
 (fO (jN (λc=>nK (kW c)) 1)))
def vC(a:Ad):ad Slot:=grdF 1 [] (bg 2 (ya2 a))
theorem NP:bq ["blurred","found","view"] ["blurred"] (aQ BR):=by ac_nf
theorem N4(G:bK K d b a):bQ P w K d b "through" 15 ["blurred"] (vC a) :=
 cal_goF G.ya2 NP (λf h A c s H E g=>by exact
  (aI (fC 1 NP.nd (ke aH))
  (aI (fA 2 PassesOwn.leaving rfl NP.nd (c6 ((ba (Ae G) g bA (aB (am 0) a8))).de) (aJ (Bq 1 ((ba (lS G) g bA (aB (am 2) a8))).de)))
  (aJ (h_ (Iz 1 sx sE G.ybo jL))))))
def yay(a:Ad):ad aG:=cz (dL vf (ap (dF (eD [0] (cL (dV 1)) (fR) (d2 (xB ai) (dV 1) (d2 bv (dV 0) (dC (.int 1)))))) (az)))
def Ia(a:Ad):ad Slot:=grdF 2 [] (bg 0 (yay a))
theorem Mf:bq ["window","views"] ["window","views"] (aQ Bv):=by ac_nf
theorem TU(G:bK K d b a):bQ P w K d b "is_in_all" 1 ["window","views"] (Ia a) :=
 cal_goF G.yay Mf (λf m A c s H E j=>by exact
  (aJ (cS (cb (CK rfl) Dt G.ybc Dg (ay (iN (bX [0]) rfl (c6 (am 1)) kH (λC g h l i=>by exact(s0 Js E8 (am 1) (bV bY bZ (am 0) aA) rfl))).de aH)))))
def yaY(a:Ad):ad aG:=aC (bG 1 (bp (aK (qj a) (gV (dV 0) (aX)))))
 (aC (bS (dB (d2 (eqT ai) (dL cf (ap (dV 1) (az))) (dC (.int 0)))) (hZ) (cm))
 (fO (eD [1] (cL (dF (dL vt (ap (d2 bv (d2 bv (dV 1) (dC (.int 0))) (dC (.int 1))) (az))))) (dB (bp (aK (Ia a) (gV (dV 0) (gV (dV 1) (aX)))))) (dV 0))))
def vQ(a:Ad):ad Slot:=grdF 1 [] (bg 1 (yaY a))
theorem TJ:bq ["blurred","views"] ["blurred"] (aQ BI):=by ac_nf
theorem TN(G:bK K d b a):bQ P w K d b "seen" 9 ["blurred"] (vQ a) :=
 cal_goF G.yaY TJ (λf m A h s H E i=>by exact
  (aI (cP 1 TJ.nd ((ba (Ae G) i bA (aB (am 0) a8))).de)
  (aI (cI (cK (gi i.units) gg (cb c5 c7 G.ybi c4 (ay (am 1) aH)) aA rfl) (aJ lg) cH)
  (aJ (h_ (iN (bX [1]) rfl (c6 (FP rfl (ay (bV bY bZ (bV bY bZ (am 1) aA) aA) aH) G.ybo G.ybn).de) (λC c g l j=>by exact o4 (lj ((ba (TU G) i eF (aB (am 0) (aB (am 1) a8)))).de)) (λC c g l j=>by exact(am 0))))))))
def yas(a:Ad):ad aG:=aC (dw 4 (dL cB (az)))
 (aC (λc=>dI (dv 5 (dL sJ (ap (d2 bn (dV 2) (dC (.int 1))) (ap (d2 bn (dV 3) (dC (.int 1))) (az)))) (dv 6 (dL sJ (ap (d2 bn (dV 3) (dC (.int 1))) (ap (dL cf (ap (dV 1) (az))) (az)))) (bS (dB (d2 (eqT ai) (d2 bv (dV 1) (dV 5)) (d2 bv (dV 1) (dV 6)))) (kQ 4 (d2 bn (d2 bn (d2 bn (d2 bn (bC br (dV 0) (bW) (bf (dV 2))) (bC br (dV 0) (bf (dV 3)) (bf (dV 6)))) (bC br (dV 0) (bf (dV 5)) (bf (dV 3)))) (bC br (dV 0) (bf (dV 2)) (bf (dV 5)))) (bC br (dV 0) (bf (dV 6)) (bW)))) (cm))) c))
 (kX 4))
def IN(a:Ad):ad Slot:=grdF 4 [] (bg 3 (yas a))
theorem ME:bq ["text","row","start","again","found","end","last"] ["text","row","start","again"] (aQ Bw):=by ac_nf
theorem Uu(G:bK K d b a):bQ P w K d b "exchanges_from" 1 ["text","row","start","again"] (IN a) :=
 cal_goF G.yas ME (λf h A c s H E g=>by exact
  (aI (fC 4 ME.nd (ke aH))
  (aI (hU (fA 5 eK rfl ME.nd (xZ G.ybm (ay (bH cM cG (am 2) aA) (ay (bH cM cG (am 3) aA) aH))) (aJ (fA 6 eK rfl ME.nd (xZ G.ybm (ay (bH cM cG (am 3) aA) (ay (cb c5 c7 G.ybi c4 (ay (am 1) aH)) aH))) (aJ (cI (cK (gi g.units) gg (bV bY bZ (am 1) (am 5)) (bV bY bZ (am 1) (am 6)) rfl) (aJ (qG 4 (bH cM cG (bH cM cG (bH cM cG (bH cM cG (cE cF cC (am 0) cQ (ci (am 2))) (cE cF cC (am 0) (ci (am 3)) (ci (am 6)))) (cE cF cC (am 0) (ci (am 5)) (ci (am 3)))) (cE cF cC (am 0) (ci (am 2)) (ci (am 5)))) (cE cF cC (am 0) (ci (am 6)) cQ)))) cH))))))
  (aJ (o6 4)))))
def yar(a:Ad):ad aG:=aC (dw 2 (dL cB (az)))
 (aC (λc=>dI (dv 3 (dL iz (ap (dL cf (ap (dV 1) (az))) (az))) (dv 4 (dL sJ (ap (d2 bn (dV 3) (dC (.int 1))) (ap (dL cf (ap (dV 1) (az))) (az)))) (bS (dB (d2 (eqT ai) (d2 bv (dV 1) (dV 3)) (d2 bv (dV 1) (dV 4)))) (vg 2 (bp (aK (IN a) (gV (dV 0) (gV (dV 1) (gV (dV 3) (gV (dV 4) (aX)))))))) (cm))) c))
 (kX 2))
def E9(a:Ad):ad Slot:=grdF 2 [] (bg 3 (yar a))
theorem Sw:bq ["text","row","found","start","again"] ["text","row"] (aQ Bc):=by ac_nf
theorem O9(G:bK K d b a):bQ P w K d b "exchanges" 2 ["text","row"] (E9 a) :=
 cal_goF G.yar Sw (λf h A c s H E g=>by exact
  (aI (fC 2 Sw.nd (ke aH))
  (aI (hU (fA 3 eK rfl Sw.nd (sy G.ybm (ay (cb c5 c7 G.ybi c4 (ay (am 1) aH)) aH)) (aJ (fA 4 eK rfl Sw.nd (xZ G.ybm (ay (bH cM cG (am 3) aA) (ay (cb c5 c7 G.ybi c4 (ay (am 1) aH)) aH))) (aJ (cI (cK (gi g.units) gg (bV bY bZ (am 1) (am 3)) (bV bY bZ (am 1) (am 4)) rfl) (aJ (Bq 2 ((ba (Uu G) g eF (aB (am 0) (aB (am 1) (aB (am 3) (aB (am 4) a8)))))).de)) cH))))))
  (aJ (o6 2)))))
def ya4(a:Ad):ad aG:=aC (bS (dB (d2 (eqT ag) (d2 bv (dV 1) (dC (.int 0))) (d2 bv (dV 1) (d1 gA (dC (.int 1)))))) (fO (dL cB (az))) (cm))
 (aC (bG 3 (bC br (dV 0) (bW) (bf (d2 d9 (dL cf (ap (dV 1) (az))) (dC (.int 1))))))
 (fO (eD [3,2] (dL sJ (ap (dC (.int 1)) (ap (dL cf (ap (dV 3) (az))) (az)))) (fR) (bp (aK (Az a) (gV (d2 bn (bC br (dV 1) (bf (dV 0)) (bW)) (bC br (dV 1) (bW) (bf (dV 0)))) (gV (dV 2) (aX))))))))
def HW(a:Ad):ad Slot:=grdF 3 [] (bg 1 (ya4 a))
theorem Ot:bq ["text","row","width","ring"] ["text","row","width"] (aQ CS):=by ac_nf
theorem P0(G:bK K d b a):bQ P w K d b "turns" 2 ["text","row","width"] (HW a) :=
 cal_goF G.ya4 Ot (λf m A c s H E h=>by exact
  (aI (cI (cK (uv h.units) vm (bV bY bZ (am 1) aA) (bV bY bZ (am 1) (kT kM lf aA)) rfl) (aJ (h_ (ke aH))) cH)
  (aI (cP 3 Ot.nd (cE cF cC (am 0) cQ (ci (bH j8 j9 (cb c5 c7 G.ybi c4 (ay (am 1) aH)) aA))))
  (aJ (h_ (iN (bX [3,2]) rfl (xZ G.ybm (ay aA (ay (cb c5 c7 G.ybi c4 (ay (am 3) aH)) aH))) kH (λC g i l j=>by exact((ba (GO G) h eF (aB (bH cM cG (cE cF cC (am 1) (ci (am 0)) cQ) (cE cF cC (am 1) cQ (ci (am 0)))) (aB (am 2) a8)))).de)))))))
def yaR(a:Ad):ad aG:=aC (bG 2 (bp (aK (yT a) (gV (dV 0) (gV (d2 d9 (dV 1) (dC (.int 1))) (aX))))))
 (fO (Iq (ap (d2 bn (bp (aK (E9 a) (gV (dV 0) (gV (dV 2) (aX))))) (bp (aK (HW a) (gV (dV 0) (gV (dV 2) (gV (dV 1) (aX))))))) (az)) (ap (dF (dL cB (ap (dV 0) (az)))) (az))))
def Fd(a:Ad):ad Slot:=grdF 2 [] (bg 1 (yaR a))
theorem Ub:bq ["text","width","row"] ["text","width"] (aQ Dh):=by ac_nf
theorem T5(G:bK K d b a):bQ P w K d b "one_step_off" 3 ["text","width"] (Fd a) :=
 cal_goF G.yaR Ub (λf h A c s H E g=>by exact
  (aI (cP 2 Ub.nd ((ba (C8 G) g bA (aB (am 0) (aB (bH j8 j9 (am 1) aA) a8)))).de)
  (aJ (h_ (QA rfl (ay (bH cM cG ((ba (O9 G) g bA (aB (am 0) (aB (am 2) a8)))).de ((ba (P0 G) g bA (aB (am 0) (aB (am 2) (aB (am 1) a8))))).de) aH) (ay (kY (ay (am 0) aH)) aH) G.ybo G.ybn)))))
def yaq(a:Ad):ad aG:=aC (fW (aK (qY a) (gV (dV 0) (gV (dV 1) (aX)))))
 (iw (aK (Fd a) (gV (dV 0) (gV (dV 1) (aX)))))
def B9(a:Ad):ad Slot:=grdF 2 [] (bg 0 (yaq a))
theorem Mo:bq ["text","width"] ["text","width"] (aQ CY):=by ac_nf
theorem Qv(G:bK K d b a):bQ P w K d b "exchanged" 5 ["text","width"] (B9 a) :=
 cal_goF G.yaq Mo (λf h A c s H E g=>by exact
  (aI (ir (ba (sV G) g bA (aB (am 0) (aB (am 1) a8))))
  (aJ (nq (ba (T5 G) g bA (aB (am 0) (aB (am 1) a8)))))))
def yag(a:Ad):ad aG:=aC (bG 3 (bp (aK (qY a) (gV (dV 0) (gV (dV 2) (aX))))))
 (bS (dB (d2 (eqT ag) (dV 3) (bp (aK (qY a) (gV (dV 1) (gV (dV 2) (aX))))))) (hZ) (cm))
def IQ(a:Ad):ad Slot:=grdF 3 [] (bg 1 (yag a))
theorem M5:bq ["one","other","width","one_view"] ["one","other","width"] (aQ AU):=by ac_nf
theorem TZ(G:bK K d b a):bQ P w K d b "check_alike" 5 ["one","other","width"] (IQ a) :=
 cal_goF G.yag M5 (λf h A c s H E g=>by exact
  (aI (cP 3 M5.nd ((ba (sV G) g bA (aB (am 0) (aB (am 2) a8)))).de)
  (aJ (cI (cK (uv g.units) vm (am 3) ((ba (sV G) g bA (aB (am 1) (aB (am 2) a8)))).de rfl) (aJ lg) cH))))
def yaX(a:Ad):ad aG:=aC (fW (aK (IQ a) (gV (dV 0) (gV (dV 1) (gV (dV 2) (aX))))))
 (aC (dw 3 (dL cB (ap (dV 0) (az))))
 (aC (bS (dB (d2 (eqT ai) (dV 0) (dV 1))) (kX 3) (cm))
 (hZ)))
def Bm(a:Ad):ad Slot:=grdF 3 [] (bg 3 (yaX a))
theorem LR:bq ["one","other","width","way","far","near"] ["one","other","width"] (aQ Dl):=by ac_nf
theorem Pn(G:bK K d b a):bQ P w K d b "road" 6 ["one","other","width"] (Bm a) :=
 cal_goF G.yaX LR (λf h A c s H E g=>by exact
  (aI (ir (ba (TZ G) g bA (aB (am 0) (aB (am 1) (aB (am 2) a8)))))
  (aI (fC 3 LR.nd (ke (ay (am 0) aH)))
  (aI (cI (cK (gi g.units) gg (am 0) (am 1) rfl) (aJ (o6 3)) cH)
  vH))))
def yab(a:Ad):ad aG:=aC (λc=>dI (dv 2 (dL Aw (ap (d2 d9 (dL cf (ap (dV 1) (az))) (dC (.int 1))) (ap (dC (.int 0)) (ap (d1 gA (dC (.int 1))) (az))))) (bS (dB (xR Au (dV 0) (ap (bC br (dV 1) (bW) (bf (dV 2))) (az)))) (cz (bC br (dV 1) (bf (dV 2)) (bW))) (cm)) c))
 (cz (dV 1))
def GN(a:Ad):ad Slot:=grdF 2 [] (bg 1 (yab a))
theorem Tf:bq ["ahead","window","shared"] ["ahead","window"] (aQ Bi):=by ac_nf
theorem Ts(G:bK K d b a):bQ P w K d b "added_letters" 1 ["ahead","window"] (GN a) :=
 cal_goF G.yab Tf (λf h A c s H E g=>by exact
  (aI (hU (fA 2 eK rfl Tf.nd (Ni G.ybm (ay (bH j8 j9 (cb c5 c7 G.ybi c4 (ay (am 1) aH)) aA) (ay aA (ay (kT kM lf aA) aH)))) (aJ (cI (lj (Bs PySem.F.slot_str_endswith PySem.F.type_str_endswith MB U9 (am 0) (ay (cE cF cC (am 1) cQ (ci (am 2))) aH))) (aJ (cS (cE cF cC (am 1) (ci (am 2)) cQ))) cH))))
  (aJ (cS (am 1)))))
def yba(a:Ad):ad aG:=aC (bG 2 (Gh Cj (dV 0) (dV 1)))
 (cz (d2 xm (bC br (dV 0) (bW) (bf (dV 2))) (bC br (dV 0) (bf (d2 xm (dV 2) (dC (.int 1)))) (bW))))
def Ho(a:Ad):ad Slot:=grdF 2 [] (bg 1 (yba a))
theorem RX:bq ["windows","window","place"] ["windows","window"] (aQ CP):=by ac_nf
theorem Q0(G:bK K d b a):bQ P w K d b "without" 1 ["windows","window"] (Ho a) :=
 cal_goF G.yba RX (λf h A c s H E g=>by exact
  (aI (cP 2 RX.nd (Qa (am 0) (am 1)))
  (aJ (cS (bH ut Fy (cE cF cC (am 0) cQ (ci (am 2))) (cE cF cC (am 0) (ci (bH ut Fy (am 2) aA)) cQ))))))
def yaO(a:Ad)(f:ad Slot):ad aG:=aC (bS (dB (d2 (eqT ai) (dL cf (ap (dV 1) (az))) (dC (.int 0)))) (cz (dC (.str []))) (cm))
 (aC (bS (dB (Dp ag 2 (dL eE (ap (dV 0) (ap (dV 1) (az)))))) (aC (dw 3 (dL cB (az)))
 (aC (λc=>dI (dv 4 (cL (dF (dL vt (ap (dV 1) (az))))) (kQ 3 (d2 bn (bp (aK (GN a) (gV (dV 0) (gV (dV 4) (aX))))) (bp (aK (f) (gV (dV 4) (gV (bp (aK (Ho a) (gV (dV 1) (gV (dV 4) (aX))))) (gO 2 (aX)))))))) c))
 (Jp 2 (dL eE (ap (dV 0) (ap (dV 1) (az)))) (Ba 3)))) (cm))
 (cz (C3 2 (dL eE (ap (dV 0) (ap (dV 1) (az)))))))
def Ao(a:Ad):Nat->ah->R Slot
 |0=>grdF 3 [2] (bg 2 hZ)
 |k+1=>grdF 3 [2] (bg 2 (yaO a (Ao a k)))
theorem G0:bq ["ahead","left","known","endings","window"] ["ahead","left","known"] (aQ Bh):=by ac_nf
theorem MJ(G:bK K d b a)(m:Nat):jk (hG P w) P w K d b "least_ending" (2+m) ["ahead","left","known"] (dO K (Ao a m)):=by
 induction m with
 |zero=>exact cal_goF G.yaO G0 (λf o A h s H E g=>vH)
 |succ m l=>exact cal_genLF (k:=2+m) (pin:=[2]) G.ybb (by decide) G.yaO G0 rfl (λ_ _ _ _ _ _ j n=>Pu.G1 (λ_ _ _=>rfl) j n) (λf o c T A h s H E g i=>by exact
  (aI (cI (cK (gi g.units) gg (cb c5 c7 G.ybi c4 (ay (am 1) aH)) aA rfl) (aJ (cS (kZ []))) cH)
  (aI (cI (Mt 2 g.units (ge (ay (am 0) (ay (am 1) aH)))) (aI (fC 3 G0.nd (ke aH))
  (aI (hU (fA 4 eK rfl G0.nd (c6 (FP rfl (ay (am 1) aH) G.ybo G.ybn).de) (aJ (qG 3 (bH cM cG ((qW (Ts G) (g.mono ∅) eF (aB (am 0) (aB (am 4) a8)))).de ((qW l (g.mono ∅) eF (aB (am 4) (aB ((qW (Q0 G) (g.mono ∅) eF (aB (am 1) (aB (am 4) a8)))).de (jJ 2 a8))))).de)))))
  (aJ (Tj 2 g.units (ge (ay (am 0) (ay (am 1) aH))) (NW 3 rfl g.d1 g.units (by first|exact i|exact uL.nox i) G.ybl G.ybi))))) cH)
  (aJ (cS (Vi 2 g.units (ge (ay (am 0) (ay (am 1) aH)))))))))
def yaZ(a:Ad):ad aG:=aC (fW (aK (mv a) (gV (dV 0) (aX))))
 (iw (sw (Ao a 10) (o0 (dC (.str [])) (o0 (d2 bv (dV 0) (dC (.int 1))) (gN (II) (aX))))))
def Iy(a:Ad):ad Slot:=grdF 1 [] (bg 0 (yaZ a))
theorem Qq:bq ["view"] ["view"] (aQ Cq):=by ac_nf
theorem UO(G:bK K d b a):bQ P w K d b "shortest" 13 ["view"] (Iy a) :=
 cal_goF G.yaZ Qq (λf h A c s H E g=>by exact
  (aI (ir (ba (qU G) g bA (aB (am 0) a8)))
  (aJ (nq (Jf (MJ G 10) (g.mono (by decide)) bA (xr (kZ []) (xr (bV bY bZ (am 0) aA) (GM (V2) a8))))))))
def yaF(a:Ad):ad aG:=aC (dw 1 (ie (aK (yT a) (gV (bp (aK (Iy a) (gV (dV 0) (aX)))) (gV (d2 bv (dV 0) (dC (.int 0))) (aX))))))
 (aC (λc=>dI (dv 2 (cL (d2 bv (dV 0) (dC (.int 1)))) (Bf 1 (dV 2)) c))
 (fO (jN (λf=>nK (kW f)) 1)))
def u7(a:Ad):ad Slot:=grdF 1 [] (bg 2 (yaF a))
theorem Me:bq ["view","more","window"] ["view"] (aQ CG):=by ac_nf
theorem Nk(G:bK K d b a):bQ P w K d b "lacking" 14 ["view"] (u7 a) :=
 cal_goF G.yaF Me (λf h A c s H E g=>by exact
  (aI (fC 1 Me.nd (((ba (C8 G) g bA (aB ((ba (UO G) g bA (aB (am 0) a8))).de (aB (bV bY bZ (am 0) aA) a8)))).dn))
  (aI (hU (fA 2 eK rfl Me.nd (c6 (bV bY bZ (am 0) aA)) (aJ (V4 1 (am 2)))))
  (aJ (h_ (Iz 1 sx sE G.ybo jL))))))
def yai(a:Ad):ad aG:=aC (fW (aK (mv a) (gV (dV 0) (aX))))
 (bS (dB (d2 (dq λi j=>decide (j<i)) (dL cf (ap (d2 bv (dV 0) (dC (.int 1))) (az))) (dC (.int 6)))) (hZ) (cm))
def Bu(a:Ad):ad Slot:=grdF 1 [] (bg 0 (yai a))
theorem QD:bq ["view"] ["view"] (aQ BO):=by ac_nf
theorem Fk(G:bK K d b a):bQ P w K d b "check_shared_view" 7 ["view"] (Bu a) :=
 cal_goF G.yai QD (λf h A c s H E g=>by exact
  (aI (ir (ba (qU G) g bA (aB (am 0) a8)))
  (aJ (cI (cK oU fD (cb c5 c7 G.ybi c4 (ay (bV bY bZ (am 0) aA) aH)) (nO G.ybx) rfl) (aJ lg) cH))))
def yaT(a:Ad):ad aG:=aC (bG 1 (dF (dL cB (ap (dL eE (ap (bC Dr (dV 0) (bW) (bf (dC (.int 1)))) (ap (dL eE (az)) (az)))) (az)))))
 (aC (λc=>dI (dv 2 (cL (bC br (dV 0) (bf (dC (.int 1))) (bW))) (aC (dw 3 (dL cB (az)))
 (aC (BU 4 5 (cL (dV 1)) (aC (kQ 3 (dL eE (ap (d2 vE (dV 4) (dL eE (ap (dV 2) (az)))) (ap (dV 5) (az)))))
 (kQ 3 (dL eE (ap (dV 4) (ap (d2 vE (dV 5) (dL eE (ap (dV 2) (az)))) (az)))))))
 (bG 1 (dM 3)))) c))
 (fO (eD [] (cL (dF (dL sortSetDP (ap (dV 1) (az))))) (dB (d2 (dq λi j=>decide (j<i)) (dL cf (ap (d2 bv (dV 0) (dC (.int 1))) (az))) (dC (.int 0)))) (dV 0))))
def I0(a:Ad):ad Slot:=grdF 1 [] (bg 5 (yaT a))
theorem Va:bq ["windows","ways","window","longer","part","rest"] ["windows"] (aQ zZ):=by ac_nf
theorem Pm(G:bK K d b a):bQ P w K d b "partings" 1 ["windows"] (I0 a) :=
 cal_goF G.yaT Va (λf m A h s H E j=>by exact
  (aI (cP 1 Va.nd (kY (ay (ge (ay (cE QS Mu (am 0) cQ (ci aA)) (ay (ge aH) aH))) aH)))
  (aI (hU (fA 2 eK rfl Va.nd (c6 (cE cF cC (am 0) (ci aA) cQ)) (aI (fC 3 Va.nd (ke aH))
  (aI (J0 4 5 eK rfl Va.nd (c6 (am 1)) (aI (qG 3 (ge (ay (bH ut BG (am 4) (ge (ay (am 2) aH))) (ay (am 5) aH))))
  (aJ (qG 3 (ge (ay (am 4) (ay (bH ut BG (am 5) (ge (ay (am 2) aH))) aH)))))))
  (aJ (cP 1 Va.nd (Dc 3)))))))
  (aJ (h_ (iN (bX []) rfl (c6 (dn_sortSetD j.units rfl (ay (am 1) aH) G.ybo G.ybn).de) (λC c g l i=>by exact o4 (cK oU fD (cb c5 c7 G.ybi c4 (ay (bV bY bZ (am 0) aA) aH)) aA rfl)) (λC c g l i=>by exact(am 0))))))))
def yaS(a:Ad):ad aG:=aC (fW (aK (Bu a) (gV (dV 0) (aX))))
 (aC (dw 1 CA)
 (aC (λc=>dI (BU 2 3 (cL (bp (aK (I0 a) (gV (d2 bv (dV 0) (dC (.int 1))) (aX))))) (aC (bG 4 (bp (aK (je a) (gV (dL eE (ap (d2 bv (dV 0) (dC (.int 0))) (ap (dV 3) (az)))) (aX)))))
 (dv 5 (cL (bp (aK (je a) (gV (dL eE (ap (d2 bv (dV 0) (dC (.int 0))) (ap (dV 2) (az)))) (aX))))) (dv 6 (cL (dV 4)) (Bd 1 (dL eE (ap (dL AA (ap (dV 5) (ap (dV 6) (az)))) (ap (dL B1 (ap (dV 5) (ap (dV 6) (az)))) (az)))) (dC (.bl ag)))))) c))
 (fO (ym 1))))
def uY(a:Ad):ad Slot:=grdF 1 [] (bg 6 (yaS a))
theorem Mi:bq ["view","found","part","rest","others","one","other"] ["view"] (aQ AJ):=by ac_nf
theorem Px(G:bK K d b a):bQ P w K d b "pairs" 15 ["view"] (uY a) :=
 cal_goF G.yaS Mi (λf h A g s H E c=>by exact
  (aI (ir (ba (Fk G) c bA (aB (am 0) a8)))
  (aI (fC 1 Mi.nd GI)
  (aI (hU (J0 2 3 eK rfl Mi.nd (c6 ((ba (Pm G) c eF (aB (bV bY bZ (am 0) aA) a8))).de) (aI (cP 4 Mi.nd ((ba (lS G) c eF (aB (ge (ay (bV bY bZ (am 0) aA) (ay (am 3) aH))) a8))).de)
  (aJ (fA 5 eK rfl Mi.nd (c6 ((ba (lS G) c eF (aB (ge (ay (bV bY bZ (am 0) aA) (ay (am 2) aH))) a8))).de) (aJ (fA 6 eK rfl Mi.nd (c6 (am 4)) (aJ (J9 1 c.units (ge (ay (cb (UA rfl) N5 G.ybl zW (ay (am 5) (ay (am 6) aH))) (ay (cb (Us rfl) Ml G.ybk Bk (ay (am 5) (ay (am 6) aH))) aH))) lI)))))))))
  (aJ (h_ (JS 1 c.units rfl G.ybo)))))))
def yat(a:Ad):ad aG:=aC (dw 1 (ie (aK (An a) (gV (dV 0) (aX)))))
 (cz (dL sS (ap (dC (.int 1)) (ap (dL B2 (ap (dF (BL 1)) (az))) (az)))))
def J2(a:Ad):ad Slot:=grdF 1 [] (bg 1 (yat a))
theorem MH:bq ["windows","excess"] ["windows"] (aQ yn):=by ac_nf
theorem Ms(G:bK K d b a):bQ P w K d b "fewest_for" 2 ["windows"] (J2 a) :=
 cal_goF G.yat MH (λf h A c s H E g=>by exact
  (aI (fC 1 MH.nd (((ba (IL G) g bA (aB (am 0) a8))).dn))
  (aJ (cS (cb (HP rfl) Gs G.ybk Bk (ay aA (ay (cb (Nn rfl) Ql G.ybq rfl (ay (U4 1 (iy.of ["windows","excess"] (aQ yn) rfl rfl (by decide +kernel)) rfl).de aH)) aH)))))))
def yau(a:Ad):ad aG:=aC (fW (aK (mv a) (gV (dV 0) (aX))))
 (aC (bG 1 (d2 bv (dV 0) (dC (.int 1))))
 (aC (bG 2 (dC (.int 0)))
 (aC (λc=>dI (iC (dB (d2 (dq λi j=>decide (j<i)) (dL cf (ap (dV 1) (az))) (dC (.int 0)))) (aC (dw 3 (ie (aK (B4 a) (gV (dV 1) (aX)))))
 (aC (bG 2 (d2 bn (dV 2) (bp (aK (J2 a) (gV (dF (eD [3] (cL (dV 1)) (dB (nz ai 1 (bC br (dV 0) (bW) (bf (d1 gA (dC (.int 1))))))) (dV 0))) (aX))))))
 (bG 1 (dF (eD [3] (cL (dV 1)) (dB (nz ag 1 (bC br (dV 0) (bW) (bf (d1 gA (dC (.int 1))))))) (dV 0)))))) 1000 c))
 (cz (dV 2)))))
def Gu(a:Ad):ad Slot:=grdF 1 [] (bg 3 (yau a))
theorem TR:bq ["view","left","count","reached"] ["view"] (aQ BP):=by ac_nf
theorem T4(G:bK K d b a):bQ P w K d b "fewest_texts" 7 ["view"] (Gu a) :=
 cal_goF G.yau TR (λf m A j s H E h=>by exact
  (aI (ir (ba (qU G) h bA (aB (am 0) a8)))
  (aI (cP 1 TR.nd (bV bY bZ (am 0) aA))
  (aI (cP 2 TR.nd aA)
  (aI (hU (BA (λ_=>1000) eK (cK oU fD (cb c5 c7 G.ybi c4 (ay (am 1) aH)) aA rfl) (aI (fC 3 TR.nd (((ba (Jg G) h eF (aB (am 1) a8))).dn))
  (aI (cP 2 TR.nd (bH cM cG (am 2) ((ba (Ms G) h eF (aB (iN (bX [3]) rfl (c6 (am 1)) (λC c g l i=>by exact o4 (x_ 1 h.units (cE cF cC (am 0) cQ (ci (kT kM lf aA))))) (λC c g l i=>by exact(am 0))).de a8))).de))
  (aJ (Ff 1 TR.nd (bX [3]) rfl (c6 (am 1)) (λC c g l i=>by exact o4 (QT 1 h.units (cE cF cC (am 0) cQ (ci (kT kM lf aA))))) (λC c g l i=>by exact(am 0))))))))
  (aJ (cS (am 2))))))))
def yaP(a:Ad)(c:ad Slot):ad aG:=aC (bS (dB (d2 (eqT ai) (dV 2) (dC (.int 1)))) (fO (dSlN (bp (aK (je a) (gV (dL eE (ap (dV 1) (ap (dV 0) (az)))) (aX)))) (bW) (bf (dC (.int 1))))) (cm))
 (hZ)
def Am(a:Ad):Nat->ah->R Slot
 |0=>grdF 3 [] (bg 5 hZ)
 |k+1=>grdF 3 [] (bg 5 (yaP a (Am a k)))
theorem HI:bq ["windows","width","count","lists","part","rest","least","others"] ["windows","width","count"] (aQ Dm):=by ac_nf
theorem Mr(G:bK K d b a)(m:Nat):jk (hG P w) P w K d b "least_list" (15+m) ["windows","width","count"] (dO K (Am a m)):=by
 induction m with
 |zero=>exact cal_goF G.yaP HI (λf j A c s H E g=>vH)
 |succ m l=>exact cal_genF (k:=15+m) (pin:=[]) G.yaP HI rfl (λ_ _ _ _ _ _ h i=>Pu.G1 (λ_ _ _=>rfl) h i) (λf j A c s H E g=>by exact
  (aI (cI (cK (gi g.units) gg (am 2) aA rfl) (aJ (h_ (dn_slice ((qW (lS G) (g.mono ∅) bA (aB (ge (ay (am 1) (ay (am 0) aH))) a8))).de cQ (ci aA)))) cH)
  vH))
def yae(a:Ad):ad aG:=aC (fW (aK (Bu a) (gV (dV 0) (aX))))
 (iw (aK (Am a 8) (gV (d2 bv (dV 0) (dC (.int 1))) (gV (d2 bv (dV 0) (dC (.int 0))) (gV (bp (aK (Gu a) (gV (dV 0) (aX)))) (aX))))))
def uT(a:Ad):ad Slot:=grdF 1 [] (bg 0 (yae a))
theorem Vo:bq ["view"] ["view"] (aQ Ay):=by ac_nf
theorem Uf(G:bK K d b a):bQ P w K d b "bundle" 24 ["view"] (uT a) :=
 cal_goF G.yae Vo (λf h A c s H E g=>by exact
  (aI (ir (ba (Fk G) g bA (aB (am 0) a8)))
  (aJ (nq (qW (Mr G 8) (g.mono (by decide)) bA (aB (bV bY bZ (am 0) aA) (aB (bV bY bZ (am 0) aA) (aB ((ba (T4 G) g bA (aB (am 0) a8))).de a8))))))))
theorem SO:bq ["_law_script","_law_k"] ["_law_script","_law_k"] (aQ Ar):=by ac_nf
theorem Tb(G:bK K d b a):bQ P w K d b "_law_cell_at" 1 ["_law_script","_law_k"] (sM a) :=
 nI G.yaI SO (λf h A c s H E g=>by exact
  (aI (cI (cK vB fD (am 1) (cb c5 c7 G.ybi c4 (ay (am 0) aH)) rfl) (aJ (cS (bV bY bZ (am 0) (am 1)))) cH)
  (aI (cI (cK (gi g.units) gg (am 0) (kY aH) rfl) (aJ (cS aA)) cH)
  (aJ (cS (bH cM cG (bH u0 uI (bV bY bZ (am 0) (bH qg q_ (am 1) (cb c5 c7 G.ybi c4 (ay (am 0) aH)))) aA) (am 1)))))))
theorem RE:bq ["_law_script","_law_k","_law_many","_law_drawn"] ["_law_script","_law_k","_law_many"] (aQ z_):=by ac_nf
theorem LN(G:bK K d b a):bQ P w K d b "_law_mixed" 2 ["_law_script","_law_k","_law_many"] (yP a) :=
 nI G.yaL RE (λf h A c s H E g=>by exact
  (aI (cP 3 RE.nd (bH qg q_ (bH cM cG (bH cM cG (bH u0 uI ((ba (Tb G) g bA (aB (am 0) (aB (am 1) a8)))).de aA) (bH u0 uI aA (am 1))) aA) aA))
  (aJ (cS (bH qg q_ (bH qg q_ (bH qg q_ (bH T3 V0 (am 3) aA) aA) aA) (am 2))))))
theorem U3:bq ["_law_script","_law_town","_law_many"] ["_law_script","_law_town","_law_many"] (aQ BH):=by ac_nf
theorem uj(G:bK K d b a):bQ P w K d b "_law_draw" 3 ["_law_script","_law_town","_law_many"] (jR a) :=
 nI G.yaJ U3 (λf h A c s H E g=>by exact
  (aI (qG 1 aA)
  (aJ (nq (ba (LN G) g bA (aB (am 0) (aB (SN 1 c5 c7 G.ybi c4) (aB (am 2) a8))))))))
theorem RJ:bq ["_law_script","_law_town","_law_some"] ["_law_script","_law_town","_law_some"] (aQ C0):=by ac_nf
theorem De(G:bK K d b a):bQ P w K d b "_law_pick" 4 ["_law_script","_law_town","_law_some"] (lH a) :=
 nI G.yaM RJ (λf h A c s H E g=>by exact
  (aJ (cS (bV bY bZ (am 2) ((ba (uj G) g bA (aB (am 0) (jJ 1 (aB (cb c5 c7 G.ybi c4 (ay (am 2) aH)) a8))))).de))))
theorem VO:bq ["_law_script","_law_town","_law_low","_law_most","_law_few","_law_made","_law_k"] ["_law_script","_law_town","_law_low","_law_most"] (aQ Bp):=by ac_nf
theorem Nw(G:bK K d b a):bQ P w K d b "_law_text" 5 ["_law_script","_law_town","_law_low","_law_most"] (oS a) :=
 nI G.yaN VO (λf h A c s H E g=>by exact
  (aI (cP 4 VO.nd ((ba (De G) g bA (aB (am 0) (jJ 1 (aB (kY (ay aA (ay aA (ay aA (ay aA (ay aA (ay aA aH))))))) a8))))).de)
  (aI (cP 5 VO.nd (kZ []))
  (aI (hU (fA 6 eK rfl VO.nd (sy G.ybm (ay (bH cM cG (am 2) ((ba (uj G) g eF (aB (am 0) (jJ 1 (aB (bH cM cG (bH j8 j9 (am 3) (am 2)) aA) a8))))).de) aH)) (aJ (cP 5 VO.nd (bH cM cG (am 5) (bV bY bZ (kZ [97,98,99]) ((ba (uj G) g eF (aB (am 0) (jJ 1 (aB (am 4) a8))))).de))))))
  (aJ (cS (am 5)))))))
theorem Qn:bq ["_law_script","_law_town","_law_low","_law_most","_law_width","_law_made"] ["_law_script","_law_town","_law_low","_law_most"] (aQ Cu):=by ac_nf
theorem N2(G:bK K d b a):bQ P w K d b "_law_like" 6 ["_law_script","_law_town","_law_low","_law_most"] (qh a) :=
 nI G.yaK Qn (λf h A g s H E c=>by exact
  (aI (cP 4 Qn.nd (bH cM cG aA ((ba (De G) c bA (aB (am 0) (jJ 1 (aB (kY (ay aA (ay aA (ay aA (ay aA (ay aA aH)))))) a8))))).de))
  (aI (cP 5 Qn.nd ((ba (Nw G) c bA (aB (am 0) (jJ 1 (aB (am 2) (aB aA a8)))))).de)
  (aI (hU (BA (λ_=>1000) eK (cK vB fD (cb c5 c7 G.ybi c4 (ay (am 5) aH)) (bH j8 j9 (am 3) aA) rfl) (aJ (cP 5 Qn.nd (bH cM cG (am 5) ((ba (De G) c eF (aB (am 0) (jJ 1 (aB (kY (ay (cE cF cC (am 5) cQ (ci aA)) (ay (cE cF cC (am 5) cQ (ci aA)) (ay (cE cF cC (am 5) (ci aA) (ci aA)) (ay (kZ [97]) (ay (kZ [98]) (ay (cE cF cC (am 5) (ci (kT kM lf aA)) cQ) aH))))))) a8))))).de)))))
  (aJ (cS (ge (ay (cE cF cC (am 5) cQ (ci (cb (HP rfl) Gs G.ybk Bk (ay (am 4) (ay (bH j8 j9 (am 3) ((ba (uj G) c bA (aB (am 0) (jJ 1 (aB aA a8))))).de) aH))))) (ay (am 4) aH)))))))))
def yaH(a:Ad):ad aG:=aC (bS (dB (d2 (dq λi j=>decide (i<j)) (dV 0) (dC (.int 9)))) (dAsks 3 0 [qj a,vQ a,vC a,uz a,je a,u7 a,uT a,uY a,uu a] (gV (dV 1) (aX))) (cm))
 (aC (bS (dB (d2 (eqT ai) (dV 0) (dC (.int 9)))) (fO (bS (dB (d2 (dq λi j=>decide (j<i)) (d2 bv (dV 1) (dC (.int 0))) (dC (.int 1)))) (ie (aK (BD a) (gV (dV 1) (aX)))) (dL cB (az)))) (cm))
 (aC (bS (dB (d2 (eqT ai) (dV 0) (dC (.int 10)))) (iw (aK (sn a) (gV (dF (dL cB (ap (dV 1) (ap (dV 1) (az))))) (aX)))) (cm))
 (aC (bS (dB (d2 (eqT ai) (dV 0) (dC (.int 11)))) (iw (aK (zX a) (gV (dV 2) (gV (d2 bv (dV 1) (dC (.int 0))) (aX))))) (cm))
 (fO (bS (dB (d2 (eqT ai) (dV 0) (dC (.int 12)))) (ie (aK (B9 a) (gV (dV 2) (gV (d2 bv (dV 1) (dC (.int 0))) (aX))))) (ie (aK (Bm a) (gV (dV 2) (gV (dV 2) (gV (d2 bv (dV 1) (dC (.int 0))) (aX)))))))))))
def lN(a:Ad):ad Slot:=dU 3 [] (bg 1 (yaH a))
theorem UM:bq ["_law_what","_law_some","_law_text_here","_law_asks"] ["_law_what","_law_some","_law_text_here"] (aQ A0):=by ac_nf
theorem Gp(G:bK K d b a):bQ P w K d b "_law_ask" 25 ["_law_what","_law_some","_law_text_here"] (lN a) :=
 nI G.yaH UM (λf h A g s H E c=>by exact
  (aI (cI (cK vB fD (am 0) aA rfl) (dss_asks 3 0 (nu (Ae G) (c.mono (by decide)) (nu (TN G) (c.mono (by decide)) (nu (N4 G) (c.mono (by decide)) (nu (S5 G) (c.mono (by decide)) (nu (lS G) (c.mono (by decide)) (nu (Nk G) (c.mono (by decide)) (nu (Uf G) (c.mono (by decide)) (nu (Px G) (c.mono (by decide)) (nu (RM G) (c.mono (by decide)) LP))))))))) (aB (am 1) a8) bA UM.nd) cH)
  (aI (cI (cK (gi c.units) gg (am 0) aA rfl) (aJ (h_ (dn_ifx (cK oU fD (bV bY bZ (am 1) aA) aA rfl) (((ba (OG G) c bA (aB (am 1) a8))).dn) (ke aH)))) cH)
  (aI (cI (cK (gi c.units) gg (am 0) aA rfl) (aJ (nq (ba (G9 G) c bA (aB (kY (ay (am 1) (ay (am 1) aH))) a8)))) cH)
  (aI (cI (cK (gi c.units) gg (am 0) aA rfl) (aJ (nq (ba (Mm G) c bA (aB (am 2) (aB (bV bY bZ (am 1) aA) a8))))) cH)
  (aJ (h_ (dn_ifx (cK (gi c.units) gg (am 0) aA rfl) (((ba (Qv G) c bA (aB (am 2) (aB (bV bY bZ (am 1) aA) a8)))).dn) (((ba (Pn G) c bA (aB (am 2) (aB (am 2) (aB (bV bY bZ (am 1) aA) a8))))).dn)))))))))
def yaG(a:Ad):ad aG:=aC (dw 1 (dL cB (az)))
 (aC (bG 2 (bp (aK (jR a) (gV (dV 0) (gO 1 (gV (dC (.int 14)) (aX)))))))
 (aC (yj 3 4 (bp (aK (qh a) (gV (dV 0) (gO 1 (gV (dC (.int 2)) (gV (dC (.int 6)) (aX))))))))
 (aC (bG 4 (dL uk (ap (dV 4) (ap (dC (.int 3)) (az)))))
 (aC (bG 3 (bC br (dV 3) (bW) (bf (d2 bn (dV 4) (dC (.int 5))))))
 (aC (bG 5 (dL eE (ap (dV 4) (ap (dL qD (ap (dF (dL kW (ap (dF (eD [3,4] (dL iz (ap (d2 bn (d2 d9 (dL cf (ap (dV 3) (az))) (dV 4)) (dC (.int 1))) (az))) (fR) (bC br (dV 1) (bf (dV 0)) (bf (d2 bn (dV 0) (dV 2)))))) (az)))) (az))) (az)))))
 (aC (bG 6 (dF (dL cB (ap (dV 5) (ap (dV 5) (az))))))
 (aC (bG 7 (dF (dL cB (ap (dF (dL kj (ap (d2 bv (dV 5) (dC (.int 1))) (az)))) (ap (dF (dL kj (ap (dV 6) (az)))) (az))))))
 (aC (λε=>dI (dv 8 (dL iz (ap (dC (.int 14)) (az))) (aC (bG 9 (d2 fQ (d2 bn (dV 2) (d2 jO (dC (.int 5)) (dV 8))) (dC (.int 14))))
 (aC (dw 10 (ie (aK (lN a) (gV (dV 9) (gV (dV 5) (gV (dV 3) (aX)))))))
 (aC (bG 11 (dF (jN (λc=>nK (kj c)) 10)))
 (aC (kQ 10 (dC (.str [99,104,97,110,103,101,100])))
 (aC (bS (dB (d2 (eqT ai) (d2 fQ (dV 9) (dC (.int 2))) (dC (.int 0)))) (vG 10 (dC (.int 0)) (dC .non)) (cm))
 (aC (bG 12 (bp (aK (lN a) (gV (dV 9) (gV (dV 5) (gV (dV 3) (aX)))))))
 (bS (nn (dB (d2 (eqT ag) (dV 12) (dV 11))) (jd (dB (d1 (isiF 4) (dV 12))))) (cz (dC (.bl ai))) (cm)))))))) ε))
 (aC (fW (aK (sn a) (gV (dV 6) (aX))))
 (cz (d2 (eqT ai) (dF (dL cB (ap (dF (dL kj (ap (d2 bv (dV 5) (dC (.int 1))) (az)))) (ap (dV 6) (az))))) (dV 7))))))))))))
def ux(a:Ad):ad Slot:=dU 1 [] (bg 12 (yaG a))
theorem Ri:bq ["_law_script","_law_town","_law_order","_law_text_here","_law_width","_law_some","_law_views","_law_kept","_law_k","_law_what","_law_begun","_law_copy","_law_again"] ["_law_script"] (aQ xg):=by ac_nf
theorem QX(G:bK K d b a){f:ab}{i:gT}(n:qr K "law" "law" xg f i):jf P w K d b (hG P w) 26 f i ["_law_script"] (dO K (ux a)) :=
 PJ (k:=25) (pin:=[]) n Ri rfl (λ_ _ _ _ _ _ l m=>Pu.Hv (λ_=>rfl) l m) (λf q A g s H E c=>by exact
  (aI (fC 1 Ri.nd (ke aH))
  (aI (cP 2 Ri.nd ((ba (uj G) c bA (aB (am 0) (jJ 1 (aB aA a8))))).de)
  (aI (Vp 3 4 rfl Ri.nd ((ba (N2 G) c bA (aB (am 0) (jJ 1 (aB aA (aB aA a8)))))).de)
  (aI (cP 4 Ri.nd (cb (MI rfl) Ps G.ybl zW (ay (am 4) (ay aA aH))))
  (aI (cP 3 Ri.nd (cE cF cC (am 3) cQ (ci (bH cM cG (am 4) aA))))
  (aI (cP 5 Ri.nd (ge (ay (am 4) (ay (yU yF yI G.ybr sG (ay (xD sx sE G.ybo jL (ay (iN (bX [3,4]) rfl (sy G.ybm (ay (bH cM cG (bH j8 j9 (cb c5 c7 G.ybi c4 (ay (am 3) aH)) (am 4)) aA) aH)) kH (λC h j p o=>by exact(cE cF cC (am 1) (ci (am 0)) (ci (bH cM cG (am 0) (am 2)))))).de aH)).de aH)) aH))))
  (aI (cP 6 Ri.nd (kY (ay (am 5) (ay (am 5) aH))))
  (aI (cP 7 Ri.nd (kY (ay (xV vR vd G.ybj qo (ay (bV bY bZ (am 5) aA) aH)).de (ay (xV vR vd G.ybj qo (ay (am 6) aH)).de aH))))
  (aI (hU (fA 8 eK rfl Ri.nd (sy G.ybm (ay aA aH)) (aI (cP 9 Ri.nd (bH qg q_ (bH cM cG (am 2) (bH u0 uI aA (am 8))) aA))
  (aI (fC 10 Ri.nd (((ba (Gp G) c eF (aB (am 9) (aB (am 5) (aB (am 3) a8))))).dn))
  (aI (cP 11 Ri.nd (dn_own1T 10 vR vd G.ybj qo).de)
  (aI (qG 10 (kZ [99,104,97,110,103,101,100]))
  (aI (cI (cK (gi c.units) gg (bH qg q_ (am 9) aA) aA rfl) (aJ (R7 10 aA Aa)) cH)
  (aI (cP 12 Ri.nd ((ba (Gp G) c eF (aB (am 9) (aB (am 5) (aB (am 3) a8))))).de)
  (aJ (cI ((uw (cK (uv c.units) vm (am 12) (am 11) rfl) (ur (ka (lj (d1_imp (k:=4) (by decide) (cb oQ oZ G.ybh o5 (ay (am 12) (ay (oR G.ybj qo) aH))))))))).dt (aJ (cS lI)) cH))))))))))
  (aI (ir (ba (G9 G) c bA (aB (am 6) a8)))
  (aJ (cS (s0 (gi c.units) gg (kY (ay (xV vR vd G.ybj qo (ay (bV bY bZ (am 5) aA) aH)).de (ay (am 6) aH))) (am 7) rfl))))))))))))))
end
end K40
namespace Mx
open L2 Pu
def Db(z:Tx)(i:Nat):Nat:=z.getD (i % z.length) 0
end Mx
namespace Sh
open L2 Pu Mx
section
variable{a:Ad}
def Pt(b c:Nat):List Nat:=List.range' b (c-b)
noncomputable def part(t:Tx)(i j:Nat):Tx:=(t.drop i).take (j-i)
theorem Q3(t:Tx)(i j:Nat):eB t (aa (i:Nat)) (aa (j:Nat))=part t i j:=by
 unfold eB part;rw[HT.sIx_nat,HT.sIx_nat];by_cases h:i<=t.length
 .rw[Nat.min_eq_left h];by_cases b:j<=t.length
  .rw[Nat.min_eq_left b]
  .rw[Lj ∅,oa (by simp),oa (by simp;lia)]
 .rw[show min i t.length=t.length by lia,EH (a_ _),EH (show t.length<=i by lia)];simp
theorem Pa(t:Tx)(i j:Nat):br (.str t) (aa (i:Nat)) (aa (j:Nat))=aa (.str (part t i j)):=by show aa (PV.str (eB t (aa (i:Nat)) (aa (j:Nat))))=_;rw[Q3]
theorem ye(t:Tx)(j:Nat):br (.str t) ac (aa (j:Nat))=aa (.str (t.take j)):=by show aa (PV.str (eB t ac (aa (j:Nat))))=_;rw[Ph]
def Db(b:List Tx)(i:Nat):Tx:=b.getD i []
theorem VF{ε:ah}(h:i<ε.length):dw i (dL cB az) ε=.ok .next (ε.set i (.own (.lst []))):=by simp[dw,dL,az,cB,R.bind,aW,h]
theorem VM(h:d c=.ok (.own (.lst f)) b):bp d c=.ok (.lst f) b:=by unfold bp;rw[h];rfl
theorem u8{d1 d2:ad d}(h:c ε=.ok ag b):bS c d1 d2 ε=d1 b:=by unfold bS;rw[h];rfl
theorem u_{d1 d2:ad d}(h:c ε=.ok ai b):bS c d1 d2 ε=d2 b:=by unfold bS;rw[h];rfl
theorem uB(h:d ε=.ok (.bl b) c):dB d ε=.ok b c:=by unfold dB;rw[h];rfl
def NE(t:Tx)(m:Nat):List Tx:=(Pt 1 m).map λp=>part (fJ 3 (t.take m)).flatten p (p+t.length)
def qA(t:Tx)(b:List Tx):List Tx:=if Db b 0=Db b (b.length-1)then NE t (b.length-1)else []
theorem Ti(b:List c)(k:Nat)(d:1<=k):eB b (aa (-(k:Int))) ac=b.drop (b.length-k):=by
 unfold eB;rw[show HT.sIx b.length b.length ac=b.length from rfl];have:HT.sIx b.length 0 (aa (-(k:Int)))=b.length-k:=by show(if(-(k:Int))<0 then((-(k:Int))+(b.length:Int)).toNat else min (-(k:Int)).toNat b.length)=_;lia
 rw[this,oa (by simp)]
def vx(a:Ad):ad aG:=bG 5 (d2 bn (dV 5) (bp (aK (lH a) (gV (dV 0) (gO 1 (gV (dF (dL cB (ap (bC br (dV 5) (bW) (bf (dC (.int 2)))) (ap (bC br (dV 5) (bW) (bf (dC (.int 3)))) (ap (bC br (dV 5) (bf (dC (.int 1))) (bf (dC (.int 3)))) (ap (dC (.str [97])) (ap (dC (.str [98])) (ap (bC br (dV 5) (bf (d1 gA (dC (.int 2)))) (bW)) (az))))))))) (Pu.aX)))))))
def vT:ad Bool:=dB (d2 (dq λi j=>decide (i<j)) (dL cf (ap (dV 5) (az))) (d2 d9 (dV 3) (dC (.int 2))))
theorem Vy:yaK a=aC (bG 4 (d2 bn (dC (.int 1)) (bp (aK (lH a) (gV (dV 0) (gO 1 (gV (dF (dL cB (ap (dC (.int 1)) (ap (dC (.int 1)) (ap (dC (.int 2)) (ap (dC (.int 2)) (ap (dC (.int 3)) (az)))))))) (Pu.aX)))))))) (aC (bG 5 (bp (aK (oS a) (gV (dV 0) (gO 1 (gV (dV 2) (gV (dC (.int 4)) (Pu.aX)))))))) (aC (λb=>dI (iC vT (vx a) 1000 b)) (cz (dL eE (ap (bC br (dV 5) (bW) (bf (dL sS (ap (dV 4) (ap (d2 d9 (dV 3) (bp (aK (jR a) (gV (dV 0) (gO 1 (gV (dC (.int 3)) (Pu.aX))))))) (az)))))) (ap (dV 4) (az))))))):=rfl
theorem Gv(c:List Int)(b:List PV)(L W:PV)(most:Nat)(z:Tx)(h:2<=most):vT [a9 c,.own (.lst b),.val L,⇑most,.val W,↥z]=.ok (decide (z.length<most-2)) [a9 c,.own (.lst b),.val L,⇑most,.val W,↥z]:=by
 have f:cf [.str z]=aa (.int (z.length:Nat)):=rfl;have d:d9 (.int most) (.int 2)=aa (.int ((most-2:Nat):Int)):=by show aa (PV.int _)=_;congr 2;omega
 have g:decide (((z.length:Nat):Int)<((most-2:Nat):Int))=decide (z.length<most-2):=by simp
 rw[<-g];generalize ((most-2:Nat):Int)=m2 at d;generalize ((z.length:Nat):Int)=zl at f;simp![vT,f,d]
theorem Q8(h:t f=.ok ag c)(g:d c=.ok .next b):iC t d (n+1) f=iC t d n b:=by rw[iC,h,R.bind_ok];simp only;rw[g]
theorem Jq(h:t c=.ok ai b):iC t d (n+1) c=.ok .next b:=by rw[iC,h,R.bind_ok]
end
end Sh
namespace K40
open L2 Pu Mx Sh
def kK:Nat->List Tx
 |0=>[[]]
 |n+1=>(kK n).flatMap λt=>[t++[97],t++[98],t++[99]]
def oO:List Tx:=kK 4++(kK 3).flatMap λz=>[z++z.take 2,z++z.drop 1,z++z]
def vO:List Tx:=kK 2++(kK 3++oO)
def qP(z:Tx):List Tx:=[z.take 2,z.take 3,Sh.part z 1 3,[97],[98],z.drop (z.length-2)]
theorem AS{z:Tx}(h:∀c∈z,c∈nU):∀n,z.length=n->z∈kK n:=by
 intro n
 induction n generalizing z with
 |zero=>intro e;rw[List.length_eq_zero_iff.mp e];exact pH.mpr rfl
 |succ n b=>
  intro e;have a:z≠[]:=λq=>by rw[q]at e;cases e
  have d:=List.dropLast_concat_getLast a;have g:=b (z:=z.dropLast) (λc f=>h c (Le (by rwa[List.dropLast_eq_take]at f))) (by simp[e]);refine List.mem_flatMap.mpr ⟨_,g,?_⟩;have:=h _ (List.getLast_mem a);rw[<-d];simp only[nU,b8,fL,or_false]at this;rcases this with e|e|e <;> rw[e] <;> simp
theorem V1:∀z∈kK 2++kK 3,∀y∈qP z,z++y∈vO:=by decide +kernel
theorem xi:∀z∈vO,(z.length<4->z∈kK 2++kK 3)/\(¬z.length<4->z∈oO):=by decide +kernel
theorem Sn:∀z∈oO,∀n∈[4,5,6],z.take n∈oO:=by decide +kernel
section
variable{a:Ad}
theorem NO(c:List Int)(b:List PV)(L M W:PV)(z:Tx)(r:z.length<=12)(s:b.length<=900):∃y∈qP z, vx a [a9 c,.own (.lst b),.val L,.val M,.val W,↥z]=.ok .next [a9 c,.own (.lst (b++[.int 0])),.val L,.val M,.val W,↥(z++y)]:=by
 obtain⟨x,o,d⟩:=Cz (a:=a) c b ((qP z).map .str) ∅ (by simp[qP]);obtain⟨y,f,rfl⟩:=cX.mp o;refine⟨y,f,?_⟩;have q:y.length<=3:=by simp only[qP,b8,fL,or_false]at f;rcases f with rfl|rfl|rfl|rfl|rfl|rfl <;> (try unfold Sh.part) <;> simp <;> lia
 simp only[qP,cN,rC]at d;have j:br (.str z) ac (aa 2)=aa (.str (z.take 2)):=ye z 2;have i:br (.str z) ac (aa 3)=aa (.str (z.take 3)):=ye z 3;have h:br (.str z) (aa 1) (aa 3)=aa (.str (Sh.part z 1 3)):=Pa z 1 3;have g:br (.str z) (aa (-2)) ac=aa (.str (z.drop (z.length-2))):=by show aa (PV.str (eB z (aa (-((2:Nat):Int))) ac))=_;rw[Ti _ _ (by decide)]
 have n:gA (.int 2)=aa (.int (-2)):=rfl;have l:bn (.str z) (.str y)=aa (.str (z++y)):=xY (by unfold ck;lia);generalize z++y=ZY at l;generalize z.take 2=Z1 at j d;generalize z.take 3=Z2 at i d;generalize Sh.part z 1 3=Z3 at h d;generalize z.drop (z.length-2)=Z4 at g d;unfold vx;generalize lH a=G at d ⊢;have m:dF (dL cB (ap (bC br (dV 5) (bW) (bf (dC (.int 2)))) (ap (bC br (dV 5) (bW) (bf (dC (.int 3)))) (ap (bC br (dV 5) (bf (dC (.int 1))) (bf (dC (.int 3)))) (ap (dC (.str [97])) (ap (dC (.str [98])) (ap (bC br (dV 5) (bf (d1 gA (dC (.int 2)))) (bW)) (az)))))))) [a9 c,.own (.lst b),.val L,.val M,.val W,↥z]=.ok (.lst [.str Z1,.str Z2,.str Z3,.str [97],.str [98],.str Z4]) [a9 c,.own (.lst b),.val L,.val M,.val W,↥z]:=by simp![bC,bf,bW,j,i,h,g,n]
 have p:bp (aK G (gV (dV 0) (gO 1 (gV (dF (dL cB (ap (bC br (dV 5) (bW) (bf (dC (.int 2)))) (ap (bC br (dV 5) (bW) (bf (dC (.int 3)))) (ap (bC br (dV 5) (bf (dC (.int 1))) (bf (dC (.int 3)))) (ap (dC (.str [97])) (ap (dC (.str [98])) (ap (bC br (dV 5) (bf (d1 gA (dC (.int 2)))) (bW)) (az))))))))) (Pu.aX))))) [a9 c,.own (.lst b),.val L,.val M,.val W,↥z]=.ok (.str y) [a9 c,.own (.lst (b++[.int 0])),.val L,.val M,.val W,↥z]:=by generalize dF (dL cB _)=D at m ⊢;simp[bp,aK,gV,gO,Pu.aX,dV,m,R.bind,aW,cU,gm,d,iL,iu,iR,JD]
 exact qT (jM (x:=.str z) rfl p l)
theorem SJ(g:List Int)(L W:PV)(m:Nat)(B:m=6):∀(k d:Nat) (b:List PV) (z:Tx),4-z.length<=k->k<d->z∈vO->b.length+k<=900 -> ∃(i:List PV) (y:Tx),y∈oO/\i.length<=b.length+k/\iC vT (vx a) d [a9 g,.own (.lst b),.val L,⇑m,.val W,↥z]=.ok .next [a9 g,.own (.lst i),.val L,⇑m,.val W,↥y]:=by
 intro k
 induction k with
 |zero=>
  intro d b z x w h r;obtain⟨f,rfl⟩:∃f,d=f+1:=⟨d-1,∅⟩
  have c:=Gv g b L W m z ∅;rw[decide_eq_false ∅]at c;exact⟨b,z,(xi z h).2 ∅,∅,Jq c⟩
 |succ k p=>
  intro d b z x w h r;obtain⟨f,rfl⟩:∃f,d=f+1:=⟨d-1,∅⟩
  have c:=Gv g b L W m z ∅;by_cases q:z.length<m-2
  .rw[decide_eq_true q]at c;obtain⟨y,l,u⟩:=NO (a:=a) g b L (.int m) W z ∅ ∅;have j:=V1 z ((xi z h).1 ∅) y l;have A:1<=y.length:=by
    have:∀z∈kK 2++kK 3,∀y∈qP z,1<=y.length:=by decide +kernel
    exact this z ((xi z h).1 ∅) y l
   obtain⟨i,v,o,n,s⟩:=p f (b++[.int 0]) (z++y) (by simp;lia) ∅ j (by simp;lia);refine⟨i,v,o,?_,(Q8 c u).trans s⟩;simp at n;lia
  .rw[decide_eq_false q]at c;exact⟨b,z,(xi z h).2 ∅,∅,Jq c⟩
end
noncomputable def gd:Nat->PV->Bool
 |_,.str _=>ag
 |_,.int _=>ag
 |n+1,.tup xs=>xs.all (gd n)
 |_,_=>ai
theorem yv{n:Nat}(h:∀x,gd n x=ag->imm x=ag/\cD x x=aa ag/\gC x<=n):∀{a:List PV},a.all (gd n)=ag->mw a=ag/\iA a a=aa ag/\iS a<=n
 |[],_=>⟨rfl,rfl,gW _⟩
 |x::a,q=>by rw[rq,iX]at q;obtain⟨f,d,i⟩:=h x q.1;obtain⟨c,b,g⟩:=yv h q.2;refine⟨by unfold mw;rw[f,c];rfl,?_,by unfold iS;lia⟩;unfold iA;dsimp only;rw[d,iZ,b];rfl
theorem CB:∀(n:Nat) (x:PV),gd n x=ag->imm x=ag/\cD x x=aa ag/\gC x<=n
 |n,.str x,_=>⟨by simp[imm],by simp[cD,dP,gf,tV],by simp[gC]⟩
 |n,.int x,_=>⟨by simp[imm],by simp[cD,dP,gf],by simp[gC]⟩
 |n+1,.tup xs,h=>by obtain⟨b,a,c⟩:=yv (CB n) (show xs.all (gd n)=ag from h);unfold imm cD gC;exact⟨b,a,∅⟩
 |0,.tup xs,h=>by cases h
 |0,.non,h|0,.bl _,h|0,.lst _,h|0,.raw _,h|0,.exc _,h=>by cases h
 |n+1,.non,h|n+1,.bl _,h|n+1,.lst _,h|n+1,.raw _,h|n+1,.exc _,h=>by cases h
def iB(n:Nat)(r:R Slot):Bool:=match r with
 |.ok (.own (.lst a)) e=>fZ e.length n&&(t9 a.length 1000&&a.all (gd 3))
 |_=>ai
structure Good3(xs:List PV):Prop where
 len:xs.length<=1000
 im:mw xs=ag
 eq:iA xs xs=aa ag
 dp:iS xs<=3
theorem qQ{n:Nat}{r:R Slot}(h:iB n r=ag):∃a e,r=.ok (.own (.lst a)) e/\e.length=n/\Good3 a:=by
 unfold iB at h;split at h
 .rename_i a e;rw[iX,iX,zN,Nat.ble_eq]at h;obtain⟨d,c,b⟩:=h;obtain⟨i,g,f⟩:=yv (CB 3) b;exact⟨a,e,rfl,d,c,i,g,f⟩
 .cases h
def bD(w:Nat)(t:Tx):PV:=.tup [.int w,.tup (a6 (b_ (gD t w)))]
def Ac(a:Ad)(v:PV):Bool:=iB 1 (qj a [.val v])&&(iB 1 (vQ a [.val v])&&(iB 1 (vC a [.val v])&&(iB 1 (uz a [.val v])&&(iB 1 (je a [.val v])&&(iB 1 (u7 a [.val v])&&(iB 1 (uT a [.val v])&&(iB 1 (uY a [.val v])&&(iB 1 (uu a [.val v])&&(iB 1 (BD a [.val v])&&iB 1 (sn a [.val (.lst [v,v])]))))))))))
def GJ(a:Ad)(w:Nat)(t:Tx):Bool:=iB 2 (zX a [↥t,⇑w])&&(iB 2 (B9 a [↥t,⇑w])&&iB 3 (Bm a [↥t,↥t,⇑w]))
def uD(a:Ad)(w:Nat)(t:Tx):Bool:=fV (bD w t) (Ac a)&&fT t (GJ a w)
section
variable{a:Ad}
theorem Kf{d1 d2:ad aG}{ε b:ah}{s:Slot}(h:d1 ε=.ok (.ret s) b):aC d1 d2 ε=.ok (.ret s) b:=by unfold aC;rw[h]
theorem Ck{c:ad Bool}{d1 d2:ad aG}{ε b:ah}{s:Slot}(h:c ε=.ok ag ε)(d:d1 ε=.ok (.ret s) b):aC (bS c d1 cm) d2 ε=.ok (.ret s) b:=Kf ((u8 h).trans d)
theorem nJ{c:ad Bool}{d1 d2:ad aG}{ε:ah}{r:R aG}(h:c ε=.ok ai ε)(b:d2 ε=r):aC (bS c d1 cm) d2 ε=r:=(gz ((u_ h).trans rfl)).trans b
theorem As{d:ad PO}{ε b:ah}{c:PO}(h:d ε=.ok c b):fO d ε=.ok (.ret (.own c)) b:=by unfold fO;rw[h];rfl
theorem Fo{d:ad Slot}{ε b:ah}{s:Slot}(h:d ε=.ok s b):iw d ε=.ok (.ret s) b:=by unfold iw;rw[h];rfl
theorem xN{d:ad Slot}{ε b:ah}{c:PO}(h:d ε=.ok (.own c) b):ie d ε=.ok c b:=by unfold ie;rw[h];rfl
theorem xI{g:ad Slot}{d:ad PV}{ε e:ah}{v:PV}{s:Slot}(h:d ε=.ok v ε)(b:g [.val v]=.ok s e)(c:e.length=1):aK g (gV d Pu.aX) ε=.ok s ε:=by obtain⟨x,rfl⟩:=List.length_eq_one_iff.mp c;simp[aK,gV,Pu.aX,h,cU,gm,b,iL,iR,iu,R.bind,aW]
theorem Ix{g:ad Slot}{d c:ad PV}{ε e:ah}{v b:PV}{s:Slot}(h:d ε=.ok v ε)(j:c ε=.ok b ε)(f:g [.val v,.val b]=.ok s e)(i:e.length=2):aK g (gV d (gV c Pu.aX)) ε=.ok s ε:=by
 match e,i with
 |[x,y],_=>simp[aK,gV,Pu.aX,h,j,cU,gm,f,iL,iR,iu,R.bind,aW]
theorem IF{g:ad Slot}{d f d2:ad PV}{ε e:ah}{v c b:PV}{s:Slot}(h:d ε=.ok v ε)(m:f ε=.ok c ε)(l:d2 ε=.ok b ε)(i:g [.val v,.val c,.val b]=.ok s e)(j:e.length=3):aK g (gV d (gV f (gV d2 Pu.aX))) ε=.ok s ε:=by
 match e,j with
 |[x,y,z],_=>simp[aK,gV,Pu.aX,h,m,l,cU,gm,i,iL,iR,iu,R.bind,aW]
theorem MX{w:Nat}{t:Tx}(Q:2<=w)(p:uD a w t=ag)(n:Nat)(S:n<14):∃b,Good3 b/\lN a [⇑n,.val (bD w t),↥t]=.ok (.own (.lst b)) [⇑n,.val (bD w t),↥t]:=by
 unfold uD Ac GJ at p;rw[fV_eq,fT_eq]at p;simp only[iX]at p;obtain⟨⟨P,O,N,M,L,J,I,H,G,F,v⟩,u,s,r⟩:=p;have z:bv (bD w t) (.int 0)=aa (.int w):=rfl;have E:dq (λi j=>decide (j<i)) (.int w) (.int 1)=aa (.bl ag):=by show aa (PV.bl (decide ((1:Int)<w)))=_;rw[decide_eq_true ∅]
 generalize bD w t=V at *
 suffices h:∃b,Good3 b/\yaH a [⇑n,.val V,↥t,.none]=.ok (.ret (.own (.lst b))) [⇑n,.val V,↥t,.none] by obtain⟨b,g,y⟩:=h;refine⟨b,g,?_⟩;unfold lN;generalize yaH a=D at y;simp[dU,kN,bg,fJ,y,back,aW,R.bind,ki]
 have m:∀{g:ad Slot}{n:Nat},n<9->fu [qj a,vQ a,vC a,uz a,je a,u7 a,uT a,uY a,uu a] (n:Int)=aa g->iB 1 (g [.val V])=ag->∃b,Good3 b/\yaH a [⇑n,.val V,↥t,.none]=.ok (.ret (.own (.lst b))) [⇑n,.val V,↥t,.none]:=λ{g n} c B A=>by obtain⟨b,e,l,f,d⟩:=qQ A;refine⟨b,d,?_⟩;unfold yaH;refine Kf ((u8 (uB (jM (x:=.int n) rfl rfl (show dq (λi j=>decide (i<j)) (.int n) (.int 9)=aa (.bl ag) by show aa (PV.bl (decide ((n:Int)<9)))=_;rw[decide_eq_true ∅])))).trans ?_);have C:aK g (gV (dV 1) Pu.aX) [⇑n,.val V,↥t,.none]=.ok (.own (.lst b)) [⇑n,.val V,↥t,.none]:=xI rfl l f;rw[asks_of (ε:=[⇑n,.val V,↥t,.none]) rfl B (a_ 4) (by decide)];show iw (aK g (gV (dV 1) Pu.aX)) [⇑n,.val V,↥t,.none]=_;unfold iw;rw[C];rfl
 have q:∀{n:Nat},¬n<9->bS (dB (d2 (dq λi j=>decide (i<j)) (dV 0) (dC (.int 9)))) (dAsks 3 0 [qj a,vQ a,vC a,uz a,je a,u7 a,uT a,uY a,uu a] (gV (dV 1) (Pu.aX))) (cm) [⇑n,.val V,↥t,.none]=.ok .next [⇑n,.val V,↥t,.none]:=λ{n} c=>(u_ (uB (jM (x:=.int n) rfl rfl (show dq (λi j=>decide (i<j)) (.int n) (.int 9)=aa (.bl ai) by show aa (PV.bl (decide ((n:Int)<9)))=_;rw[decide_eq_false ∅])))).trans rfl;have o:∀{n:Nat},d2 bv (dV 1) (dC (.int 0)) [⇑n,.val V,↥t,.none]=.ok (.int w) [⇑n,.val V,↥t,.none]:=jM (x:=V) rfl rfl z;by_cases c:n<9
 .obtain rfl|rfl|rfl|rfl|rfl|rfl|rfl|rfl|rfl:n=0\/n=1\/n=2\/n=3\/n=4\/n=5\/n=6\/n=7\/n=8:=∅
  .exact m c rfl P
  .exact m c rfl O
  .exact m c rfl N
  .exact m c rfl M
  .exact m c rfl L
  .exact m c rfl J
  .exact m c rfl I
  .exact m c rfl H
  .exact m c rfl G
 .unfold yaH;simp only[gz (q c)];obtain rfl|rfl|rfl|rfl|rfl:n=9\/n=10\/n=11\/n=12\/n=13:=∅
  .obtain⟨b,e,l,f,d⟩:=qQ F;exact⟨b,d,Ck rfl (As ((u8 (uB (jM o rfl E))).trans (xN (xI rfl l f))))⟩
  .obtain⟨b,e,l,f,d⟩:=qQ v;exact⟨b,d,nJ rfl (Ck rfl (Fo (xI rfl l f)))⟩
  .obtain⟨b,e,l,f,d⟩:=qQ u;exact⟨b,d,nJ rfl (nJ rfl (Ck rfl (Fo (Ix rfl o l f))))⟩
  .obtain⟨b,e,l,f,d⟩:=qQ s;exact⟨b,d,nJ rfl (nJ rfl (nJ rfl (As ((u8 rfl).trans (xN (Ix rfl o l f))))))⟩
  .obtain⟨b,e,l,f,d⟩:=qQ r;exact⟨b,d,nJ rfl (nJ rfl (nJ rfl (As ((u_ rfl).trans (xN (IF rfl rfl o l f))))))⟩
theorem VW(ns:List Int)(g:List PV)(l m:Nat)(T:l=2)(H:m=6)(W:g.length<=400):∃(t:Tx) (w:Nat) (ys:List PV),t∈oO/\2<=w/\w<=4/\ys.length<=500 /\ qh a [a9 ns,.own (.lst g),⇑l,⇑m]=.ok (.val (.tup [.str t,.int w])) [a9 ns,.own (.lst ys),⇑l,⇑m]:=by
 obtain⟨f,B,A⟩:=Cz (a:=a) ns g [.int 1,.int 1,.int 2,.int 2,.int 3] ∅ (by decide);obtain⟨b,rfl,Y,X⟩:∃b:Nat,f=.int b/\1<=b/\b<=3:=by
  simp only[b8,fL,or_false]at B;rcases B with rfl|rfl|rfl|rfl|rfl
  .exact⟨1,rfl,by decide,by decide⟩
  .exact⟨1,rfl,by decide,by decide⟩
  .exact⟨2,rfl,by decide,by decide⟩
  .exact⟨2,rfl,by decide,by decide⟩
  .exact⟨3,rfl,by decide,by decide⟩
 obtain⟨z,p,O,N,c,s,L⟩:=R0 (a:=a) ns (g++[.int 0]) l 4 ∅ (by decide) (by simp;lia);simp only[lX,List.length_singleton]at s;have E:z∈vO:=by
  unfold vO;obtain e|e|e:z.length=2\/z.length=3\/z.length=4:=∅
  .exact y9 _ (AS c 2 e)
  .exact lq _ (y9 _ (AS c 3 e))
  .exact lq _ (lq _ (y9 _ (AS c 4 e)))
 obtain⟨o,h,M,P,y⟩:=SJ (a:=a) ns (.int l) (.int ((b+1:Nat):Int)) m H 4 1000 p z ∅ ∅ E ∅;obtain⟨v,S,Q,u⟩:=vM (a:=a) ns o 3 (by decide) ∅;obtain⟨d,rfl⟩:∃d:Nat,v=d:=⟨v.toNat,∅⟩
 obtain⟨n,j,F⟩:∃n:Nat,sS [.int ((b+1:Nat):Int),.int ((m:Int)-d)]=aa (.int n)/\n∈[4,5,6]:=by
  refine⟨6-d,?_,?_⟩
  .show aa (PV.int (if((m:Int)-d) > ((b+1:Nat):Int)then((m:Int)-d)else((b+1:Nat):Int)))=_
   grind
  .obtain rfl|rfl|rfl:d=0\/d=1\/d=2:=∅
   all_goals decide
 refine⟨h.take n,b+1,o++[.int 0],Sn h M n F,∅,∅,by simp;lia,?_⟩;have x:bn (.int 1) (.int b)=aa (.int ((b+1:Nat):Int)):=by show aa (PV.int _)=_;congr 2;lia
 have r:d9 (.int m) (.int d)=aa (.int ((m:Int)-d)):=rfl;have q:=ye h n;have C:yaK a [a9 ns,.own (.lst g),⇑l,⇑m,.none,.none]=.ok (.ret (.val (.tup [.str (h.take n),.int ((b+1:Nat):Int)]))) [a9 ns,.own (.lst (o++[.int 0])),⇑l,⇑m,⇑((b+1:Nat):Int),↥h]:=by
  rw[Vy];generalize (m:Int)-d=md at j r;generalize ((d:Nat):Int)=di at u r;generalize ((b+1:Nat):Int)=wi at j x y ⊢;generalize h.take n=ZN at q ⊢;generalize ((n:Nat):Int)=ni at j q;have J:bG 4 (d2 bn (dC (.int 1)) (bp (aK (lH a) (gV (dV 0) (gO 1 (gV (dF (dL cB (ap (dC (.int 1)) (ap (dC (.int 1)) (ap (dC (.int 2)) (ap (dC (.int 2)) (ap (dC (.int 3)) (az)))))))) (Pu.aX))))))) [a9 ns,.own (.lst g),⇑l,⇑m,.none,.none]=.ok .next [a9 ns,.own (.lst (g++[.int 0])),⇑l,⇑m,⇑wi,.none]:=by generalize lH a=G at A ⊢;simp![A,x]
  have I:bG 5 (bp (aK (oS a) (gV (dV 0) (gO 1 (gV (dV 2) (gV (dC (.int 4)) (Pu.aX))))))) [a9 ns,.own (.lst (g++[.int 0])),⇑l,⇑m,⇑wi,.none]=.ok .next [a9 ns,.own (.lst p),⇑l,⇑m,⇑wi,↥z]:=by have i:oS a [a9 ns,.own (.lst (g++[.int 0])),⇑l,⇑4]=.ok (↥z) [a9 ns,.own (.lst p),⇑l,⇑4]:=L;generalize oS a=G at i ⊢;simp![i]
  refine(gz J).trans ?_;refine(gz I).trans ?_;refine(gz (d1:=λε=>dI (iC vT (vx a) 1000 ε)) (by show dI _=_;rw[y];rfl)).trans ?_;generalize jR a=G at u ⊢;simp![u,r,j,bC,bf,bW,q]
 unfold qh;generalize yaK a=D at C;simp[dU,kN,bg,fJ,C,back,aW,R.bind,ki]
end
def a0:Ad:=⟨0,0,0,0,0,0,0,0,0,0,0,0,0,0⟩
def yS(w i:Nat):Bool:=uD a0 w (oO.getD i [])
set_option maxHeartbeats 0 in
theorem M0:∀i<162,yS 2 i=ag:=by
 iterate 162 refine Nat.forall_lt_succ_right.mpr ⟨?_,by decide +kernel⟩
 exact λ_ h=>absurd h (l9 _)
set_option maxHeartbeats 0 in
theorem T6:∀i<162,yS 3 i=ag:=by
 iterate 162 refine Nat.forall_lt_succ_right.mpr ⟨?_,by decide +kernel⟩
 exact λ_ h=>absurd h (l9 _)
theorem Pz{w:Nat}(c:w=2\/w=3){t:Tx}(d:t∈oO):uD a0 w t=ag:=by
 have f:oO.length=162:=by decide +kernel
 obtain⟨n,a,rfl⟩:=tX d;have b:yS w n=ag:=by
  rw[f]at a;rcases c with rfl|rfl
  .exact M0 n a
  .exact T6 n a
 unfold yS at b;rwa[KZ,eh a]at b
section
variable{a:Ad}
theorem Ja{t:Tx}{w:Nat}(b:1<=w):gD t w=(ce (t.length+1-w)).map λi=>(t.drop i).take w:=by unfold gD;rw[HY,Lj ∅]
theorem UK{ε:ah}{t:Tx}{w:Nat}(f:ε[3]?=aa (↥t))(d:ε[4]?=aa (⇑w))(g:1<=w):mD [3,4] fR (bC br (dV 1) (bf (dV 0)) (bf (d2 bn (dV 0) (dV 2)))) (iM 0 (t.length+1-w)) [] ε=.ok (a6 (gD t w)) ε:=by
 have j:=AR (cap:=[3,4]) (dt:=fR) (de:=(bC br (dV 1) (bf (dV 0)) (bf (d2 bn (dV 0) (dV 2))))) (ε:=ε) (λ_=>ag) (λx=>match x with|.int i=>.str (eB t (aa i) (aa (i+w)))|_=>.non) (iM 0 (t.length+1-w))
  (by
   intro x b;simp only[iM,cX]at b;obtain⟨i,c,rfl⟩:=b;refine⟨?_,λh=>?_⟩
   .simp![lK,jH,jK,f,d,fR]
   .simp![lK,jH,jK,f,d,bn,bC,bf,br]) []
 rw[j,Eu,Em.mpr (by simp),Ja g];congr 1;unfold iM a6;rw[fg,fg];refine zq λi c=>?_;have:=ph.mp c;simp only[wd,Int.zero_add];rw[QG ∅]
theorem N7:∀t∈oO,4<=t.length/\t.length<=6:=by decide +kernel
def lB(a:Ad):ad aG:=aC (bG 9 (d2 fQ (d2 bn (dV 2) (d2 jO (dC (.int 5)) (dV 8))) (dC (.int 14))))
 (aC (dw 10 (ie (aK (lN a) (gV (dV 9) (gV (dV 5) (gV (dV 3) (Pu.aX)))))))
 (aC (bG 11 (dF (jN (λb=>nK (kj b)) 10)))
 (aC (kQ 10 (dC (.str [99,104,97,110,103,101,100])))
 (aC (bS (dB (d2 (eqT ai) (d2 fQ (dV 9) (dC (.int 2))) (dC (.int 0)))) (vG 10 (dC (.int 0)) (dC .non)) (cm))
 (aC (bG 12 (bp (aK (lN a) (gV (dV 9) (gV (dV 5) (gV (dV 3) (Pu.aX)))))))
 (bS (nn (dB (d2 (eqT ag) (dV 12) (dV 11))) (jd (dB (d1 (isiF 4) (dV 12))))) (cz (dC (.bl ai))) (cm)))))))
theorem eq_self{b:List PV}(g:Good3 b)(c:Bool):eqT c (.lst b) (.lst b)=aa (.bl (c^^ag)):=by
 unfold Pu.eqT;show(if gC (.lst b)<=8 then(cD (.lst b) (.lst b)).map λk=>PV.bl (c^^k)else ac)=_;have f:gC (.lst b)<=8:=by unfold gC;have:=g.dp;lia
 have d:cD (.lst b) (.lst b)=aa ag:=by unfold cD;exact g.eq
 rw[if_pos f,d];rfl
theorem MT{ns:List Int}{ys:List PV}{o:Nat}{t:Tx}{V VS KP W r9 r10 r11 r12:Slot}{v:PV}(B:V=.val v)(E:∀n:Nat,n<14->∃d,Good3 d/\lN a [⇑n,.val v,↥t]=.ok (.own (.lst d)) [⇑n,.val v,↥t])(k:Nat):∃s8 i b s11 s12,lB a [a9 ns,.own (.lst ys),⇑o,↥t,W,V,VS,KP,⇑k,r9,r10,r11,r12]=.ok .next [a9 ns,.own (.lst ys),⇑o,↥t,W,V,VS,KP,s8,i,b,s11,s12]:=by
 subst B;obtain⟨n,A,f⟩:∃n:Nat,n<14/\((o:Int)+5*k) % 14=n:=⟨(o+5*k) % 14,∅,∅⟩
 obtain⟨d,j,z⟩:=E n A;have y:fQ (.int ((o:Int)+5*k)) (.int 14)=aa (.int n):=by show(if(0:Int)<14 then aa (PV.int (((o:Int)+5*k) % 14))else ac)=_;rw[f];rfl
 have c:∀{s8 b s11 s12:Slot},aK (lN a) (gV (dV 9) (gV (dV 5) (gV (dV 3) (Pu.aX)))) [a9 ns,.own (.lst ys),⇑o,↥t,W,.val v,VS,KP,s8,⇑n,b,s11,s12]=.ok (.own (.lst d)) [a9 ns,.own (.lst ys),⇑o,↥t,W,.val v,VS,KP,s8,⇑n,b,s11,s12]:=IF rfl rfl rfl z rfl;have F:=j.len;have x:∀{s8 i b s11 s12:Slot},s8=⇑k->bG 9 (d2 fQ (d2 bn (dV 2) (d2 jO (dC (.int 5)) (dV 8))) (dC (.int 14))) [a9 ns,.own (.lst ys),⇑o,↥t,W,.val v,VS,KP,s8,i,b,s11,s12]=.ok .next [a9 ns,.own (.lst ys),⇑o,↥t,W,.val v,VS,KP,s8,⇑n,b,s11,s12]:=λe=>by subst e;exact qT (jM (jM rfl (jM rfl rfl rfl) rfl) rfl y)
 have w:∀{s8 b s11 s12:Slot},dw 10 (ie (aK (lN a) (gV (dV 9) (gV (dV 5) (gV (dV 3) (Pu.aX)))))) [a9 ns,.own (.lst ys),⇑o,↥t,W,.val v,VS,KP,s8,⇑n,b,s11,s12]=.ok .next [a9 ns,.own (.lst ys),⇑o,↥t,W,.val v,VS,KP,s8,⇑n,.own (.lst d),s11,s12]:=by intro s8 b s11 s12;unfold dw;rw[xN c];rfl
 have u:∀{s8 s11 s12:Slot},bG 11 (dF (jN (λd=>nK (kj d)) 10)) [a9 ns,.own (.lst ys),⇑o,↥t,W,.val v,VS,KP,s8,⇑n,.own (.lst d),s11,s12]=.ok .next [a9 ns,.own (.lst ys),⇑o,↥t,W,.val v,VS,KP,s8,⇑n,.own (.lst d),.val (.lst d),s12]:=by intro s8 s11 s12;simp[dF,jN,eQ,R.bind,aW,kj,nK,Jc,j.im,AL,bG]
 have s:∀{s8 s11 s12:Slot},kQ 10 (dC (.str [99,104,97,110,103,101,100])) [a9 ns,.own (.lst ys),⇑o,↥t,W,.val v,VS,KP,s8,⇑n,.own (.lst d),s11,s12]=.ok .next [a9 ns,.own (.lst ys),⇑o,↥t,W,.val v,VS,KP,s8,⇑n,.own (.lst (d++[.str [99,104,97,110,103,101,100]])),s11,s12]:=by
  intro s8 s11 s12;have:d.length<ck:=by unfold ck;lia
  simp[kQ,eQ,R.bind,aW,dC,this]
 have r:∀{s8 s11 s12:Slot},∃l,bS (dB (d2 (eqT ai) (d2 fQ (dV 9) (dC (.int 2))) (dC (.int 0)))) (vG 10 (dC (.int 0)) (dC .non)) (cm) [a9 ns,.own (.lst ys),⇑o,↥t,W,.val v,VS,KP,s8,⇑n,.own (.lst (d++[.str [99,104,97,110,103,101,100]])),s11,s12]=.ok .next [a9 ns,.own (.lst ys),⇑o,↥t,W,.val v,VS,KP,s8,⇑n,.own (.lst l),s11,s12]:=by
  intro s8 s11 s12;have g:dB (d2 (eqT ai) (d2 fQ (dV 9) (dC (.int 2))) (dC (.int 0))) [a9 ns,.own (.lst ys),⇑o,↥t,W,.val v,VS,KP,s8,⇑n,.own (.lst (d++[.str [99,104,97,110,103,101,100]])),s11,s12]=.ok (decide ((n:Int) % 2=0)) [a9 ns,.own (.lst ys),⇑o,↥t,W,.val v,VS,KP,s8,⇑n,.own (.lst (d++[.str [99,104,97,110,103,101,100]])),s11,s12]:=by refine uB (jM (jM rfl rfl (show fQ (.int n) (.int 2)=aa (.int ((n:Int) % 2))from rfl)) rfl ?_);rw[RS,Bool.false_xor]
  by_cases h:(n:Int) % 2=0
  .rw[decide_eq_true h]at g;refine⟨(d++[PV.str [99,104,97,110,103,101,100]]).set 0 .non,(u8 g).trans ?_⟩;have m:kh (d++[PV.str [99,104,97,110,103,101,100]]).length 0=aa 0:=UN (v:=0) (by decide) (by simp);generalize d++[PV.str [99,104,97,110,103,101,100]]=ZS at m ⊢;simp[vG,eQ,R.bind,aW,dC,m]
  .rw[decide_eq_false h]at g;exact⟨_,(u_ g).trans rfl⟩
 have q:∀{s8 b s11 s12:Slot},bG 12 (bp (aK (lN a) (gV (dV 9) (gV (dV 5) (gV (dV 3) (Pu.aX)))))) [a9 ns,.own (.lst ys),⇑o,↥t,W,.val v,VS,KP,s8,⇑n,b,s11,s12]=.ok .next [a9 ns,.own (.lst ys),⇑o,↥t,W,.val v,VS,KP,s8,⇑n,b,s11,.val (.lst d)]:=qT (VM c);have p:∀{s8 b:Slot},bS (nn (dB (d2 (eqT ag) (dV 12) (dV 11))) (jd (dB (d1 (isiF 4) (dV 12))))) (cz (dC (.bl ai))) (cm) [a9 ns,.own (.lst ys),⇑o,↥t,W,.val v,VS,KP,s8,⇑n,b,.val (.lst d),.val (.lst d)]=.ok .next [a9 ns,.own (.lst ys),⇑o,↥t,W,.val v,VS,KP,s8,⇑n,b,.val (.lst d),.val (.lst d)]:=by intro s8 b;have e:=eq_self j ag;refine(u_ ?_).trans rfl;have D:dB (d2 (eqT ag) (dV 12) (dV 11)) [a9 ns,.own (.lst ys),⇑o,↥t,W,.val v,VS,KP,s8,⇑n,b,.val (.lst d),.val (.lst d)]=.ok ai [a9 ns,.own (.lst ys),⇑o,↥t,W,.val v,VS,KP,s8,⇑n,b,.val (.lst d),.val (.lst d)]:=uB (jM rfl rfl e);unfold nn;rw[D];rfl
 obtain⟨l,C⟩:=r (s8:=⇑k) (s11:=.val (.lst d)) (s12:=r12);exact⟨_,_,_,_,_,(gz (x rfl)).trans ((gz w).trans ((gz u).trans ((gz s).trans ((gz C).trans ((gz q).trans p)))))⟩
theorem SA{d:ad PV}{ε b:ah}{x:PV}(h:d ε=.ok x b):cz d ε=.ok (.ret (.val x)) b:=by unfold cz;rw[h];rfl
theorem Rv{w:Nat}{b:List PV}(e:iA b b=aa ag)(d:iS b<=0):eqT ai (.lst [.lst b,.lst [.tup [.int w,.tup b],.tup [.int w,.tup b]]]) (.lst [.lst b,.lst [.tup [.int w,.tup b],.tup [.int w,.tup b]]])=aa (.bl ag):=by
 have h:iS b=0:=∅
 have c:cD (.tup [.int w,.tup b]) (.tup [.int w,.tup b])=aa ag:=by simp[cD,iA,e,dP,gf]
 have g:gC (.lst [.lst b,.lst [.tup [.int w,.tup b],.tup [.int w,.tup b]]])<=8:=by simp[gC,iS,h]
 have f:cD (.lst [.lst b,.lst [.tup [.int w,.tup b],.tup [.int w,.tup b]]]) (.lst [.lst b,.lst [.tup [.int w,.tup b],.tup [.int w,.tup b]]])=aa ag:=by generalize PV.tup [.int w,.tup b]=V at c;simp[cD,iA,e,c]
 show(if gC _<=8 then(cD _ _).map λk=>PV.bl (ai^^k)else ac)=_;rw[if_pos g,f];rfl
theorem QM(ns:List Int):ux a0 [a9 ns]=.ok (.val (.bl ag)) [a9 ns]:=by
 obtain⟨v,v0,v1,E⟩:=vM (a:=a0) ns [] 14 (by decide) (by simp);obtain⟨o,rfl⟩:∃o:Nat,v=o:=⟨v.toNat,∅⟩
 obtain⟨t,l,ys,M,w2,w4,L,hl⟩:=VW (a:=a0) ns ([]++[.int 0]) 2 6 rfl rfl (by simp);obtain⟨l4,l6⟩:=N7 t M;obtain⟨w,hw,S⟩:∃w:Nat,(w=2\/w=3)/\uk [.int l,.int 3]=aa (.int w):=by refine⟨min l 3,∅,?_⟩;show aa (PV.int (if(3:Int)<l then 3 else l))=_;congr 2;split <;> lia
 have p:=Pz hw M;have EX:=λn hn=>MX (a:=a0) ∅ p n hn;have F:iB 1 (sn a0 [.val (.lst [bD w t,bD w t])])=ag:=by unfold uD Ac at p;rw[fV_eq]at p;simp only[iX]at p;exact p.1.2.2.2.2.2.2.2.2.2.2
 obtain⟨bx,be,T,oM,_⟩:=qQ F;have P:qh a0 [a9 ns,.own (.lst [.int 0]),⇑2,⇑6]=.ok (.val (.tup [.str t,.int l])) [a9 ns,.own (.lst ys),⇑2,⇑6]:=hl;have J:jR a0 [a9 ns,.own (.lst []),⇑14]=.ok (⇑o) [a9 ns,.own (.lst [.int 0]),⇑14]:=E;have H:((a6 (b_ (gD t w))).all (gd 0))=ag:=by rw[tW];intro x m;obtain⟨z,_,rfl⟩:=cX.mp m;rfl
 obtain⟨_,gq,gp⟩:=yv (CB 0) H;have C:(gD t w).length<64:=by rw[Ja ∅];simp;lia
 have k1:dw 1 (dL cB az) [a9 ns,.none,.none,.none,.none,.none,.none,.none,.none,.none,.none,.none,.none]=.ok .next [a9 ns,.own (.lst []),.none,.none,.none,.none,.none,.none,.none,.none,.none,.none,.none]:=VF (by simp);have k2:bG 2 (bp (aK (jR a0) (gV (dV 0) (gO 1 (gV (dC (.int 14)) (Pu.aX)))))) [a9 ns,.own (.lst []),.none,.none,.none,.none,.none,.none,.none,.none,.none,.none,.none]=.ok .next [a9 ns,.own (.lst [.int 0]),⇑o,.none,.none,.none,.none,.none,.none,.none,.none,.none,.none]:=by generalize jR a0=G at J ⊢;simp![J]
 have k3:yj 3 4 (bp (aK (qh a0) (gV (dV 0) (gO 1 (gV (dC (.int 2)) (gV (dC (.int 6)) (Pu.aX))))))) [a9 ns,.own (.lst [.int 0]),⇑o,.none,.none,.none,.none,.none,.none,.none,.none,.none,.none]=.ok .next [a9 ns,.own (.lst ys),⇑o,↥t,⇑l,.none,.none,.none,.none,.none,.none,.none,.none]:=by generalize qh a0=G at P ⊢;simp![yj,P]
 have k4:bG 4 (dL uk (ap (dV 4) (ap (dC (.int 3)) (az)))) [a9 ns,.own (.lst ys),⇑o,↥t,⇑l,.none,.none,.none,.none,.none,.none,.none,.none]=.ok .next [a9 ns,.own (.lst ys),⇑o,↥t,⇑w,.none,.none,.none,.none,.none,.none,.none,.none]:=qT (qO (nD rfl (nD rfl rfl)) S);have k5:bG 3 (bC br (dV 3) (bW) (bf (d2 bn (dV 4) (dC (.int 5))))) [a9 ns,.own (.lst ys),⇑o,↥t,⇑w,.none,.none,.none,.none,.none,.none,.none,.none]=.ok .next [a9 ns,.own (.lst ys),⇑o,↥t,⇑w,.none,.none,.none,.none,.none,.none,.none,.none]:=by have q:=ye t (w+5);rw[oa ∅,show((w+5:Nat):Int)=(w:Int)+5 by lia]at q;have O:bn (.int w) (.int 5)=aa (.int ((w:Int)+5)):=rfl;generalize (w:Int)+5=w5 at q O;simp![bC,bW,bf,O,q]
 have k6:bG 5 (dL eE (ap (dV 4) (ap (dL qD (ap (dF (dL kW (ap (dF (eD [3,4] (dL iz (ap (d2 bn (d2 d9 (dL cf (ap (dV 3) (az))) (dV 4)) (dC (.int 1))) (az))) (fR) (bC br (dV 1) (bf (dV 0)) (bf (d2 bn (dV 0) (dV 2)))))) (az)))) (az))) (az)))) [a9 ns,.own (.lst ys),⇑o,↥t,⇑w,.none,.none,.none,.none,.none,.none,.none,.none]=.ok .next [a9 ns,.own (.lst ys),⇑o,↥t,⇑w,.val (bD w t),.none,.none,.none,.none,.none,.none,.none]:=by
  have bo:bn (.int ((t.length:Int)-w)) (.int 1)=aa (.int ((t.length+1-w:Nat):Int)):=by show aa (PV.int _)=_;congr 2;lia
  have hr:dL iz (ap (d2 bn (d2 d9 (dL cf (ap (dV 3) (az))) (dV 4)) (dC (.int 1))) (az)) [a9 ns,.own (.lst ys),⇑o,↥t,⇑w,.none,.none,.none,.none,.none,.none,.none,.none]=.ok (iM 0 (t.length+1-w)) [a9 ns,.own (.lst ys),⇑o,↥t,⇑w,.none,.none,.none,.none,.none,.none,.none,.none]:=qO (f:=iz) (nD (jM (jM (qO (f:=cf) (nD (d:=dV 3) (ε:=[a9 ns,.own (.lst ys),⇑o,↥t,⇑w,.none,.none,.none,.none,.none,.none,.none,.none]) rfl sB) rfl) (db:=dV 4) rfl (show d9 (.int t.length) (.int w)=aa (.int ((t.length:Int)-w))from rfl)) rfl bo) sB) (IU ∅);have hc:dF (eD [3,4] (dL iz (ap (d2 bn (d2 d9 (dL cf (ap (dV 3) (az))) (dV 4)) (dC (.int 1))) (az))) (fR) (bC br (dV 1) (bf (dV 0)) (bf (d2 bn (dV 0) (dV 2))))) [a9 ns,.own (.lst ys),⇑o,↥t,⇑w,.none,.none,.none,.none,.none,.none,.none,.none]=.ok (.lst (a6 (gD t w))) [a9 ns,.own (.lst ys),⇑o,↥t,⇑w,.none,.none,.none,.none,.none,.none,.none,.none]:=by unfold dF eD;rw[hr,R.bind_ok,UK rfl rfl ∅];rfl
  have q:kW [.lst (a6 (gD t w))]=aa (.lst (a6 (b_ (gD t w)))):=by show(dS (a6 _)).bind _=_;rw[FU,iZ,if_pos C]
  have hS:dF (dL kW (ap (dF (eD [3,4] (dL iz (ap (d2 bn (d2 d9 (dL cf (ap (dV 3) (az))) (dV 4)) (dC (.int 1))) (az))) (fR) (bC br (dV 1) (bf (dV 0)) (bf (d2 bn (dV 0) (dV 2)))))) (az))) [a9 ns,.own (.lst ys),⇑o,↥t,⇑w,.none,.none,.none,.none,.none,.none,.none,.none]=.ok (.lst (a6 (b_ (gD t w)))) [a9 ns,.own (.lst ys),⇑o,↥t,⇑w,.none,.none,.none,.none,.none,.none,.none,.none]:=by show R.bind (dL kW (ap _ az) _) (λpo s=>aW (AL po) s)=_;rw[qO (nD hc sB) q];rfl
  exact qT (qO (nD rfl (nD (qO (nD hS sB) rfl) sB)) rfl)
 have k7:bG 6 (dF (dL cB (ap (dV 5) (ap (dV 5) (az))))) [a9 ns,.own (.lst ys),⇑o,↥t,⇑w,.val (bD w t),.none,.none,.none,.none,.none,.none,.none]=.ok .next [a9 ns,.own (.lst ys),⇑o,↥t,⇑w,.val (bD w t),.val (.lst [bD w t,bD w t]),.none,.none,.none,.none,.none,.none]:=qT rfl;have k8:bG 7 (dF (dL cB (ap (dF (dL kj (ap (d2 bv (dV 5) (dC (.int 1))) (az)))) (ap (dF (dL kj (ap (dV 6) (az)))) (az))))) [a9 ns,.own (.lst ys),⇑o,↥t,⇑w,.val (bD w t),.val (.lst [bD w t,bD w t]),.none,.none,.none,.none,.none,.none]=.ok .next [a9 ns,.own (.lst ys),⇑o,↥t,⇑w,.val (bD w t),.val (.lst [bD w t,bD w t]),.val (.lst [.lst (a6 (b_ (gD t w))),.lst [bD w t,bD w t]]),.none,.none,.none,.none,.none]:=qT rfl;obtain⟨Q,k9,_,j,h,g,c,b,rfl⟩:=vK (i:=8) (db:=lB a0) (I:=λr ε=>(∀x∈r,∃k:Nat,x=.int k)/\∃j h g c b,ε=[a9 ns,.own (.lst ys),⇑o,↥t,⇑w,.val (bD w t),.val (.lst [bD w t,bD w t]),.val (.lst [.lst (a6 (b_ (gD t w))),.lst [bD w t,bD w t]]),j,h,g,c,b])
  (by rintro x r ε ⟨m,j,h,g,c,b,rfl⟩;obtain⟨k,rfl⟩:=m _ ii;obtain⟨q8,q9,Z,Y,X,hq⟩:=MT (a:=a0) (ns:=ns) (ys:=ys) (o:=o) (t:=t) (VS:=.val (.lst [bD w t,bD w t])) (KP:=.val (.lst [.lst (a6 (b_ (gD t w))),.lst [bD w t,bD w t]])) (W:=⇑w) (r9:=h) (r10:=g) (r11:=c) (r12:=b) rfl EX k;exact⟨_,hq,λy L=>m y (gr _ L),_,_,_,_,_,rfl⟩)
  (iM 0 14) [a9 ns,.own (.lst ys),⇑o,↥t,⇑w,.val (bD w t),.val (.lst [bD w t,bD w t]),.val (.lst [.lst (a6 (b_ (gD t w))),.lst [bD w t,bD w t]]),.none,.none,.none,.none,.none] ⟨λx m=>by obtain⟨k,_,rfl⟩:=cX.mp m;exact⟨k,by rw[Int.zero_add]⟩,_,_,_,_,_,rfl⟩
 have u:(λε=>dI (dv 8 (dL iz (ap (dC (.int 14)) (az))) (lB a0) ε)) [a9 ns,.own (.lst ys),⇑o,↥t,⇑w,.val (bD w t),.val (.lst [bD w t,bD w t]),.val (.lst [.lst (a6 (b_ (gD t w))),.lst [bD w t,bD w t]]),.none,.none,.none,.none,.none]=.ok .next [a9 ns,.own (.lst ys),⇑o,↥t,⇑w,.val (bD w t),.val (.lst [bD w t,bD w t]),.val (.lst [.lst (a6 (b_ (gD t w))),.lst [bD w t,bD w t]]),j,h,g,c,b]:=by show dI (dv 8 _ (lB a0) _)=_;unfold dv;rw[qO (f:=iz) (nD (RO (.int 14) _) sB) (show iz [.int 14]=aa (iM 0 14)from rfl),R.bind_ok,k9];rfl
 have B:fW (aK (sn a0) (gV (dV 6) (Pu.aX))) [a9 ns,.own (.lst ys),⇑o,↥t,⇑w,.val (bD w t),.val (.lst [bD w t,bD w t]),.val (.lst [.lst (a6 (b_ (gD t w))),.lst [bD w t,bD w t]]),j,h,g,c,b]=.ok .next [a9 ns,.own (.lst ys),⇑o,↥t,⇑w,.val (bD w t),.val (.lst [bD w t,bD w t]),.val (.lst [.lst (a6 (b_ (gD t w))),.lst [bD w t,bD w t]]),j,h,g,c,b]:=by unfold fW;rw[xI (d:=dV 6) rfl T oM];rfl
 have A:cz (d2 (eqT ai) (dF (dL cB (ap (dF (dL kj (ap (d2 bv (dV 5) (dC (.int 1))) (az)))) (ap (dV 6) (az))))) (dV 7)) [a9 ns,.own (.lst ys),⇑o,↥t,⇑w,.val (bD w t),.val (.lst [bD w t,bD w t]),.val (.lst [.lst (a6 (b_ (gD t w))),.lst [bD w t,bD w t]]),j,h,g,c,b]=.ok (.ret (.val (.bl ag))) [a9 ns,.own (.lst ys),⇑o,↥t,⇑w,.val (bD w t),.val (.lst [bD w t,bD w t]),.val (.lst [.lst (a6 (b_ (gD t w))),.lst [bD w t,bD w t]]),j,h,g,c,b]:=by refine SA (jM rfl rfl (Rv gq gp))
 have N:yaG a0 [a9 ns,.none,.none,.none,.none,.none,.none,.none,.none,.none,.none,.none,.none]=.ok (.ret (.val (.bl ag))) [a9 ns,.own (.lst ys),⇑o,↥t,⇑w,.val (bD w t),.val (.lst [bD w t,bD w t]),.val (.lst [.lst (a6 (b_ (gD t w))),.lst [bD w t,bD w t]]),j,h,g,c,b]:=by unfold yaG;exact(gz k1).trans ((gz k2).trans ((gz k3).trans ((gz k4).trans ((gz k5).trans ((gz k6).trans ((gz k7).trans ((gz k8).trans ((gz u).trans ((gz B).trans A)))))))))
 unfold ux;generalize yaG a0=D at N;simp[dU,kN,bg,fJ,N,back,aW,R.bind,ki]
end
open L2 Pu Sh
section
variable{K:aw}{h a:ax}{g:Str->Option af}
structure Top(K:aw):Prop where
 yaw:bJ K "has_only" AY
 yaC:bJ K "is_whole_number" A5
 yaz:bJ K "is_text_up_to" CI
 yaD:bJ K "is_width" Dq
 yaE:bJ K "is_window" CD
 yac:bJ K "are_windows" A8
 yaB:bJ K "is_view_with" Cs
 yaA:bJ K "is_view" BZ
 yax:bJ K "is_blurred_view" Cb
 yaj:bJ K "check_text" Dd
 yal:bJ K "check_width" Dv
 yak:bJ K "check_view" Ds
 yah:bJ K "check_blurred_view" C5
 yaU:bJ K "pieces" Br
 ya7:bJ K "view_of" AV
 ya0:bJ K "text_view" AZ
 ya6:bJ K "unrolled" B6
 ya9:bJ K "windows_that_fit" A1
 ya3:bJ K "turned" Dj
 yao:bJ K "counted" AH
 yaa:bJ K "add_endings" Bg
 ya1:bJ K "texts" Df
 yaW:bJ K "rings" B0
 ya5:bJ K "twins" CT
 yaQ:bJ K "narrower" At
 ya8:bJ K "wider" B7
 yaf:bJ K "by_all" z6
 yap:bJ K "excesses" Ag
 yaV:bJ K "reached_pieces" AE
 yav:bJ K "find_bar" xW
 yad:bJ K "bar" Dn
 yan:bJ K "clearing_views" Af
 yam:bJ K "cleared" BB
 ya2:bJ K "through" BR
 yay:bJ K "is_in_all" Bv
 yaY:bJ K "seen" BI
 yas:bJ K "exchanges_from" Bw
 yar:bJ K "exchanges" Bc
 ya4:bJ K "turns" CS
 yaR:bJ K "one_step_off" Dh
 yaq:bJ K "exchanged" CY
 yag:bJ K "check_alike" AU
 yaX:bJ K "road" Dl
 yab:bJ K "added_letters" Bi
 yba:bJ K "without" CP
 yaO:bJ K "least_ending" Bh
 yaZ:bJ K "shortest" Cq
 yaF:bJ K "lacking" CG
 yai:bJ K "check_shared_view" BO
 yaT:bJ K "partings" zZ
 yaS:bJ K "pairs" AJ
 yat:bJ K "fewest_for" yn
 yau:bJ K "fewest_texts" BP
 yaP:bJ K "least_list" Dm
 yae:bJ K "bundle" Ay
 yaI:bJ K "_law_cell_at" Ar
 yaL:bJ K "_law_mixed" z_
 yaJ:bJ K "_law_draw" BH
 yaM:bJ K "_law_pick" C0
 yaN:bJ K "_law_text" Bp
 yaK:bJ K "_law_like" Cu
 yaH:bJ K "_law_ask" A0
 yaG:bJ K "law" xg
 ybc:dZ K cx "all"=aa ac
 ybd:dZ K cx "any"=aa ac
 ybe:dZ K cx "bool"=aa ac
 ybf:dZ K cx "enumerate"=aa ac
 ybg:dZ K cx "int"=aa ac
 ybh:dZ K cx "isinstance"=aa ac
 ybi:dZ K cx "len"=aa ac
 ybj:dZ K cx "list"=aa ac
 ybk:dZ K cx "max"=aa ac
 ybl:dZ K cx "min"=aa ac
 ybm:dZ K cx "range"=aa ac
 ybn:dZ K cx "set"=aa ac
 ybo:dZ K cx "sorted"=aa ac
 ybp:dZ K cx "str"=aa ac
 ybq:dZ K cx "sum"=aa ac
 ybr:dZ K cx "tuple"=aa ac
 ybs:∃t,dZ K cx "LETTERS"=aa (aa (.str (tS [97,98,99]) t))
 ybt:∃t,dZ K cx "MOST_LETTERS"=aa (aa (.int 12 t))
 ybu:∃t,dZ K cx "MOST_POINTS"=aa (aa (.int 6 t))
 ybv:∃t,dZ K cx "MOST_VIEWS"=aa (aa (.int 4 t))
 ybw:∃t,dZ K cx "MOST_WINDOWS"=aa (aa (.int 9 t))
 ybx:∃t,dZ K cx "MOST_WINDOWS_SHARED"=aa (aa (.int 6 t))
 yby:∃t,dZ K cx "POINT"=aa (aa (.str (tS [46]) t))
 ybz:∃t,dZ K cx "WIDEST"=aa (aa (.int 4 t))
 nl:EZ K=ag
 z:lT K "least_ending"=aa (400,396)/\zj K 400 396=ag/\K.lookup 396=ac
theorem OD(T:Top K)(X:K.In a)(G:a.Ns cx g):bK K g a a0:=by
 have Z:=T.z;cases T;constructor
 all_goals first|assumption|exact bJ.at (by assumption) X G|exact PySem.W.mg_none_of X G (by assumption)|exact Exists.imp (λ_ e=>Ed X G e) (by assumption)|exact⟨_,_,SK X G Z.1 Z.2.1⟩
theorem PX{l:PySem.W.OpenLaw}{w:aD}{d:ab}(X:K.In h)(G:h.Ns cx g)(b:g "law"=aa (.ref d))(T:Top K):∃c:gT,(∀(s:ak) (v:af),BindsTo s c ⟨[v],[]⟩ [("_law_script",v)])/\∀a:ax,K.In a->a.Ns cx g->jf l.prog w K g a (hG l.prog w) 26 d c ["_law_script"] (dO K (ux a0)):=by
 obtain⟨f,x,u,kV,y,r,B,A,z,q,n,m,j,i⟩:=T.yaG;have e:=b.symm.trans (Ed X G n);cases e;exact⟨_,λs v=>.of_eq rfl,λa o p=>QX (OD T o p) (I_ m j i)⟩
theorem GW{l:PySem.W.OpenLaw}{q:aM}{i:List Str}{XP:(Str->Option af)->ax->Prop}{o:aD->ax->Prop}{d:DefRec}{K:Params->aw}(y:l.most=aa 63)(r:d.params.defaults=[])(j:d.name = "law")(m:∀(w:aD) (h:ax),o w h->(K w.params).In h/\h.get? 396=aa (PySem.W.tabObj #[])) (T:∀w:aD,Top (K w.params)):PySem.W.WalkO q i XP o l.row.toRowW d [] (λf u=>PySem.call f u) :=
 L2.WH (n:=63) (k:=26) (x:="_law_script") (K:=K) (CX:=λw=>hG l.prog w) (sp:=λw=>dO (K w.params) (ux a0)) y (by decide) r ⟨rfl,by decide,by decide⟩ (λw h Y=>⟨(m w h Y).1,λc P e=>by rw[(T w).z.1]at e;cases e;exact⟨(T w).z.2.1,(T w).z.2.2,(m w h Y).2⟩⟩)
  (λw g E h B G p=>PX B G (by rw[<-j];exact p) (T w))
  (λw H b v D _ A=>UJ (TX (T w).nl A) (QM v))
  (λw H s e C z=>by obtain⟨_,_,_,_,_,_,_,_,_,_,_,f⟩:=z;exact f)
end
end K40
structure PySem.W.Fast:Prop where(tw1994707555270726676 tw7279372535827485664 tw3870285363141676543 tw1118528378858319653 tw1635519190816749279 tw1146836071702252761 tw17904077354496067276 tw13538798180490304433 tw11832375772464576149 tw2643874055799239800 tw12284634793973958072 tw11366442978390822389 tw16220164169383753039 tw3045994402841303036 tw9709302913202640901 tw12072316294080413565 tw4824032579548167449 tw7926421543680252014 tw10402229925894642284 tw14632887848564272790 tw17625640534205672009 tw13859948736842545614 tw13702612998390906274 tw17283910742404448012 tw13272862743960974179 tw9073300130100035780 tw12141673222861984104 tw9490181559600330761 tw13418740911710944856 tw1218777098267951745 tw10865363216133315538 tw1244656523410581509 tw13128953717645617243 tw14603908128366350720 tw14856704113983271726 tw9305996512534587691 tw1593008413444294240 tw11734344764879401873 tw8715894109754332053 tw13311526602717428023 tw4094611982954618013 tw11185294521338078395 tw4319568769967155894 tw6932304000953833323 tw15417814940940080219 tw7583419093150485856 tw3588925789940557717 tw12966932948790706030 tw3059611633783161219 tw1424909193234081968 tw5649367202130033561 tw18358446665388667166 tw7034221841776921229 tw15187096260045587364 tw18120333009548872739 tw5885261804734054332 tw3913292804755086184 tw16306624053450812596 tw5066755568739702477 tw335521840223777779 tw15898081044074896662 tw14352239241457710436 tw6966143603091355104 tw7201898935299200652 tw17218335527705106812 tw6120570686010091734 tw16142515830452496072 tw8674661364900253348 tw9768646928963850642 tw13317541192882987426 tw17218459653512956227 tw8682069840128798559 tw16549235260577933472 tw4956870353206953993 tw10839961790871743357 tw16135139444995404888 tw2465471191536079797 tw8451157888722286189 tw11786461592325380597 tw1158331238834640358 tw1821177512894704183 tw4381793074744648192 tw11532589068111136744 tw7537025911501111703 tw4361356091843212137 tw8454309536745389148 tw4180360025465583616 tw15255608901688935699 tw15841662426919845001 tw16256473054962249117 tw12237394992951106032 tw14886645578348226466 tw1915121068971642137 tw2088151008935514886 tw7239502197927161279 tw13985023489554653756 tw16381031445656664918 tw9283614145016565995 tw15954261583123239365 tw8807107788362657027 tw7059998142744713135 tw8728926948674206259 tw1027248442244728589 tw8930881446632537845 tw12390095233946556481 tw11524124707971183347 tw10718806795081748346 tw9692781705232091965 tw15975169544479416812 tw14664276468632011657 tw7406420150168629891 tw6670020593594670147 tw10624854823001846217 tw1421322038231181410 tw204102428160026741 tw436943288769121621 tw3701108640775542148 tw10912828229062738250 tw4874377219453550632 tw15495487961113490234 tw7754543148805427340 tw6225905001526428514 tw9556587939177017390 tw1983272371834042970 tw12329127166883737348 tw10261468433752439374 tw438815007356148172 tw9266946760931070008 tw6499243402350543674 tw1588524666254759892 tw6340333107110003753 tw3929851958824191347 tw2194151270450386770 tw4572729625410644173 tw2757735179508328682 tw14084024345408996553 tw16392462841362569175 tw4403268341969208128 tw5854635180907101071 tw2886695732498254778 tw8316915651484107351 tw1480975168391088053 tw11523870436736366707 tw473949648369009121 tw16104125186588482877 tw1798288247318035248 tw960130468802573530 tw14994073821815499774 tw310953422754682722 tw6930998514313329193 tw1497826385755943523 tw17365692627670415407 tw6342470761225287773 tw6156326681047458185 tw12646562922732271071 tw17144417718858179310 tw14495316096223936109 tw6623453846835842341 tw6371663866007791583 tw6101269226216045118 tw12689194356243374534 tw739594314144384784 tw12335065033572242013 tw6954440386943301556 tw5789302123955278536 tw12408669640051883798 tw16426410640696287824 tw13943888286406291639 tw9796207268346975815 tw2074804716537093860 tw2991693063998184094 tw17518009139981577838 tw6422119738464755542 tw10194643109702799486 tw4820662214294881724 tw2645200262752205827 tw4806438577620879196 tw1327407688499150736 tw358493080959020483 tw16627041922733930524 tw4096930964872260501 tw17047627683650375204 tw14768103600755646862 tw3022919080646667193 tw15145118639190216068 tw8423827863777354991 tw6251867405040975619 tw16726717900345628478 tw13306881376310484721 tw15115921627388797825 tw16625809258686688796 tw11244379306444564165 tw11880841104385792025 tw7585779645122025648 tw6815025796638495525 tw9120227121051286707 tw4416898976872756437 tw774690697212071061 tw1080472085727296713 tw2361959975305066300 tw7339338945663097594 tw2526482068868624396 tw8132618886681824400 tw4564324732563525854 tw6488817088356967345 tw11806159472141954275 tw6395345329650684159 tw15201838254645788071 tw4711868643720943756 tw1745291578199297751 tw2291803759040819245 tw11249823370076728232 tw1805973047371107972 tw11785254159990366418 tw10393547361841026268 tw7258408892692977199 tw10689813110614625574 tw17112246657937130867 tw17471321631423253115 tw4835936480270811915 tw11621258028934515288 tw9978931398776541783 tw5423461238693935262 tw2267391877753012766 tw1419548872575786160 tw17085577139456941549 tw15420022965517961405 tw13633393579482291739 tw7178749899913215671 tw16688884345749755273 tw10700553804460650654 tw2588310755128385258 tw2167147931701887691 tw9594659693849371547 tw2524762354790337094 tw691114990553187913 tw14352457503288873845 tw13063994429794929420 tw6551515553714595399 tw14331578437832656288 tw3550265594851853677 tw402658590081381207 tw12632055696664377694 tw59005069291202670 tw6375783237856313983 tw7244603665775698825 tw3759561237652056479 tw3680456327226259694 tw16309667453423556308 tw7459300309359926130:True)
open PySem PySem.W PyProof.Rows
set_option maxRecDepth 100000 in
set_option maxHeartbeats 0 in
theorem PySem.Challenge.cw_slitview_k40_whole_again_and_kept_holds : PySem.Challenge.rw_slitview_k40_whole_again_and_kept.Holds := by
 w_on; o_law; k_head; (case hw=>w_witness2)
 k_fill
 refine' K40.GW (l:=PySem.Challenge.rw_slitview_k40_whole_again_and_kept) rfl rfl rfl (fun w h Y=>⟨PySem.W.km_in_of Y,PySem.W.km_tabs_of Y _ (by simp)⟩) ?T
 case T =>
  intro w
  constructor
  iterate 63 (case _=>refine' Pu.Wm ?qa ?ql ?qc ?qk; (case qa=>k_is); (case ql=>k_is); (case qc=>k_is); (case qk=>k_is))
  iterate 16 (case _=>k_is)
  (case _=>refine' Pu.Wy ?e; (case e=>k_is))
  iterate 5 (case _=>refine' Pu.WD ?e; (case e=>k_is))
  (case _=>refine' Pu.Wy ?e; (case e=>k_is))
  (case _=>refine' Pu.WD ?e; (case e=>k_is))
  (case _=>kernel_rfl)
  (case _=>refine⟨?u1,?u2,?u3⟩; (case u1=>kernel_rfl); (case u2=>kernel_rfl); (case u3=>kernel_rfl))
