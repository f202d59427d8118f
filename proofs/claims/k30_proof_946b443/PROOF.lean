import PyProof.Rows.All
import Wide.All
import OpenK.AllK
import Wide.FinOn
import Lean
import PyProof.EqAt
import PyProof.EqKinds
import PyProof.TupleCall
import KE.KIntText
import KE.KDictList
import KE.KDictSum
import PyProof.Rows.Range3
import PyProof.DictWalks
import KE.KMinKey
import KE.KSortTup
import PyProof.EnumStmt
import PyProof.EnumMake
import PyProof.EnumFor
import PyProof.Draws
import PyProof.Rows.TupDisplay
import PyProof.Rows.SumAny
import KE.LcSums
import PyProof.FString5
import PyProof.WalkInts
import PySem.Challenge.RW_slitview_k30_together_refused
noncomputable section
set_option compiler.extract_closed false
local macro_rules | `(∅) => `(by first | assumption | lia | omega)
set_option Elab.async false
set_option bootstrap.genMatcherCode false
set_option genSizeOf false
set_option linter.all false
set_option maxRecDepth 100000
local macro_rules | `(~~~$x) => `(by simpa using $x)
local macro_rules | `(tactic| ac_nf) => `(tactic| exact ⟨rfl,rfl,rfl,by decide +kernel,rfl,by decide +kernel,by decide +kernel⟩)
open Option renaming some->aa,none->ae,bind_some->gk,map_eq_some_iff->mU,map_some->pG,bind_eq_some_iff->pK,getD_some->zW,isSome_iff_exists->CM,isSome_map->CU,getD_none->Jp
open PySem renaming Addr->af,Value->ai,Shared->am,wpAny_bind->aq,wpAny->ar,model->au,Heap->aB,Expr->aC,wpAny_pure->aD,World->aG,Program->aN,Around->aT,starEach->aU,eval->aX,Stmt->a8,sizeLine->bf,mainGlobals->bU,SetTable->cp,backTo->c7,compareOp->dX,rawInt->dY,Scope->d9,wpAny_mono->eW,bootBuiltins->fk,cellsFrom->f8,FuncData->gh,bindArgs->gF,strKind->gG,NameKind->gY,binaryOp->il,sysModules->jf,Keyword->jD,wpAny_holding->jW,Paired->km,attributeBase->kr,swapsWith->lj,wpAny_newObj_type->lq,sizeLine_eq->lO,mem_of_lookup->lR,IsPart->lT,wpAny_setState_of->lU,setField->lV,unsupported->lW,pyNext->mK,foldedSetIterable->mL,codeAny->mO,wpAny_call_entry->mQ,wpAny_rule->mW,isTrue->n6,pyIter->n8,getItem->n_,setNext->om,argBest->oB,behindInMarks->pc,wpAny_truthy_bool->pe,backToKw->pi,keywordEach->pq,wpAny_setField->pF,builtinsNs->qY,codeAny_mono->q_,wpAny_field->re,call_meets->rh,wpAny_of_eq->rm,wpAny_passesOwn->tD,wpAny_typeOf->tF,sliceBounds->tG,valueAt->tK,callerA->tN,DictEntry->tO,relayAll->tU,wpAny_askSetting->tX,setSearchFrom->ub,reduceHash->vQ,tupleKind->vR,wpAny_specialOf->vY,codeAny_builtin->v8,pickOrder->v9,eqIsQuiet->wl,ofAClassStatement->wm,hashByValue->wn,wpAny_forIn_list->wo,assignEach->zp,PassesOwn->zq,wpAny_call->zt,wpAny_callSpecial?_slot->zu,typeIs_int->zv,tupleKind_room_in1->zA,isInstance->zF,setsByText->zG,wpAny_ite_split->zH,setFlight->zK,wpAny_execs_nil->CH,letOwnedTupleGo->CI,wpAny_Call_Name_kw->CL,wpAny_loadPart'->CN,subscripted->CS,setAddHashed->C9,wpAny_storeSet_of->C_,fits_of_scanBound->Da,plainId_quiet->Db,wpAny_attempt->Dc,firstArgMember->Dd,wpAny_isInstance->De,wpAny_seqItems->Df,wpAny_pyIter_tuple->Dg,excClassObj->Dk,wpAny_typeNameOfWhole_keyiter->DQ,wpAny_typeNameOf_keyiter->DU,wpAny_execs_cons->Jb,noFill_tuple_add->Jj,wpAny_pyIter_list->Jw,checkBuiltinCall->JE,wpAny_pyIter_slot->JF,wpAny_loadPart_at->JM,searchCouldBeSeen->JT,wpAny_dictEntries->JW
open Bool renaming true->ah,false->aj,false_ne_true->eX,false_eq_true->fo,and_eq_true->g7,not_true->l5,eq_iff_iff->mM,not_false->uc,eq_false_iff->zM,false_xor->zT,true_xor->zU,and_false->C3,or_eq_true->C5,not_eq_true'->JN
open PySem.W renaming Frag->ay,nsIn->cS,kitOne->fe,mg_of->gn,fnOf->jh,mg_none_of->jF,kia_one->lP,keepIn->n9,excIn->pJ,tabIn->qZ,findIn->q8,hashAt->rE,InstAt->vT,codeIn->vV,mroIn->zr,OpenLaw->CV,clsIn->Dl,methodObj->Ja,specialIn->Jf,callWith_K->Jh,cellsFrom_some->Ji,kat_cons->JX,KatTups->U2
open PyProof.Rows renaming wpS_bind->aL,wpS_pure->aV,pendingOf->bo,SortSt->bJ,StrsAre->c8,SortKind->gI,wpS_mono->g8,wpS_forRange->g9,seqObj->io,envOfC->jC,size_push'->jZ,pairsOf->lu,wpS_get->lZ,AllBare->n5,wpS_modify->oz,wpS_lift->t7,slot_tuple_getitem->CP,listUpdate_at->Dh,lt_str->JU
open Nat renaming le_refl->aZ,le_trans->cX,ne_of_lt->cZ,lt_irrefl->fj,lt_of_lt_of_le->gE,lt_succ_self->jE,zero_le->jY,lt_succ_of_lt->ku,le_of_lt->li,le_of_eq->oh,mod_lt->oq,not_lt_zero->ot,pow_succ->rA,ne_of_gt->tE,lt_trans->tL,mul_le_mul->tT,zero_add->tZ,succ_pos->ua,lt_of_le_of_lt->vZ,add_right_comm->wb,mul_comm->wd,succ_mul->zy,le_succ->zB,add_assoc->zN,mod_eq_of_lt->zQ,sub_self->Dp,pow_add->Dy,add_mod->Dz,pow_le_pow_right->D4
open List renaming mem_cons->bn,replicate->bE,mem_map->b8,map_cons->cn,range->cr,length_cons->cE,size_toArray->cM,length_map->cN,getElem?_eq_some_iff->c_,map_map->dA,mem_cons_of_mem->eJ,getElem?_set_ne->eK,getElem?_eq_getElem->eM,length_append->fz,mem_cons_self->fK,getElem?_set_self->fZ,not_mem_nil->gi,mem_singleton->gH,getElem?_map->gZ,append_nil->iR,getElem?_append_left->iS,mem_append->jg,map_congr_left->ji,length_set->jk,nodup_cons->jB,foldl_cons->jX,mem_range->kn,find?_cons->kt,nil_append->kw,mem_append_right->lm,length->ln,lookup_cons->lr,length_take->lQ,getElem?_eq_none->lX,filterMap_cons->mJ,length_drop->mP,append_assoc->mR,length_nil->mT,sum_cons->mX,any_cons->og,take_append_drop->oj,getElem_of_mem->oy,mem_filter->o_,getElem?_append_right->pf,mem_of_getElem?->ph,replicate_succ->pr,map_append->pt,take_of_length_le->pA,eq_nil_of_length_eq_zero->pB,ext_getElem?->pI,dropLast->pM,mem_reverse->rq,all_cons->tI,flatten_cons->tJ,all_eq_true->tP,pairwise_map->tR,pairwise_iff_getElem->t8,take_length->t9,flatMap_cons->ud,any_eq_true->ue,mem_append_left->vS,of_mem_zip->vU,range_succ->v3,toList_toArray->v4,getElem_mem->v6,drop_eq_getElem_cons->v_,take_succ_eq_append_getElem->wc,filter_eq_self->wp,length_singleton->zx,map_nil->zz,getElem?_range->zC,mergeSort_perm->zD,getElem?_zip_eq_some->zI,getElem?_drop->zJ,getElem_drop->zO,getElem?_take->zP,zip_cons_cons->zV,filter_map->zX,lookup->CW,range_succ_eq_map->CY,all_map->CZ,drop_zero->C0,take_zero->Di,length_dropLast->Dq,pairwise_append->Dr,getElem_take->Ds,singleton_append->Dt,drop_eq_nil_iff->Du,cons_append->Dw,find?_eq_none->DB,length_erase_of_mem->DH,cons_lt_cons_iff->DL,map_id'->DY,length_filter_le->D1,mem_of_mem_take->D3,mem_filterMap->Jc,any_eq_false->Je,lookup_append->Jv,length_range->Jx,pairwise_mergeSort->Jy,foldl_append->JC,map_filterMap->JH,nodup_append->JJ,drop_length->JK,reverse_append->JP,reverse_perm->JQ,pairwise_reverse->JR,map_snd_zip->JV,length_eq_zero_iff->JZ,mem_flatMap->J0,flatMap_nil->J1,filter_cons->J2,isEmpty_nil->J3,dropLast_eq_take->J4,getD_eq_getElem?_getD->J5,drop_append_of_le_length->UW,findIdx?_eq_some_iff_getElem->UX,Perm->U3,count_eq_zero_of_not_mem->U4
open PySem.Heap renaming get?_push_of_some->bw,lt_size->bC,get?_push_size->cz,SameBut->ko,get?_update_self->pC,get?_update_other->rg,size_push->ri,get?_none_of_le->CG,get?_update_ne->JI,size_update->JL
open Option.some renaming inj->dO
open Ne renaming symm->dW
open PySem.SetTable renaming bits->eN,runEnd->fM,below->iT,Probe->kA,leap->mZ,grown->ol,insertAt->rj,turns->rD,laid->C7,layClean->C8,advance->DC,sizeAbove->JA
open Array renaming length_toList->fL,getElem?_eq_getElem->jj,toList_append->jl,getElem?_eq_some_iff->mV,getElem_extract->oA,getElem?_toList->pH,toList_push->tW,getD_eq_getD_getElem?->we,perm_iff_toList_perm->Dv,forIn_toList->DJ,toArray_toList->JS
open False renaming elim->im
open PySem.Str renaming empty->kq,ofString->vW
open PySem.PassesOwn renaming never->kC
open Int renaming toNat_natCast->lS,emod_lt_of_pos->zR,emod_nonneg->zS
open PySem.Obj renaming mapFields->lY,mapSeq->mS,data_mapFields->rn,isFreed_of_fields->zL
open PyProof.Rows.KeyOrd renaming kle_of_klt->l0,kle_refl->mY,kle_trans->ro
open PySem.Builtin.Tuple renaming tupleHashOf->n4,tupleExact->CQ,tupleItemsOf->Jo
open Iff renaming rfl->ou
open PySem.Heap.SameBut renaming update->pD,refl->JB
open PySem.SetTable.layClean renaming free->pL
open PySem.Value renaming isStrOf->qX
open Function renaming comp->rF,comp_def->t_
open List.Perm renaming refl->tQ,eq_of_pairwise->Jz,append_left->JG
open PySem.SetTable.below renaming go->tY
open PySem.SeqAt renaming EqAt->vX
open List.cons renaming injEq->wg
open PySem.SetTable.probe renaming go->wj
open PySem.Builtin.List renaming listTooLong->zw
open PySem.Around renaming under_plainId->zE
open PySem.Paired renaming length->CF,snoc->CT
open PySem.Calls renaming spliced_cons->CJ,spliced_nil->Jg,callWith_builtin->Jr,evalArgs_plain->Js
open PySem.Builtin.Slice renaming slicePlaces->CO,sliceAdjust->Jn
open PySem.F renaming plainAttrs_list->Dj,slot_int_rmul->Dm,slot_dict_keyiterator_next->DM,slot_tuple_add->Jk,entry_tuple_add->Jl,args_tuple_add_2->Jm,slot_dict_get->Jt,plainAttrs_dict->Ju,slot_dict_values->JO,excBase_ValueError->JY,slot_tuple_hash->UZ,entry_dict_keyiterator_next->U0,args_dict_keyiterator_next_1->U1
open Nat.succ renaming inj->Do
open Exists renaming elim->Dx
open List.Sublist renaming refl->D5
open PySem.Builtin.Str renaming occurrences->Jd
open PySem.SeqAt.EqAt renaming str_str->Jq
open PyProof.Rows.F renaming plain_set_update_loop->JD,entry_set_update_loop->UY
open PySem PySem.Spec PyProof.Rows
namespace L2
abbrev aE:=Sum Int Str
def sU:aE->ai->Bool
 |.inl k,v=>Value.isInt k v
 |.inr x,v=>qX x v
def UA(w:aG):aE->Int
 |.inl k=>hashInt k
 |.inr x=>hashStr w x
theorem nU:∀{k:aE}{v:ai},sU k v=ah->(∃i t,k=Sum.inl i/\v=Value.int i t)\/(∃x t,k=Sum.inr x/\v=Value.str x t)
 |.inl i,v,h=>by obtain⟨t,e⟩:=Value.isInt_shape (k:=i) (v:=v) h;exact .inl ⟨i,t,rfl,e⟩
 |.inr x,v,h=>by obtain⟨t,e⟩:=Value.isStrOf_shape (x:=x) (v:=v) h;exact .inr ⟨x,t,rfl,e⟩
theorem LC(i:Int)(t:Tok):sU (.inl i) (.int i t)=ah:=by simp[sU,Value.isInt]
theorem Rx(x:Str)(t:Tok):sU (.inr x) (.str x t)=ah:=by simp[sU,qX]
theorem TH(a b:Int):decide ((Sum.inl a:aE)=Sum.inl b)=(a == b):=by
 by_cases e:a=b
 .subst e;simp
 .have h:¬(Sum.inl a:aE)=Sum.inl b:=λq=>e (Sum.inl.inj q);rw[decide_eq_false h];exact(beq_eq_false_iff_ne.mpr e).symm
theorem T4(a b:Str):decide ((Sum.inr a:aE)=Sum.inr b)=decide (a=b):=by
 by_cases e:a=b
 .subst e;simp
 .have h:¬(Sum.inr a:aE)=Sum.inr b:=λq=>e (Sum.inr.inj q);rw[decide_eq_false h,decide_eq_false e]
theorem MY(a:Int)(b:Str):decide ((Sum.inl a:aE)=Sum.inr b)=aj:=decide_eq_false (λq=>nomatch q)
theorem Nm(a:Str)(b:Int):decide ((Sum.inr a:aE)=Sum.inl b)=aj:=decide_eq_false (λq=>nomatch q)
def gP(c:aN)(w:aG):PySem.KeyKind c w aE where
 is:=sU
 hash:=UA w
 inj:=λv a b l f=>by
  rcases nU l with⟨i,t,rfl,rfl⟩|⟨x,t,rfl,rfl⟩
  .rcases nU f with⟨j,u,rfl,e⟩|⟨y,u,rfl,e⟩
   .injection e with e1 _;rw[e1]
   .exact nomatch e
  .rcases nU f with⟨j,u,rfl,e⟩|⟨y,u,rfl,e⟩
   .exact nomatch e
   .injection e with e1 _;rw[e1]
 byValue:=λk v h=>by rcases nU h with⟨i,t,rfl,rfl⟩|⟨x,t,rfl,rfl⟩ <;> rfl
 pyHash:=λd h=>by
  rcases nU d with⟨i,t,rfl,rfl⟩|⟨x,t,rfl,rfl⟩
  .exact wpAny_pyHash_int h
  .exact wpAny_pyHash_str h
 eqBool:=λg d h=>by
  rcases nU g with⟨i,t,rfl,rfl⟩|⟨x,t,rfl,rfl⟩
  .rcases nU d with⟨j,u,rfl,rfl⟩|⟨y,u,rfl,rfl⟩
   .rw[TH]at h;exact wpAny_eqBool_int h
   .rw[MY]at h;exact SeqAt.EqAt.int_str i t y u _ _ _ _ h
  .rcases nU d with⟨j,u,rfl,rfl⟩|⟨y,u,rfl,rfl⟩
   .rw[Nm]at h;exact SeqAt.EqAt.str_int x t j u _ _ _ _ h
   .rw[T4]at h;exact wpAny_eqBool_str h
 «strs»:=λk x t v h=>by
  rcases nU h with⟨i,u,rfl,e⟩|⟨y,u,rfl,e⟩
  .exact nomatch e
  .injection e with e1 _;subst e1;cases v <;> rfl
theorem KU(a:aN)(w:aG)(i:Int)(t:Tok):(gP a w).is (.inl i) (.int i t)=ah:=LC i t
theorem Nn(a:aN)(w:aG)(x:Str)(t:Tok):(gP a w).is (.inr x) (.str x t)=ah:=Rx x t
inductive V where
 |non|bl (b:Bool)|int (i:Int)|str (x:Str)|byt (b:Array UInt8)|flt (b:UInt64)|ref (a:af)|ty (n:String)
 deriving DecidableEq
def RelV:V->ai->Prop
 |.non,u=>u=Value.none
 |.bl b,u=>u=Value.bool b
 |.int i,u=>∃t,u=Value.int i t
 |.str x,u=>∃t,u=Value.str x t
 |.byt b,u=>∃t,u=Value.bytes b t
 |.flt b,u=>∃t,u=Value.float b t
 |.ref a,u=>u=Value.ref a
 |.ty n,u=>u=Value.type n
abbrev bt:List V->List ai->Prop:=km RelV
theorem bt.length{xs:List V}{a:List ai}(r:bt xs a):xs.length=a.length:=CF r
theorem bt.get:∀{xs:List V}{a:List ai}{i:Nat}{x:V},bt xs a->xs[i]?=aa x->∃u,a[i]?=aa u/\RelV x u
 |_,_,_,_,.nil,e=>by simp at e
 |_,_,0,_,.cons r _,e=>by simp at e;subst e;exact⟨_,rfl,r⟩
 |_,_,i+1,x,.cons _ t,e=>by obtain⟨u,c,b⟩:=bt.get (i:=i) (x:=x) t (~~~e);exact⟨u,by simpa using c,b⟩
theorem bt.append{xs a:List V}{c b:List ai}(r:bt xs c)(s:bt a b):bt (xs++a) (c++b):=by
 unfold bt at r s ⊢
 induction r with
 |nil=>exact s
 |cons r _ g=>exact .cons r g
theorem bt.take:∀{xs:List V}{a:List ai} (n:Nat),bt xs a->bt (xs.take n) (a.take n)
 |_,_,0,_=>.nil
 |_,_,_+1,.nil=>.nil
 |_,_,n+1,.cons r t=>.cons r (bt.take n t)
theorem bt.drop:∀{xs:List V}{a:List ai} (n:Nat),bt xs a->bt (xs.drop n) (a.drop n)
 |_,_,0,r=>r
 |_,_,_+1,.nil=>.nil
 |_,_,n+1,.cons _ t=>bt.drop n t
def o9:Option V->Option ai->Prop
 |some v,aa u=>RelV v u
 |none,ae=>True
 |_,_=>False
def KV{a:Type}:List (a×V)->List (a×ai)->Prop:=km λ(p:a×V) (q:a×ai)=>p.1=q.1/\RelV p.2 q.2
def kV:aE->V
 |.inl i=>.int i
 |.inr x=>.str x
inductive HO where
 |lst (xs:List V)
 |tup (xs:List V)
 |dK (kvs:List (aE×V))|dT (kvs:List (List aE×V))|dN (kvs:List ((Str×List Str)×V))
 |set (S:Int->Bool) (n:Nat)
 |ins (C dx:af) (fs:List (Str×V))
 |own (x:af)
 |xd (fs:List (Str×V))
 |met (f x:af)
 |rng (lo hi:Int)
 |frz (o:Obj) (u:HO)
 |tbl (q:Str)
 |ext (φ:aB->Prop)
abbrev Hp:=af->Option HO
def upd(H:Hp)(a:af)(o:HO):Hp:=λb=>if b=a then aa o else H b
theorem upd_same{H:Hp}{a:af}{o:HO}:upd H a o a=aa o:=by unfold upd;rw[if_pos rfl]
theorem bh{H:Hp}{a b:af}{o:HO}(h:b≠a):upd H a o b=H b:=by unfold upd;rw[if_neg h]
theorem EH{H:Hp}{a b:af}{o u:HO}(h:H a=aa o)(c:H b=aa u)(d:o≠u):a≠b:=by intro e;subst e;rw[h]at c;exact d (dO c)
theorem kR{H:Hp}{a b:af}{o:HO}(h:H a=aa o)(c:H b=ae):a≠b:=by
 intro e;subst e;rw[h]at c;cases c
def IY(h:aB)(a:af)(b:Array ai):Prop:=IsTup h a b/\∃o,h.get? a=aa o/\o.dict=ae
theorem IY.new(h:aB)(its:Array ai):IY (h.push {cls:=.type "tuple",data:=.seq its}) h.objs.size its:=⟨IsTup.new _ _,_,cz _ rfl,rfl⟩
section
variable(P:aN)(w:aG)
def Mq(k:Str×List Str):Int:=vQ (n4 [hashStr w k.1,vQ (n4 (k.2.map (hashStr w)))])
def M0(H:Hp)(k:Str×List Str)(a:af):Prop:=∃b,H a=aa (.tup [.str k.1,.ref b])/\H b=aa (.tup (k.2.map .str))
def bR(H:Hp)(h:aB)(a:af):HO->Prop
 |.lst xs=>xs.length<=bf/\∃(d:List ai) (n:Nat),bt xs d/\h.get? a=aa {cls:=.type "list",data:=.seq d.toArray n}
 |.tup xs=>xs.length<=bf/\∃d:List ai,bt xs d/\IY h a d.toArray
 |.dK b=>b.length<=bf/\(a == jf)=aj/\∃s,KV b s/\h.DictOf (gP P w) a s
 |.dT b=>b.length<=bf/\(a == jf)=aj/\∃xs:List (List aE×af×ai),
   km (λ(p:List aE×V) (q:List aE×af×ai)=>p.1=q.1/\H q.2.1=aa (.tup (p.1.map kV))/\RelV p.2 q.2.2) b xs /\
   ∃o es ep,h.get? a=aa o/\o.ExactDict/\o.data=.dict es ep/\es.toList=xs.map (entryOfKey (vR (gP P w)))/\(xs.map (·.1)).Nodup
 |.dN b=>b.length<=bf/\(a == jf)=aj/\∃xs:List ((Str×List Str)×af×ai),
   km (λ(p:(Str×List Str)×V) (q:(Str×List Str)×af×ai)=>p.1=q.1/\M0 H p.1 q.2.1/\RelV p.2 q.2.2) b xs /\
   ∃o es ep,h.get? a=aa o/\o.ExactDict/\o.data=.dict es ep/\es.toList=xs.map (λx=>⟨Mq w x.1,.ref x.2.1,x.2.2⟩)/\(xs.map (·.1)).Nodup
 |.set S n=>h.SetOf (intKind P w) a S n
 |.ins C i fs=>H i=aa (.own a)/\fs.length<=1000/\i≠a/\h.get? a=aa (PySem.W.instObj C i) /\
   ∃g,h.Ns1 i g/\(∀f,o9 (fs.lookup f) (g f))/\PySem.Within g (fs.map (·.1))
 |.own _=>∃o,h.get? a=aa o
 |.xd fs=>∃g,h.Ns1 a g/\∀f,o9 (fs.lookup f) (g f)
 |.rng A B=>∃t u v,h.get? a=aa {cls:=.type "range",data:=.fields #[.int A t,.int B u,.int 1 v]}
 |.frz o u=>h.get? a=aa o/\bR H h a u
 |.tbl q=>∃l:Array ai,h.get? a=aa {cls:=.none,data:=.fields l}/\TriplesOk l.toList/\∀m r,codeAmong m l.toList=aa r->∃c,r=.ref c/\H c=aa (.own a)/\h.CodeRec r q
 |.met f x=>h.get? a=aa (Ja (.ref f) (.ref x))
 |.ext j=>j h/\(∃o,h.get? a=aa o)/\∀z y:aB,j z->(∀o,z.get? a=aa o->y.get? a=aa o)->j y
def df(H:Hp)(h:aB):Prop:=∀a o,H a=aa o->bR P w H h a o
end
section
variable{P:aN}{w:aG}{H i:Hp}{h h':aB}{a:af}{o:HO}
theorem bR.lt(x:bR P w H h a o):a<h.objs.size:=by
 cases o with
 |lst xs=>obtain⟨_,_,_,_,e⟩:=x;exact bC e
 |tup xs=>obtain⟨_,_,_,p,_⟩:=x;exact p.lt
 |dK b=>obtain⟨_,_,_,_,o,_,_,e,_⟩:=x;exact bC e
 |dT b=>obtain⟨_,_,_,_,o,_,_,e,_⟩:=x;exact bC e
 |dN b=>obtain⟨_,_,_,_,o,_,_,e,_⟩:=x;exact bC e
 |set S n=>obtain⟨o,_,_,_,e,_⟩:=x;exact bC e
 |ins C l fs=>obtain⟨_,_,_,e,_⟩:=x;exact bC e
 |own y=>obtain⟨_,e⟩:=x;exact bC e
 |xd fs=>obtain⟨_,⟨_,_,_,e,_⟩,_⟩:=x;exact bC e
 |rng g j=>obtain⟨_,_,_,e⟩:=x;exact bC e
 |frz d u=>obtain⟨e,_⟩:=x;exact bC e
 |tbl q=>obtain⟨_,e,_⟩:=x;exact bC e
 |met f y=>exact bC (show h.get? a=aa _ from x)
 |ext c=>obtain⟨_,⟨_,e⟩,_⟩:=x;exact bC e
theorem Paired.mapP{l j:Type}{F G:l->j->Prop}{d:List l}{c:List j}(r:km F d c)(f:∀a b,F a b->G a b):km G d c:=by
 induction r with
 |nil=>exact .nil
 |cons r _ g=>exact .cons (f _ _ r) g
theorem bR.stay(x:bR P w H h a o)(k:∀b u,(b=a\/H b=aa (.own a))->h.get? b=aa u->h'.get? b=aa u)(L:∀b,H b=aa (.own a)->i b=aa (.own a)) (J:∀b xs,H b=aa (.tup xs)->i b=aa (.tup xs)):bR P w i h' a o:=by
 induction o with
 |lst xs=>obtain⟨z,s,n,r,e⟩:=x;exact⟨z,s,n,r,k _ _ (.inl rfl) e⟩
 |tup xs=>obtain⟨z,s,r,⟨j,e,c⟩,Q,B,M⟩:=x;exact⟨z,s,r,⟨j,k _ _ (.inl rfl) e,c⟩,Q,k _ _ (.inl rfl) B,M⟩
 |dK A=>obtain⟨z,y,E,r,j,l,m,e,c⟩:=x;exact⟨z,y,E,r,j,l,m,k _ _ (.inl rfl) e,c⟩
 |dT A=>obtain⟨z,y,xs,r,j,l,m,e,c⟩:=x;exact⟨z,y,xs,Paired.mapP r λp q z=>⟨z.1,J _ _ z.2.1,z.2.2⟩,j,l,m,k _ _ (.inl rfl) e,c⟩
 |dN A=>obtain⟨z,y,xs,r,j,l,m,e,c⟩:=x;exact⟨z,y,xs,Paired.mapP r λp q z=>⟨z.1,(let ⟨b,D,h2⟩:=z.2.1;⟨b,J _ _ D,J _ _ h2⟩),z.2.2⟩,j,l,m,k _ _ (.inl rfl) e,c⟩
 |set S n=>obtain⟨j,l,m,t,e,c⟩:=x;exact⟨j,l,m,t,k _ _ (.inl rfl) e,c⟩
 |ins C dx fs=>obtain⟨d,z,T,e,I,⟨G,l,m,B,c⟩,r⟩:=x;exact⟨L _ d,z,T,k _ _ (.inl rfl) e,I,⟨G,l,m,k _ _ (.inr d) B,c⟩,r⟩
 |own y=>obtain⟨j,e⟩:=x;exact⟨j,k _ _ (.inl rfl) e⟩
 |xd fs=>obtain⟨I,⟨G,l,m,e,c⟩,r⟩:=x;exact⟨I,⟨G,l,m,k _ _ (.inl rfl) e,c⟩,r⟩
 |rng lo hi=>obtain⟨t,u,v,e⟩:=x;exact⟨t,u,v,k _ _ (.inl rfl) e⟩
 |frz j u W=>obtain⟨e,q⟩:=x;exact⟨k _ _ (.inl rfl) e,W q⟩
 |tbl q=>
  obtain⟨O,e,t,g⟩:=x;refine⟨O,k a _ (.inl rfl) e,t,λF Z X=>?_⟩;obtain⟨c,rfl,D,M,o,E,N,B,Y,r⟩:=g F Z X;cases B;exact⟨c,rfl,L c D,c,o,E,N,rfl,k c _ (.inr D) Y,r⟩
 |met f y=>have e:h.get? a=aa (Ja (.ref f) (.ref y)):=x;show h'.get? a=aa (Ja (.ref f) (.ref y));exact k a _ (.inl rfl) e
 |ext φ=>obtain⟨p,⟨o,e⟩,K⟩:=x;exact⟨K _ _ p λo q=>k _ _ (.inl rfl) q,⟨o,k _ _ (.inl rfl) e⟩,K⟩
theorem df.lt(x:df P w H h)(e:H a=aa o):a<h.objs.size:=(x a o e).lt
theorem df.fresh(x:df P w H h)(e:h.objs.size<=a):H a=ae:=by
 cases q:H a with
 |none=>rfl
 |some u=>exact absurd (gE (x.lt q) e) (fj _)
theorem df.kept(x:df P w H h)(k:∀b u,h.get? b=aa u->h'.get? b=aa u):df P w H h':=λa o e=>(x a o e).stay (λb u _ q=>k b u q) (λ_ q=>q) λ_ _ q=>q
theorem df.laid(x:df P w H h)(k:∀b u,h.get? b=aa u->h'.get? b=aa u)(g:h.objs.size<=a)(new:bR P w (upd H a o) h' a o):df P w (upd H a o) h':=λb u e=>by
 have d:=x.fresh g;by_cases f:b=a
 .subst f;rw[upd_same]at e;cases e;exact new
 .rw[bh f]at e;exact(x b u e).stay (λc v _ q=>k c v q) (λc q=>by rw[bh (kR q d)];exact q) λc xs q=>by rw[bh (kR q d)];exact q
end
def Rd(H:Hp)(a:af)(u:HO):Prop:=H a=aa u\/∃o,H a=aa (.frz o u)
theorem Rd.ok{P:aN}{w:aG}{H:Hp}{h:aB}{a:af}{u:HO}(r:Rd H a u)(x:df P w H h):bR P w H h a u:=by
 rcases r with r|⟨o,r⟩
 .exact x a u r
 .obtain⟨_,q⟩:=x a _ r;exact q
def uW:Option HO->Prop
 |some (.lst _)=>True
 |some (.dK _)=>True
 |some (.dT _)=>True
 |some (.dN _)=>True
 |some (.set _ _)=>True
 |some (.ins _ _ _)=>True
 |some (.ext _)=>True
 |_=>False
section
variable{P:aN}{w:aG}{H:Hp}{h a:aB}{x e:af}{d:HO}
theorem df.write(ok:df P w H h)(i:uW (H x))(o:e=x\/H e=aa (.own x))(k:∀b u,b≠e->h.get? b=aa u->a.get? b=aa u)(p:∃u,a.get? e=aa u)(new:bR P w (upd H x d) a x d):df P w (upd H x d) a:=λb u q=>by
 have f:∀c y,H c=aa (.own y)->c≠x:=λc y r z=>by subst z;rw[r]at i;exact i
 have g:∀c xs,H c=aa (.tup xs)->c≠x:=λc xs r z=>by subst z;rw[r]at i;exact i
 by_cases m:b=x
 .subst m;rw[upd_same]at q;cases q;exact new
 .rw[bh m]at q;by_cases j:b=e
  .have n:H b=aa (.own x):=by
    rcases o with z|z
    .exact absurd (j.trans z) m
    .rw[j];exact z
   rw[q]at n;cases n;obtain⟨v,s⟩:=p;exact⟨v,by rw[j];exact s⟩
  .refine(ok b u q).stay (λc v l r=>k c v ?_ r) (λc r=>by rw[bh (f c b r)];exact r) λc xs r=>by rw[bh (g c xs r)];exact r
   rcases l with rfl|l
   .exact j
   .rintro rfl;rcases o with z|z
    .exact f c b l z
    .rw[l]at z;cases z;exact m rfl
end
structure Un(fs ex:List af)(H H':Hp)(h h':aB):Prop where
 keep:∀b o,h.get? b=aa o->H b=ae->b∉fs->b∉ex->h'.get? b=aa o
 slot:∀b o,h.get? b=aa o->H b=ae->b∈fs->b∉ex->∃sl,h'.get? b=aa {o with slots:=sl}
 free:∀b o,h.get? b=aa o->H b=ae->b∉ex->H' b=ae
 there:∀b o,h.get? b=aa o->b∉ex->∃o',h'.get? b=aa o'
 tups:∀b xs,H b=aa (.tup xs)->H' b=aa (.tup xs)
 frzs:∀b o u,H b=aa (.frz o u)->H' b=aa (.frz o u)
 tbls:∀b q,H b=aa (.tbl q)->H' b=aa (.tbl q)
section
variable{fs d ex f:List af}{H g j:Hp}{h c i h':aB}{a x e:af}{o:HO}
theorem Un.any(u:Un fs ex H g h c){b:af}{l:Obj}(q:h.get? b=aa l)(n:H b=ae)(m:b∉ex):∃r,c.get? b=aa {l with slots:=r}:=by
 by_cases p:b∈fs
 .exact u.slot b l q n p m
 .exact⟨l.slots,u.keep b l q n p m⟩
theorem Un.kept(k:∀b u,h.get? b=aa u->h'.get? b=aa u):Un fs ex H H h h' :=⟨λb l q _ _ _=>k b l q,λb l q _ _ _=>⟨l.slots,k b l q⟩,λ_ _ _ n _=>n,λb l q _=>⟨l,k b l q⟩,λ_ _ q=>q,λ_ _ _ q=>q,λ_ _ q=>q⟩
theorem Un.refl:Un fs ex H H h h:=Un.kept λ_ _ q=>q
theorem Un.laid(k:∀b u,h.get? b=aa u->h'.get? b=aa u)(m:h.objs.size<=a)(l:H a=ae):Un fs ex H (upd H a o) h h' where
 keep:=λb u q _ _ _=>k b u q
 slot:=λb u q _ _ _=>⟨u.slots,k b u q⟩
 free:=λb u q n _=>by rw[bh (cZ (gE (bC q) m))];exact n
 there:=λb u q _=>⟨u,k b u q⟩
 tups:=λb xs q=>by rw[bh (kR q l)];exact q
 frzs:=λb u xs q=>by rw[bh (kR q l)];exact q
 tbls:=λb p q=>by rw[bh (kR q l)];exact q
theorem Un.write(l:uW (H x))(A:e=x\/H e=aa (.own x))(k:∀b u,b≠e->h.get? b=aa u->h'.get? b=aa u)(w:∃u,h'.get? e=aa u):Un fs ex H (upd H x o) h h':=by
 have s:∀b,H b=ae->b≠x:=λb n z=>by subst z;rw[n]at l;exact l
 have v:∀b,H b=ae->b≠e:=λb n z=>by
  subst z;rcases A with r|r
  .exact s b n r
  .rw[n]at r;cases r
 have m:∀b u,H b=aa u->¬uW (aa u)->b≠x:=λb u q y z=>by subst z;rw[q]at l;exact y l
 refine⟨λb u q n _ _=>k b u (v b n) q,λb u q n _ _=>⟨u.slots,k b u (v b n) q⟩,λb u q n _=>by rw[bh (s b n)];exact n,λb u q _=>?_,
  λb xs q=>by rw[bh (m b _ q λz=>z)];exact q,λb u xs q=>by rw[bh (m b _ q λz=>z)];exact q,λb B q=>by rw[bh (m b _ q λz=>z)];exact q⟩
 by_cases p:b=e
 .subst p;exact w
 .exact⟨u,k b u p q⟩
end
def yK(h:aB)(H:Hp):List af:=(cr h.objs.size).filter λa=>(H a).isSome
def nL(h:aB)(H:Hp):aB:=PySem.W.hideAll h (yK h H)
theorem Kt(h:aB)(H:Hp):(nL h H).objs.size=h.objs.size:=PySem.W.hideAll_size _ _
theorem OV{h:aB}{H:Hp}{b:af}{o:Obj}(e:h.get? b=aa o)(n:H b=ae):(nL h H).get? b=aa o :=PySem.W.hideAll_get _ e λa=>by have q:(H b).isSome=ah:=(o_.mp a).2;rw[n]at q;simp at q
theorem UT{h:aB}{H:Hp}{b:af}{o:Obj}(e:(nL h H).get? b=aa o):h.get? b=aa o/\H b=ae:=by
 have a:h.get? b=aa o:=PySem.W.of_hideAll (yK h H) e;refine⟨a,?_⟩;cases q:H b with
 |none=>rfl
 |some x=>
  have c:b∈yK h H:=o_.mpr ⟨kn.mpr (bC a),by simp[q]⟩;have z:(nL h H).get? b=ae:=PySem.W.hideAll_none (yK h H) c;rw[z]at e;cases e
def Q6(g h:aB)(L:af):List (af×Obj):=(cr h.objs.size).filterMap λa=>if a=L\/(g.get? a).isSome=ah then ae else(h.get? a).map λo=>(a,o)
def rest(g h:aB)(L d:af):List (af×Obj):=(Q6 g h L).filter λp=>decide (p.1≠d)
structure Mod(K:ay)(mg:Str->Option ai)(base:aB):Prop where
 kin:K.In base
 glob:base.Ns bU mg
 blt:∃mb,base.Ns qY mb/\∀x:Str,x≠"__name__"->mb x=fk x
 nolimit:base.NoLimit
 bm:∃bm ob,mg "__builtins__"=aa (.ref bm)/\bm≠qY/\base.get? bm=aa ob/\ob.cls=.type "module"/\ob.dict=aa qY/\ob.data=.plain
set_option genInjectivity false in
structure Cx where
 prog:aN
 w:aG
 K:ay
 mg:Str->Option ai
 base:aB
 A:aT
 N:List Str
 s₀:am
 H₀:Hp
 env:Env
 outer:List Env
 stack:List Env
 ex:List af
 fn:Str->Bool
 calm:Bool
 pn:List (af×Obj)
 xe:ai->am->Prop
def fF(l:List Env):List af:=l.filterMap (·.frame)
abbrev Cx.fs(X:Cx):List af:=fF X.outer
def fh(a:d9)(x:Str):Prop:=a.names.lookup x=aa .local\/a.names.lookup x=aa .cell\/a.names.lookup x=aa .free
def Loc(a:d9)(x:Str):Prop:=a.names.lookup x=aa .local\/a.names.lookup x=aa .cell
def Look(a:Env)(h:aB)(m:Str->Option ai)(x:Str)(u:ai):Prop :=(a.kindOf x=aa .local/\m x=aa u)\/((a.kindOf x=aa .cell\/a.kindOf x=aa .free)/\∃c,a.cells.lookup x=aa c/\h.IsCell c (aa u))
def Ck:List Str:=["least_ending"]
def xq(K:ay)(H:Hp):Prop:=∀x∈Ck,∀c P,qZ K x=aa (c,P)->H P=aa (.tbl (x++".<locals>.<lambda>"))
set_option genInjectivity false in
structure Cx.Ok(X:Cx):Prop where
 mod:Mod X.K X.mg X.base
 kind:X.env.scope.kind=.function
 glob:X.env.globals=bU
 blt:X.env.builtins=qY
 above:X.s₀.heap.objs.size<=X.env.locals
 inj:∀x y c,X.env.cells.lookup x=aa c->X.env.cells.lookup y=aa c->x=y
 has:∀x,(X.env.kindOf x=aa .cell\/X.env.kindOf x=aa .free)->∃c,X.env.cells.lookup x=aa c
 cab:∀x c,X.fn x=ah->X.env.cells.lookup x=aa c->X.s₀.heap.objs.size<=c
 hd:X.calm=ah->X.A.handled=ae
 frames:X.A.frames=aa X.stack
 stk:X.stack=X.outer\/(X.stack=X.env::X.outer/\X.env.frame=aa X.env.locals)
 exf:∀b∈X.ex,b≠X.env.locals/\∀x c,X.env.cells.lookup x=aa c->c≠b
 bs:∀b o,X.base.get? b=aa o->X.s₀.heap.get? b=aa o/\X.H₀ b=ae
 bsz:X.base.objs.size<=X.s₀.heap.objs.size
 noex:∀b o,X.base.get? b=aa o->b∉X.ex
 exfs:∀b∈X.ex,b∉X.fs
 funs:X.s₀.heap.FunFrames X.base X.outer
 frf:∀b∈X.fs,X.H₀ b=ae
 tab:xq X.K X.H₀
structure Inv(X:Cx)(ag:List (af×Obj))(σ:List (Option V))(H:Hp)(s:am):Prop where
 ok:X.Ok
 os:s.os=X.s₀.os
 bare:n5 s.gens
 base:Un X.fs X.ex X.H₀ H X.s₀.heap s.heap
 loc:∃m,s.heap.Ns X.env.locals m/\∀(i:Nat) (x:Str) (v:V),X.N[i]?=aa x->σ[i]?=aa (aa v)->fh X.env.scope x->∃u,RelV v u/\Look X.env s.heap m x u
 cell:∀x c,X.env.cells.lookup x=aa c->∃v,s.heap.IsCell c v
 free:H X.env.locals=ae
 freeC:∀x c,X.env.cells.lookup x=aa c->H c=ae
 pin:∀p∈X.pn++ag,s.heap.get? p.1=aa p.2/\H p.1=ae/\p.1≠X.env.locals/\p.1∉X.fs/\∀v,p.2.data≠.cell v
 hok:df X.prog X.w H s.heap
 len:σ.length=X.N.length
section
variable{X:Cx}{f:List (af×Obj)}{g:List (Option V)}{H w:Hp}{s:am}{h':aB}
theorem Cx.Ok.nofr(ok:X.Ok){b:af}{o:Obj}(e:X.base.get? b=aa o):b∉X.fs:=λa=>by
 have:=(ok.funs.mem a).1;rw[e]at this;cases this
theorem Inv.bs(I:Inv X f g H s):∀b o,X.base.get? b=aa o->s.heap.get? b=aa o/\H b=ae:=λb o e=>⟨I.base.keep b o (I.ok.bs b o e).1 (I.ok.bs b o e).2 (I.ok.nofr e) (I.ok.noex b o e),I.base.free b o (I.ok.bs b o e).1 (I.ok.bs b o e).2 (I.ok.noex b o e)⟩
theorem Inv.bk(I:Inv X f g H s):∀b o,X.base.get? b=aa o->s.heap.get? b=aa o:=λb o e=>(I.bs b o e).1
theorem Inv.mod(I:Inv X f g H s):Mod X.K X.mg X.base:=I.ok.mod
theorem Inv.kIn(I:Inv X f g H s):X.K.In s.heap:=I.ok.mod.kin.keeps I.bk
theorem Inv.lt(I:Inv X f g H s):X.env.locals<s.heap.objs.size:=let ⟨_,hn,_⟩:=I.loc;hn.lt
theorem Inv.sz(I:Inv X f g H s):X.s₀.heap.objs.size<=s.heap.objs.size:=cX I.ok.above (li I.lt)
theorem Inv.nofs(I:Inv X f g H s){a:af}(h:s.heap.objs.size<=a):a∉X.fs:=λc=>by obtain⟨_,o,b,_⟩:=I.ok.funs.mem c;exact absurd (gE (bC b) (cX I.sz h)) (fj _)
theorem Inv.cne(I:Inv X f g H s):∀x c,X.env.cells.lookup x=aa c->c≠X.env.locals:=λx c e z=>by
 obtain⟨v,o,a,b⟩:=I.cell x c e;obtain⟨m,⟨i,j,l,h,d,_⟩,_⟩:=I.loc;rw[z,h]at a;cases a;rw[d]at b;cases b
theorem Inv.tab(I:Inv X f g H s):xq X.K H:=λx a c P h=>I.base.tbls P _ (I.ok.tab x a c P h)
theorem Inv.funs(I:Inv X f g H s):s.heap.FunFrames X.base X.outer:=by
 have all:∀(l:List Env),(∀b∈fF l,b∈X.fs)->X.s₀.heap.FunFrames X.base l->s.heap.FunFrames X.base l:=by
  intro l
  induction l with
  |nil=>intro _ _;trivial
  |cons v r i=>intro h p;obtain⟨q,⟨L,o,a,n,m,u⟩,j⟩:=p;have d:L∈X.fs:=h L (by unfold fF;rw[mJ,a];exact fK);obtain⟨x,e⟩:=I.base.slot L o m (I.ok.frf L d) d λz=>I.ok.exfs L z d;exact⟨q,⟨L,_,a,n,e,u⟩,i (λb c=>h b (by unfold fF;rw[mJ,a];exact eJ _ c)) j⟩
 exact all X.outer (λ_ c=>c) I.ok.funs
theorem Inv.stack(I:Inv X f g H s):s.heap.FunFrames X.base X.stack:=by
 rcases I.ok.stk with e|⟨e,b⟩
 .rw[e];exact I.funs
 .rw[e];obtain⟨m,a,_⟩:=I.loc;refine .cons (by rw[I.ok.kind];decide) b a ?_ I.funs;exact CG (cX I.ok.bsz I.ok.above)
theorem Inv.stkSub(I:Inv X f g H s):∀b∈fF X.stack,b∈X.env.locals::X.fs:=λb a=>by
 rcases I.ok.stk with e|⟨e,c⟩
 .rw[e]at a;exact eJ _ a
 .rw[e]at a;unfold fF at a;rw[mJ,c]at a;exact a
theorem Inv.stkFree(I:Inv X f g H s):∀b∈fF X.stack,H b=ae:=λb a=>by
 rcases bn.mp (I.stkSub b a)with e|a
 .rw[e];exact I.free
 .obtain⟨_,o,c,_⟩:=I.ok.funs.mem a;exact I.base.free b o c (I.ok.frf b a) λz=>I.ok.exfs b z a
theorem Inv.step{g':Array GenState}{t':Nat}{d':Drawn}{ch:List af}(I:Inv X f g H s)(L:∀b∈ch,(b∈X.ex\/X.s₀.heap.objs.size<=b)/\b≠X.env.locals/\(∀x c,X.env.cells.lookup x=aa c->c≠b)/\∀p∈X.pn++f,p.1≠b)(keep:∀b o,b≠X.env.locals->b∉X.fs->b∉ch->s.heap.get? b=aa o->H b=ae->h'.get? b=aa o)(A:∀b o,b≠X.env.locals->b∈X.fs->b∉ch->s.heap.get? b=aa o->H b=ae->∃O,h'.get? b=aa {o with slots:=O}) (free:∀b o,b∉ch->s.heap.get? b=aa o->H b=ae->w b=ae)(B:∀b o,b∉ch->s.heap.get? b=aa o->∃J,h'.get? b=aa J)(F:∀b xs,H b=aa (.tup xs)->w b=aa (.tup xs)) (M:∀b o u,H b=aa (.frz o u)->w b=aa (.frz o u)) (G:∀b q,H b=aa (.tbl q)->w b=aa (.tbl q))(ns:∀m,s.heap.Ns X.env.locals m->h'.Ns X.env.locals m) (P:df X.prog X.w w h') (hg:n5 g'):Inv X f g w {s with heap:=h',gens:=g',drawn:=d',toks:=t'}:=by
 have K:∀b o,X.s₀.heap.get? b=aa o->b≠X.env.locals:=λb o e=>cZ (gE (bC e) I.ok.above);have y:∀b o,X.s₀.heap.get? b=aa o->b∉X.ex->b∉ch:=λb o e a C=>by
  rcases(L b C).1 with z|z
  .exact a z
  .exact absurd (gE (bC e) z) (fj _)
 have j:∀x c,X.env.cells.lookup x=aa c->∀v,s.heap.IsCell c v->h'.IsCell c v:=λx c e v ⟨o,E,Q⟩=>by
  have h:c∉ch:=λz=>(L c z).2.2.1 x c e rfl;by_cases Z:c∈X.fs
  .obtain⟨O,q⟩:=A c o (I.cne x c e) Z h E (I.freeC x c e);exact⟨_,q,Q⟩
  .exact⟨o,keep c o (I.cne x c e) Z h E (I.freeC x c e),Q⟩
 refine⟨I.ok,I.os,hg,⟨λb o e n C a=>?_,λb o e n C a=>?_,λb o e n a=>?_,λb o e a=>?_,λb xs e=>F b xs (I.base.tups b xs e),λb o xs e=>M b o xs (I.base.frzs b o xs e),λb ps e=>?_⟩,?_,λx c e=>?_,?_,λx c e=>?_,λp Y=>?_,P,I.len⟩
 .exact keep b o (K b o e) C (y b o e a) (I.base.keep b o e n C a) (I.base.free b o e n a)
 .obtain⟨O,D⟩:=I.base.slot b o e n C a;obtain⟨N,S⟩:=A b _ (K b o e) C (y b o e a) D (I.base.free b o e n a);exact⟨N,S⟩
 .obtain⟨J,D⟩:=I.base.there b o e a;exact free b J (y b o e a) D (I.base.free b o e n a)
 .obtain⟨J,D⟩:=I.base.there b o e a;exact B b J (y b o e a) D
 .exact G b _ (I.base.tbls b ps e)
 .obtain⟨m,hn,hl⟩:=I.loc;refine⟨m,ns m hn,λi x v D S e3=>?_⟩;obtain⟨u,r,l⟩:=hl i x v D S e3;refine⟨u,r,?_⟩;rcases l with l|⟨k,c,e,z⟩
  .exact .inl l
  .exact .inr ⟨k,c,e,j x c e _ z⟩
 .obtain⟨v,z⟩:=I.cell x c e;exact⟨v,j x c e v z⟩
 .obtain⟨m,⟨o,_,_,E,_⟩,_⟩:=I.loc;exact free _ o (λz=>(L _ z).2.1 rfl) E I.free
 .obtain⟨v,o,E,Q⟩:=I.cell x c e;exact free c o (λz=>(L c z).2.2.1 x c e rfl) E (I.freeC x c e)
 .obtain⟨e,n,W,T,d⟩:=I.pin p Y;have h:p.1∉ch:=λz=>(L p.1 z).2.2.2 p Y rfl;exact⟨keep p.1 p.2 W T h e n,free p.1 p.2 h e n,W,T,d⟩
theorem Inv.un{t':Nat}(I:Inv X f g H s)(u:Un X.fs [] H w s.heap h')(a:df X.prog X.w w h'):Inv X f g w {s with heap:=h',toks:=t'}:=by
 obtain⟨m,⟨o,A,B,i,r⟩,_⟩:=id I.loc;obtain⟨v,q⟩:=u.any i I.free (by simp);exact I.step (g':=s.gens) (d':=s.drawn) (ch:=[]) (λ_ z=>nomatch z) (λb o _ c _ e n=>u.keep b o e n c (by simp)) (λb o _ c _ e n=>u.slot b o e n c (by simp)) (λb o _ e n=>u.free b o e n (by simp)) (λb o _ e=>u.there b o e (by simp)) u.tups u.frzs u.tbls (λy p=>by
  obtain⟨x,d,h,j,l⟩:=p;rw[i]at j;cases j;exact⟨_,d,h,q,l⟩) a I.bare
theorem Inv.call{g':Array GenState}{t':Nat}{d':Drawn}{ch:List af}(I:Inv X f g H s)(u:Un (fF X.stack) ch H w s.heap h')(d:df X.prog X.w w h')(B:n5 g')(l:∀b∈ch,(b∈X.ex\/X.s₀.heap.objs.size<=b)/\b≠X.env.locals/\(∀x c,X.env.cells.lookup x=aa c->c≠b)/\∀p∈X.pn++f,p.1≠b):Inv X f g w {s with heap:=h',gens:=g',drawn:=d',toks:=t'}:=by
 obtain⟨m,⟨o,G,J,q,r⟩,_⟩:=id I.loc;obtain⟨D,h⟩:=u.any q I.free λz=>(l _ z).2.1 rfl;exact I.step (ch:=ch) l (λb o h C a e n=>u.keep b o e n (λz=>(bn.mp (I.stkSub b z)).elim h C) a) (λb o _ _ a e n=>u.any e n a) (λb o a e n=>u.free b o e n a) (λb o a e=>u.there b o e a) u.tups u.frzs u.tbls (λF A=>by
  obtain⟨E,i,j,v,y⟩:=A;rw[q]at v;cases v;exact⟨_,i,j,h,y⟩) d B
theorem Inv.turned{t':Nat}{it:af}(I:Inv X f g H s)(k:∀b o,b≠it->s.heap.get? b=aa o->h'.get? b=aa o)(j:H it=ae)(h:it≠X.env.locals)(C:it∈X.ex\/X.s₀.heap.objs.size<=it) (B:∀x c,X.env.cells.lookup x=aa c->c≠it) (A:∀p∈X.pn++f,p.1≠it):Inv X f g H {s with heap:=h',toks:=t'}:=by
 have d:∀b u,H b=aa u->b≠it:=λb u e z=>by rw[z,j]at e;cases e
 refine I.step (g':=s.gens) (d':=s.drawn) (ch:=[it]) (λb y=>?_) (λb o _ _ a e _=>k b o (λz=>a (by simp[z])) e) (λb o _ _ a e _=>⟨o.slots,k b o (λz=>a (by simp[z])) e⟩) (λ_ _ _ _ n=>n)
  (λb o a e=>⟨o,k b o (λz=>a (by simp[z])) e⟩) (λ_ _ e=>e) (λ_ _ _ e=>e) (λ_ _ e=>e) (λm l=>?_) (λb u e=>?_) I.bare
 .have e:b=it:=by simpa using y
  subst e;exact⟨C,h,B,A⟩
 .obtain⟨o,D,E,i,r⟩:=l;exact⟨o,D,E,k _ o (dW h) i,r⟩
 .refine(I.hok b u e).stay (λc v a q=>k c v ?_ q) (λ_ q=>q) λ_ _ q=>q;rcases a with z|z
  .rw[z];exact d b u e
  .exact d c _ z
theorem Inv.tok(I:Inv X f g H s)(t:Nat):Inv X f g H {s with toks:=t}:=I.un (h':=s.heap) (t':=t) Un.refl I.hok
theorem Inv.kept{t':Nat}(I:Inv X f g H s)(k:∀b u,s.heap.get? b=aa u->h'.get? b=aa u):Inv X f g H {s with heap:=h',toks:=t'}:=I.un (Un.kept k) (I.hok.kept k)
theorem Inv.laid{a:af}{o:HO}{t':Nat}(I:Inv X f g H s)(k:∀b u,s.heap.get? b=aa u->h'.get? b=aa u)(c:s.heap.objs.size<=a)(new:bR X.prog X.w (upd H a o) h' a o):Inv X f g (upd H a o) {s with heap:=h',toks:=t'}:=I.un (Un.laid k c (I.hok.fresh c)) (I.hok.laid k c new)
theorem Inv.write{x e:af}{o:HO}{h:Nat}(I:Inv X f g H s)(c:uW (H x))(d:e=x\/H e=aa (.own x))(k:∀b u,b≠e->s.heap.get? b=aa u->h'.get? b=aa u)(a:∃u,h'.get? e=aa u)(new:bR X.prog X.w (upd H x o) h' x o):Inv X f g (upd H x o) {s with heap:=h',toks:=h}:=I.un (Un.write c d k a) (I.hok.write c d k a new)
theorem Inv.pins_of{a:List (af×Obj)}(I:Inv X f g H s)(h:∀p∈a,s.heap.get? p.1=aa p.2/\H p.1=ae/\p.1≠X.env.locals/\p.1∉X.fs/\∀v,p.2.data≠.cell v):Inv X a g H s :=⟨I.ok,I.os,I.bare,I.base,I.loc,I.cell,I.free,I.freeC,λp b=>(jg.mp b).elim (λz=>I.pin p (vS _ z)) (h p),I.hok,I.len⟩
theorem Av{N:List Str}(c:N.Nodup){i j:Nat}{x:Str}(a:N[i]?=aa x)(b:N[j]?=aa x):i=j:=by obtain⟨m,h⟩:=c_.mp a;obtain⟨l,d⟩:=c_.mp b;exact(List.getElem_inj c).mp (h.trans d.symm)
theorem HH{M:Model}{A:aT}{E:ai->am->Prop}{i:Nat}{x:Str}{v:V}{u:ai}{Q:Unit->am->Prop}(I:Inv X f g H s)(hN:X.N.Nodup)(T:X.N[i]?=aa x)(F:Loc X.env.scope x)(r:RelV v u)(h:∀s',Inv X f (g.set i (aa v)) H s'->(∃a,ko a s.heap s'.heap/\(a=X.env.locals\/X.env.cells.lookup x=aa a))->Q () s') (hf:X.fn x=ah\/X.env.scope.names.lookup x=aa .local:=by first|exact .inl rfl|exact .inr rfl|assumption):ar M A (storeName X.env x u) Q E s:=by
 obtain⟨m,hn,hl⟩:=id I.loc;have oC:(X.env.scope.kind == .class||(X.env.scope.kind == .module&&X.env.locals != X.env.globals))=aj:=by rw[I.ok.kind];rfl
 have K:i<g.length:=by rw[I.len];exact(c_.mp T).1
 have cne:=I.cne;have B:∀{a:af}{h':aB},(∃o,s.heap.get? a=aa o/\H a=ae)->ko a s.heap h'->df X.prog X.w H h':=λ{a h'} ha l b ob e=>by
  obtain⟨_,_,wq⟩:=ha;refine(I.hok b ob e).stay (λc Y D q=>(l.2 c ?_).trans q) (λ_ q=>q) λ_ _ q=>q;rintro rfl;rcases D with rfl|D
  .rw[wq]at e;cases e
  .rw[wq]at D;cases D
 rcases F with J|J
 .refine wpAny_storeName_local J hn (λh' ug l=>?_) oC;obtain⟨oL,_,_,m8,_⟩:=id hn;refine h _ ⟨I.ok,I.os,I.bare,⟨λb o e n O F=>?_,λb o e n O F=>?_,I.base.free,λb o e F=>?_,I.base.tups,I.base.frzs,I.base.tbls⟩,⟨_,ug,λj y v' C G e3=>?_⟩,λy c e=>?_,I.free,I.freeC,λp hp=>?_,B ⟨oL,m8,I.free⟩ l,by simpa using I.len⟩ ⟨_,l,.inl rfl⟩
  .exact(l.2 b (cZ (gE (bC e) I.ok.above))).trans (I.base.keep b o e n O F)
  .obtain⟨sl,C⟩:=I.base.slot b o e n O F;exact⟨sl,(l.2 b (cZ (gE (bC e) I.ok.above))).trans C⟩
  .obtain⟨o',C⟩:=I.base.there b o e F;exact⟨o',(l.2 b (cZ (gE (bC e) I.ok.above))).trans C⟩
  .by_cases L:j=i
   .subst L;rw[T]at C;cases C;rw[fZ K]at G;cases G;exact⟨u,r,.inl ⟨J,by simp⟩⟩
   .rw[eK (dW L)]at G;obtain⟨u',r',q⟩:=hl j y v' C G e3;refine⟨u',r',?_⟩;rcases q with⟨k,e⟩|⟨k,c,e,z⟩
    .refine .inl ⟨k,?_⟩;have:y≠x:=λe=>L (Av hN C (e ▸ T));simp[this,e]
    .exact .inr ⟨k,c,e,z.sameBut l (cne y c e)⟩
  .obtain⟨Y,z⟩:=I.cell y c e;exact⟨Y,z.sameBut l (cne y c e)⟩
  .obtain⟨e,n,Z,nf,d⟩:=I.pin p hp;exact⟨(l.2 p.1 Z).trans e,n,Z,nf,d⟩
 .have N:X.fn x=ah:=by
   rcases hf with z|z
   .exact z
   .rw[z]at J;cases J
  obtain⟨c,D⟩:=I.ok.has x (.inl J);obtain⟨Y,z⟩:=I.cell x c D;refine wpAny_storeName_cell I.ok.kind J D z (λh' jG l=>?_);obtain⟨oc,S,P⟩:=id z;refine h {s with heap:=h'} ⟨I.ok,I.os,I.bare,⟨λb o e n O F=>?_,λb o e n O F=>?_,I.base.free,λb o e F=>?_,I.base.tups,I.base.frzs,I.base.tbls⟩,⟨m,hn.sameBut l (dW (cne x c D)),λj y v' C G e3=>?_⟩,λy c' e=>?_,I.free,I.freeC,λp hp=>?_,B ⟨oc,S,I.freeC x c D⟩ l,by simpa using I.len⟩ ⟨c,l,.inr D⟩
  .exact(l.2 b (cZ (gE (bC e) (I.ok.cab x c N D)))).trans (I.base.keep b o e n O F)
  .obtain⟨sl,C⟩:=I.base.slot b o e n O F;exact⟨sl,(l.2 b (cZ (gE (bC e) (I.ok.cab x c N D)))).trans C⟩
  .obtain⟨o',C⟩:=I.base.there b o e F;exact⟨o',(l.2 b (cZ (gE (bC e) (I.ok.cab x c N D)))).trans C⟩
  .by_cases L:j=i
   .subst L;rw[T]at C;cases C;rw[fZ K]at G;cases G;exact⟨u,r,.inr ⟨.inl J,c,D,jG⟩⟩
   .rw[eK (dW L)]at G;obtain⟨u',r',q⟩:=hl j y v' C G e3;refine⟨u',r',?_⟩;rcases q with q|⟨k,c',e,z'⟩
    .exact .inl q
    .refine .inr ⟨k,c',e,z'.sameBut l ?_⟩;rintro rfl;exact L (Av hN C (I.ok.inj _ _ _ e D ▸ T))
  .by_cases W:c'=c
   .subst W;exact⟨_,jG⟩
   .obtain⟨w2,z2⟩:=I.cell y c' e;exact⟨w2,z2.sameBut l W⟩
  .obtain⟨e,n,Z,nf,d⟩:=I.pin p hp;refine⟨(l.2 p.1 ?_).trans e,n,Z,nf,d⟩;intro q;rw[q,S]at e;have q':oc=p.2:=dO e;exact d Y (by rw[<-q'];exact P)
theorem yH{M:Model}{A:aT}{E:ai->am->Prop}{i:Nat}{x:Str}{v:V}{u:ai}{Q:Unit->am->Prop}(I:Inv X f g H s)(d:X.N.Nodup)(b:X.N[i]?=aa x)(a:Loc X.env.scope x)(r:RelV v u)(h:∀s',Inv X f (g.set i (aa v)) H s'->Q () s') (c:X.fn x=ah\/X.env.scope.names.lookup x=aa .local:=by first|exact .inl rfl|exact .inr rfl|assumption):ar M A (storeName X.env x u) Q E s :=HH I d b a r (λs' j _=>h s' j) c
theorem Inv.call'{s':am}{ch:List af}(I:Inv X f g H s)(i:s'.os=s.os)(u:Un (fF X.stack) ch H w s.heap s'.heap)(a:df X.prog X.w w s'.heap)(j:n5 s'.gens)(h:∀b∈ch,(b∈X.ex\/X.s₀.heap.objs.size<=b)/\b≠X.env.locals/\(∀x c,X.env.cells.lookup x=aa c->c≠b)/\∀p∈X.pn++f,p.1≠b):Inv X f g w s':=by obtain⟨h',g',d',t',d⟩:=s';have e:d=s.os:=i;subst e;exact I.call (g':=g') (t':=t') (d':=d') u a j h
end
abbrev XK:=ai->Option af->Hp->Prop
abbrev St:=List (Option V)
abbrev VK:=V->Hp->Prop
abbrev TE:=St->Hp->VK->Prop
abbrev TT:=St->Hp->(Bool->Hp->Prop)->Prop
abbrev TA:=St->Hp->(List V->Hp->Prop)->Prop
structure lG where
 nx:St->Hp->Prop
 rt:VK
 bk:St->Hp->Prop:=λ_ _=>False
 ct:St->Hp->Prop:=λ_ _=>False
abbrev TS:=lG->St->Hp->Prop
def EP(X:Cx)(d:List (af×Obj))(b:St)(Q:VK)(u:ai)(c:am):Prop:=∃v a,Inv X d b a c/\RelV v u/\Q v a
def TP(X:Cx)(f:List (af×Obj))(c:St)(Q:Bool->Hp->Prop)(b:Bool)(d:am):Prop:=∃a,Inv X f c a d/\Q b a
def AP(X:Cx)(g:List (af×Obj))(c:St)(Q:List V->Hp->Prop)(d:List ai)(f:am):Prop:=∃a b,Inv X g c b f/\bt a d/\Q a b
def SP(X:Cx)(c:List (af×Obj))(D:lG)(f:Flow)(s':am):Prop :=
 match f with
 |.next=>∃a b,Inv X c a b s'/\D.nx a b
 |.brk=>∃a b,Inv X c a b s'/\D.bk a b
 |.cont=>∃a b,Inv X c a b s'/\D.ct a b
 |.ret u=>∃v a b,Inv X c a b s'/\RelV v u/\D.rt v b
def PE(X:Cx)(e:aC)(t:TE):Prop :=
 ∀(b:List (af×Obj)) (s:am) (a:St) (H:Hp) (Q:VK),Inv X b a H s->t a H Q->ar (au X.prog X.w) X.A (aX e X.env) (EP X b a Q) X.xe s
def PT(X:Cx)(e:aC)(t:TT):Prop :=
 ∀(b:List (af×Obj)) (s:am) (a:St) (H:Hp) (Q:Bool->Hp->Prop),Inv X b a H s->t a H Q->ar (au X.prog X.w) X.A (n6 e X.env (aX e X.env)) (TP X b a Q) X.xe s
def PW(X:Cx)(e:aC)(t:TT):Prop :=
 ∀(c:Sem ai) (b:List (af×Obj)) (s:am) (a:St) (H:Hp) (Q:Bool->Hp->Prop),Inv X b a H s->t a H Q->ar (au X.prog X.w) X.A (n6 e X.env c) (TP X b a Q) X.xe s
def PA(X:Cx)(d:List aC)(t:TA):Prop :=
 ∀(b:Pos) (c:List (af×Obj)) (s:am) (a:St) (H:Hp) (Q:List V->Hp->Prop),Inv X c a H s->t a H Q->ar (au X.prog X.w) X.A (spliced (c7 b (aU d X.env))) (AP X c a Q) X.xe s
def PS(X:Cx)(c:a8)(t:TS):Prop :=
 ∀(b:List (af×Obj)) (s:am) (a:St) (H:Hp) (D:lG),Inv X b a H s->t D a H->ar (au X.prog X.w) X.A (exec c X.env) (SP X b D) X.xe s
def lK(X:Cx)(c:List a8)(t:TS):Prop :=
 ∀(b:List (af×Obj)) (s:am) (a:St) (H:Hp) (D:lG),Inv X b a H s->t D a H->ar (au X.prog X.w) X.A (execs c X.env) (SP X b D) X.xe s
theorem aW{b:Type}{t:Sem b}{Q c:b->am->Prop}{M:Model}{A:aT}{E:ai->am->Prop}{s:am}(h:ar M A t Q E s)(d:∀a s,Q a s->c a s):ar M A t c E s:=eW h d λ_ _ x=>x
section
variable{X:Cx}
theorem TB{a b:aC}{n o:TE}(D:PE X a n)(C:PE X b o){l:List (af×Obj)}{s:am}{c:St}{H:Hp}{R:V->V->Hp->Prop}(I:Inv X l c H s)(h:n c H λx m=>o c m λy d=>R x y d){p:Type}{Q:p->am->Prop}{f:ai->ai->Sem p}(B:∀v u j x y d,Inv X l c d j->RelV x v->RelV y u->R x y d->ar (au X.prog X.w) X.A (f v u) Q X.xe j):ar (au X.prog X.w) X.A (aX a X.env) (λv i=>ar (au X.prog X.w) X.A (aX b X.env) (λu g=>ar (au X.prog X.w) X.A (f v u) Q X.xe g) X.xe i) X.xe s:=by refine aW (D l s c H _ I h) λv q ⟨x,m,F,w,A⟩=>?_;refine aW (C l q c m _ F A) λu j ζ=>?_;obtain⟨y,d,E,r,z⟩:=ζ;exact B v u j x y d E w r z
def y0(i:Nat):TE:=λa H Q=>∃v,a[i]?=aa (aa v)/\Q v H
def tC(v:V):TE:=λ_ H Q=>Q v H
abbrev ad(x:Str):=(x==("__debug__":Str))=aj
theorem gC{i:Nat}{x:Str}{g:Pos}(p:X.N[i]?=aa x)(j:fh X.env.scope x)(d:ad x:=by decide)(q:(x==("__classdict__":Str))=aj:=by decide):PE X (.Name x g) (y0 i):=by
 intro w s f H Q I h;obtain⟨v,e,h⟩:=h;obtain⟨m,n,o⟩:=I.loc;obtain⟨u,r,l⟩:=o i x v p e j;have b:EP X w f Q u s:=⟨v,H,I,r,h⟩
 rcases l with⟨a,hm⟩|⟨a,c,hc,zY⟩
 .exact wpAny_Name (wpAny_loadName_local I.ok.kind a n hm b) d
 .rcases a with a|a
  .exact wpAny_Name (wpAny_loadName_cell I.ok.kind a hc zY b) d
  .exact wpAny_Name (wpAny_loadName_free I.ok.kind a hc zY b q) d
theorem Iu{i j g}:PE X (.Constant (.int i) j g) (tC (.int i)):=λ_ _ _ H _ I h=>wpAny_Constant_int ⟨.int i,H,I.tok _,⟨_,rfl⟩,h⟩
theorem QA{b j g}:PE X (.Constant (.bool b) j g) (tC (.bl b)):=λ_ _ _ H _ I h=>Constant_bool ⟨.bl b,H,I,rfl,h⟩
theorem QS{j g}:PE X (.Constant .none j g) (tC .non):=λ_ _ _ H _ I h=>Constant_none ⟨.non,H,I,rfl,h⟩
theorem O9{x j g}:PE X (.Constant (.str x) j g) (tC (.str x)):=λ_ _ _ H _ I h=>Calls.Constant_str ⟨.str x,H,I.tok _,⟨_,rfl⟩,h⟩
def Gl(X:Cx)(x:Str):Prop:=X.env.kindOf x=aa .globalImplicit
theorem vM{E:ai->am->Prop}{f:List (af×Obj)}{s:am}{a:St}{H:Hp}{x:Str}{u:ai}{g:Pos}{Q:ai->am->Prop}(I:Inv X f a H s)(c:Gl X x)(b:X.mg x=aa u)(h:Q u s)(d:ad x:=by decide):ar (au X.prog X.w) X.A (aX (.Name x g) X.env) Q E s :=Calls.Name_function_global I.ok.kind c (Calls.loadGlobal_global (by rw[I.ok.glob];exact I.mod.glob.keeps I.bk) b h) d
theorem yW{E:ai->am->Prop}{m:List (af×Obj)}{s:am}{a:St}{H:Hp}{x:Str}{u:ai}{g:Pos}{Q:ai->am->Prop}(I:Inv X m a H s)(f:Gl X x)(d:X.mg x=ae)(b:fk x=aa u)(h:Q u s)(c:x≠"__name__":=by decide) (i:ad x:=by decide):ar (au X.prog X.w) X.A (aX (.Name x g) X.env) Q E s:=by obtain⟨n,l,j⟩:=I.mod.blt;exact Calls.Name_function_global I.ok.kind f (Calls.loadGlobal_builtin (by rw[I.ok.glob];exact I.mod.glob.keeps I.bk) d (by rw[I.ok.blt];exact l.keeps I.bk) ((j x c).trans b) h) i
theorem BC{x:Str}{v:V}{u:ai}{g:Pos}(b:Gl X x)(a:X.mg x=aa u)(r:RelV v u)(c:ad x:=by decide):PE X (.Name x g) (tC v) :=λ_ _ _ H _ I h=>vM I b a ⟨v,H,I,r,h⟩ c
theorem OB{x:Str}{v:V}{u:ai}{g:Pos}(d:Gl X x)(c:X.mg x=ae)(a:fk x=aa u)(r:RelV v u)(b:x≠"__name__":=by decide)(f:ad x:=by decide):PE X (.Name x g) (tC v) :=λ_ _ _ H _ I h=>yW I d c a ⟨v,H,I,r,h⟩ b f
def RV(n o:TE)(k:Int->Int->Hp->Prop):St->Hp->Prop:=λa H=>n a H λx c=>o a c λy b=>∃i j,x=.int i/\y=.int j/\k i j b
variable{a b:aC}{n o:TE}{g:Pos}
def PC(X:Cx)(i:CmpOp)(a b:aC)(t:TE):Prop :=
 ∀(h:List (af×Obj)) (s:am) (f:St) (H:Hp) (Q:VK),Inv X h f H s->t f H Q ->
  ar (au X.prog X.w) X.A (aX a X.env) (λv d=>ar (au X.prog X.w) X.A (aX b X.env) (λu c=>ar (au X.prog X.w) X.A (dX i v u) (EP X h f Q) X.xe c) X.xe d) X.xe s
theorem Um(b:aC){c:CmpOp}(h:c≠.In)(d:c≠.NotIn):pc c b=aj:=by
 have i:(c == CmpOp.In)=aj:=by cases c <;> first|rfl|exact absurd rfl h
 have f:(c == CmpOp.NotIn)=aj:=by cases c <;> first|rfl|exact absurd rfl d
 cases b <;> simp[pc,i,f]
def ET(p:Int->Int->Bool)(n o:TE):TE:=λc H Q=>RV n o (λi j d=>Q (.bl (p i j)) d) c H
abbrev Lz:TE->TE->TE:=ET λi j=>decide (j<i)
theorem Q_{d:CmpOp}{p:Int->Int->Bool}(z:PE X a n)(w:PE X b o)(c:∀(i j:Int) (t u:Tok) (Q:ai->am->Prop) (s:am),Q (.bool (p i j)) s->ar (au X.prog X.w) X.A (dX d (.int i t) (.int j u)) Q X.xe s):PC X d a b (ET p n o):=by intro D s C H Q I h;refine TB z w I h λv u l x y B A r m q=>?_;obtain⟨i,j,rfl,rfl,q⟩:=q;obtain⟨t,rfl⟩:=r;obtain⟨f,rfl⟩:=m;exact c i j t f _ l ⟨.bl _,B,A,rfl,q⟩
theorem Ku(d:PE X a n)(c:PE X b o):PC X .Gt a b (Lz n o):=Q_ d c λ_ _ _ _ _ _ h=>gt_int h
def tB(t:TE):TT:=λd H Q=>t d H λx f=>∃c,x=.bl c/\Q c f
theorem B9{f:CmpOp}{t:TE}(h:PC X f a b t)(i:pc f b=aj:=by first|exact Um _ (by decide) (by decide)|rfl):PT X (.Compare a [f] [b] g) (tB t):=by
 intro w s j H Q I p;refine wpAny_isTrue_Compare1 (aW (h w s j H _ I p) λv C i=>aW i λu B r=>aW r λc A ⟨x,z,y,l,m⟩=>?_) i;obtain⟨d,rfl,q⟩:=m;cases l;exact pe ⟨z,y,q⟩
theorem Se{e:aC}{t:TE}(h:PE X e t)(m:∀c,n6 e X.env c=(do let v <-c;standAt e.pos;holding [v] (truthy v)):=by intro _;rfl):PT X e (tB t):=by
 intro p s f H Q I l;refine isTrue_plain (aW (h p s f H _ I l) λv w ⟨x,u,r,i,j⟩=>?_) (m _);obtain⟨d,rfl,q⟩:=j;cases i;exact pe ⟨u,r,q⟩
variable{w z:TT}{rest:List aC}
def LF(t u:TT):TT:=λd H Q=>t d H λc f=>if c=ah then Q ah f else u d f Q
def TL(t:TT):TT:=λd H Q=>t d H λc f=>Q (!c) f
theorem OM(f:PT X a w):PW X (.BoolOp .Or [a] g) w:=by
 intro j i s d H Q I h;refine isTrue_or (aW (f i s d H Q I h) λc l e=>?_);cases c with
 |false=>exact isTrue_or_nil e
 |true=>exact e
theorem QL(r:PT X a w)(q:PW X (.BoolOp .Or (b::rest) g) z):PW X (.BoolOp .Or (a::b::rest) g) (LF w z):=by
 intro m i s d H Q I h;refine isTrue_or (aW (r i s d H _ I h) λc p ζ=>?_);obtain⟨l,j,f⟩:=ζ;cases c with
 |true=>exact⟨l,j,f⟩
 |false=>exact q m i p d l Q j f
theorem MP(f:PT X a w):PT X (.UnaryOp .Not a g) (TL w):=by intro i s d H Q I h;exact isTrue_not (f i s d H (λc j=>Q (!c) j) I h)
def MH(n o:TE):TE:=λd H Q=>n d H λx f=>∃c,x=.bl c/\if c=ah then o d f Q else Q (.bl aj) f
def PH(n:TE):TE:=λd H Q=>n d H λx f=>∃c,x=.bl c/\Q (.bl (!c)) f
theorem NP{op}{t:TE}(h:PE X a t):PE X (.BoolOp op [a] g) t:=λf s c H Q I d=>BoolOp_one (h f s c H Q I d)
theorem KH(r:PE X a n)(q:PE X (.BoolOp .And (b::rest) g) o):PE X (.BoolOp .And (a::b::rest) g) (MH n o):=by
 intro i s f H Q I h;refine BoolOp_and (aW (r i s f H _ I h) λv m ζ=>?_);obtain⟨x,l,j,p,d⟩:=ζ;obtain⟨c,rfl,d⟩:=d;cases p;refine pe ?_;cases c with
 |true=>exact q i m f l Q j d
 |false=>exact⟨.bl aj,l,j,rfl,d⟩
theorem SJ(j:PE X a n):PE X (.UnaryOp .Not a g) (PH n):=by
 intro l s f H Q I h;refine UnaryOp_ (aW (j l s f H _ I h) λv q ζ=>?_);obtain⟨x,p,m,i,d⟩:=ζ;obtain⟨c,rfl,d⟩:=d;cases i;exact not_of (pe ⟨.bl (!c),p,m,rfl,d⟩)
def OX(t:TT)(n o:TE):TE:=λd H Q=>t d H λc f=>if c=ah then n d f Q else o d f Q
theorem OE{c:aC}(q:PT X c w)(u:PE X a n)(r:PE X b o):PE X (.IfExp c a b g) (OX w n o):=by
 intro i s f H Q I h;refine wpAny_IfExp (aW (q i s f H _ I h) λd j ζ=>?_);obtain⟨p,m,l⟩:=ζ;cases d with
 |true=>exact u i j f p Q m l
 |false=>exact r i j f p Q m l
end
def b_(K:ay)(H:Hp)(a:af)(xs:List V):Prop :=
 Rd H a (.lst xs) \/
  ∃(o:Obj) (b:Array ai) (n:Nat),K.lookup a=aa o/\o.cls=.type "list"/\o.dict=ae/\o.data=.seq b n/\b.size<=bf/\bt xs b.toList
def cL(K:ay)(H:Hp)(a:af)(xs:List V):Prop :=
 Rd H a (.tup xs) \/
  ∃(o:Obj) (b:Array ai) (n:Nat),K.lookup a=aa o/\o.cls=.type "tuple"/\o.data=.seq b n/\b.size<=bf/\bt xs b.toList
def UV:ai->Option V
 |.none=>aa .non
 |.bool b=>aa (.bl b)
 |.int i _=>aa (.int i)
 |.str x _=>aa (.str x)
 |.bytes b _=>aa (.byt b)
 |.float b _=>aa (.flt b)
 |.ref a=>aa (.ref a)
 |.type n=>aa (.ty n)
 |_=>ae
theorem RelV.abs{x:V}{u:ai}(r:RelV x u):UV u=aa x:=by
 cases x with
 |non=>cases r;rfl
 |bl _=>cases r;rfl
 |int _=>obtain⟨t,rfl⟩:=r;rfl
 |str _=>obtain⟨t,rfl⟩:=r;rfl
 |byt _=>obtain⟨t,rfl⟩:=r;rfl
 |flt _=>obtain⟨t,rfl⟩:=r;rfl
 |ref _=>cases r;rfl
 |ty _=>cases r;rfl
theorem RelV.inj{x y:V}{u:ai}(r:RelV x u)(q:RelV y u):x=y:=dO (r.abs.symm.trans q.abs)
theorem bt.inj{xs a:List V}{b:List ai}(r:bt xs b)(s:bt a b):xs=a:=by
 unfold bt at r s
 induction r generalizing a with
 |nil=>cases s;rfl
 |cons r _ g=>
  cases s with
  |cons q t=>rw[r.inj q,g t]
section
variable{X:Cx}{g:List (af×Obj)}{c:St}{H:Hp}{s:am}{a:af}{b f:List V}
theorem b_.of{K:ay}(h:H a=aa (.lst b)):b_ K H a b:=.inl (.inl h)
theorem cL.of{K:ay}(h:H a=aa (.tup b)):cL K H a b:=.inl (.inl h)
theorem Inv.list(I:Inv X g c H s)(h:b_ X.K H a b):∃its:List ai,bt b its/\PlainL s.heap a its.toArray/\b.length<=bf:=by
 rcases h with h|⟨o,its,n,i,l,j,d,m,r⟩
 .obtain⟨z,its,n,r,e⟩:=h.ok I.hok;exact⟨its,r,⟨_,n,e,rfl,rfl,rfl⟩,z⟩
 .refine⟨its.toList,r,⟨o,n,I.kIn a o i,l,j,by simpa using d⟩,?_⟩;have e:=r.length;simp only[fL]at e;lia
theorem Inv.tuple(I:Inv X g c H s)(h:cL X.K H a b):∃d:List ai,bt b d/\IsTup s.heap a d.toArray/\b.length<=bf:=by
 rcases h with h|⟨o,d,n,j,l,i,m,r⟩
 .obtain⟨z,d,r,p,_⟩:=h.ok I.hok;exact⟨d,r,p,z⟩
 .refine⟨d.toList,r,⟨o,I.kIn a o j,l,n,by simpa using i⟩,?_⟩;have e:=r.length;simp only[fL]at e;lia
theorem Inv.list_inj(I:Inv X g c H s)(h:b_ X.K H a b)(q:b_ X.K H a f):b=f:=by
 obtain⟨j,r,⟨o,n,e,_,_,d⟩,_⟩:=I.list h;obtain⟨i,p,⟨u,v,l,_,_,m⟩,_⟩:=I.list q;rw[e]at l;cases l;rw[d]at m;injection m with d1 _;have:j=i:=by simpa using congrArg Array.toList d1
 subst this;exact r.inj p
theorem Inv.tuple_inj(I:Inv X g c H s)(h:cL X.K H a b)(q:cL X.K H a f):b=f:=by
 obtain⟨j,r,⟨o,e,_,n,d⟩,_⟩:=I.tuple h;obtain⟨i,p,⟨u,l,_,v,m⟩,_⟩:=I.tuple q;rw[e]at l;cases l;rw[d]at m;injection m with d1 _;have:j=i:=by simpa using congrArg Array.toList d1
 subst this;exact r.inj p
end
abbrev Cx.wish(X:Cx)(E:ai->am->Prop):Cx:={X with xe:=E}
abbrev Cx.nox(X:Cx):Cx:=X.wish λ_ _=>False
theorem Cx.Ok.wish{X:Cx}(ok:X.Ok)(E:ai->am->Prop):(X.wish E).Ok :=⟨ok.mod,ok.kind,ok.glob,ok.blt,ok.above,ok.inj,ok.has,ok.cab,ok.hd,ok.frames,ok.stk,ok.exf,ok.bs,ok.bsz,ok.noex,ok.exfs,ok.funs,ok.frf,ok.tab⟩
theorem Cx.Ok.unwish{X:Cx}{E:ai->am->Prop}(ok:(X.wish E).Ok):X.Ok :=⟨ok.mod,ok.kind,ok.glob,ok.blt,ok.above,ok.inj,ok.has,ok.cab,ok.hd,ok.frames,ok.stk,ok.exf,ok.bs,ok.bsz,ok.noex,ok.exfs,ok.funs,ok.frf,ok.tab⟩
section
variable{X:Cx}{a:List (af×Obj)}{b:St}{H:Hp}{s:am}{E:ai->am->Prop}
theorem Inv.wish(I:Inv X a b H s)(E:ai->am->Prop):Inv (X.wish E) a b H s:=⟨I.ok.wish E,I.os,I.bare,I.base,I.loc,I.cell,I.free,I.freeC,I.pin,I.hok,I.len⟩
theorem Inv.unwish(I:Inv (X.wish E) a b H s):Inv X a b H s:=⟨I.ok.unwish,I.os,I.bare,I.base,I.loc,I.cell,I.free,I.freeC,I.pin,I.hok,I.len⟩
theorem SP.unwish{D:lG}{f:Flow}{g:am}(h:SP (X.wish E) a D f g):SP X a D f g:=by
 cases f with
 |next=>obtain⟨c,d,I,q⟩:=h;exact⟨c,d,I.unwish,q⟩
 |brk=>obtain⟨c,d,I,q⟩:=h;exact⟨c,d,I.unwish,q⟩
 |cont=>obtain⟨c,d,I,q⟩:=h;exact⟨c,d,I.unwish,q⟩
 |ret u=>obtain⟨v,c,d,I,r,q⟩:=h;exact⟨v,c,d,I.unwish,r,q⟩
end
section
variable{X:Cx}{j:a8}{rest:List a8}{t u:TS}{e:aC}{i:TE}{g:Pos}
def N6:TS:=λD a H=>D.nx a H
def ML(t u:TS):TS:=λD a H=>t {D with nx:=u D} a H
theorem Mo:lK X [] N6:=λ_ _ a H _ I h=>CH ⟨a,H,I,h⟩
theorem K0(m:PS X j t)(l:lK X rest u):lK X (j::rest) (ML t u):=by
 intro b s c H D I h;refine Jb (aW (m b s c H {D with nx:=u D} I h) λf d q=>?_);cases f with
 |next=>obtain⟨a,o,n,q⟩:=q;exact l b d a o D n q
 |ret v=>exact q
 |brk=>exact q
 |cont=>exact q
theorem Mj(b:PS X j t):lK X [j] t:=by
 intro c s a H D I h;refine Jb (aW (b c s a H D I h) λf d q=>?_);cases f with
 |next=>exact CH q
 |ret v=>exact q
 |brk=>exact q
 |cont=>exact q
theorem Inv.quiet{b:List (af×Obj)}{a:St}{H:Hp}{s:am}(I:Inv X b a H s):interactive X.env=aj:=by simp[interactive,I.ok.kind]
def Qb(i:TE):TS:=λD a H=>i a H λ_ b=>D.nx a b
theorem Bv(d:PE X e i)(c:lj e ae g.line X.env=pure aj:=by rfl):PS X (.Expr e g) (Qb i):=by intro f s a H D I h;exact wpAny_Expr_any (aW (d f s a H _ I h) λv n ⟨x,m,l,o,b⟩=>⟨a,m,l,b⟩) I.quiet c
def Po(i:TE):TS:=λD a H=>i a H D.rt
theorem xL(d:PE X e i):PS X (.Return (aa e) g) (Po i):=by intro f s a H D I h;exact wpAny_Return_some (aW (d f s a H _ I h) λv n ⟨x,m,l,b,c⟩=>⟨x,a,m,l,b,c⟩)
def Sm:TS:=λD _ H=>D.rt .non H
theorem Uq:PS X (.Return ae g) Sm:=λ_ _ a H _ I h=>wpAny_Return_none ⟨.non,a,H,I,rfl,h⟩
def Ue(c:TT)(t u:TS):TS:=λD a H=>c a H λb d=>if b=ah then t D a d else u D a d
theorem T0{c:aC}{a b:List a8}{m:TT}(r:PT X c m)(w:lK X a t)(v:lK X b u):PS X (.If c a b g) (Ue m t u):=by
 intro l s f H D I h;refine wpAny_If (aW (r l s f H _ I h) λd n ζ=>?_);obtain⟨q,p,o⟩:=ζ;cases d with
 |true=>exact w l n f q D p o
 |false=>exact v l n f q D p o
end
abbrev TG:=V->St->Hp->(St->Hp->Prop)->Prop
abbrev qI:=List V->St->Hp->(St->Hp->Prop)->Prop
def PG(X:Cx)(a:aC)(t:TG):Prop :=
 ∀(d:List (af×Obj)) (s:am) (c:St) (H:Hp) (v:V) (u:ai) (Q:St->Hp->Prop),Inv X d c H s->RelV v u->t v c H Q ->
  ar (au X.prog X.w) X.A (assign a X.env u) (λ_ s'=>∃b f,Inv X d b f s'/\Q b f) X.xe s
def xF(X:Cx)(h:List aC)(t:qI):Prop :=
 ∀(f:List (af×Obj)) (s:am) (b:St) (H:Hp) (c:List V) (d:List ai) (Q:St->Hp->Prop),Inv X f b H s->bt c d->t c b H Q ->
  ar (au X.prog X.w) X.A (assignInOrder ((zp h X.env).map (·.2)) d) (λ_ i=>∃a g,Inv X f a g i/\Q a g) X.xe s
section
variable{X:Cx}{d:Pos}
def EK(i:Nat):TG:=λv a H Q=>Q (a.set i (aa v)) H
theorem zm{i:Nat}{x:Str}(f:X.N.Nodup)(b:X.N[i]?=aa x)(a:Loc X.env.scope x)(c:X.fn x=ah\/X.env.scope.names.lookup x=aa .local:=by first|exact .inl rfl|exact .inr rfl|assumption):PG X (.Name x d) (EK i):=by intro m s j H v u Q I r h;exact wpAny_assign_Name (yH I f b a r (λl g=>⟨_,H,g,h⟩) c)
def cm:qI:=λb a H Q=>b=[]/\Q a H
def Pn(t:TG)(u:qI):qI:=λc b H Q=>∃v r,c=v::r/\t v b H λa f=>u r a f Q
theorem RF:xF X [] cm:=by
 intro f s a H b c Q I r h;obtain⟨e,h⟩:=h;subst e;cases r;exact assignInOrder_nil ⟨a,H,I,h⟩
theorem IH{e:aC}{a:List aC}{t:TG}{u:qI}(n:PG X e t)(m:xF X a u)(l:(zp (e::a) X.env).map (·.2)=assign e X.env::(zp a X.env).map (·.2):=by rfl):xF X (e::a) (Pn t u):=by
 intro c s f H w y Q I r h;obtain⟨v,x,o,h⟩:=h;subst o;cases r with
 |cons r i=>rw[l];refine assignInOrder_cons (aW (n c s f H _ _ _ I r h) λ_ g ζ=>?_);obtain⟨b,q,p,j⟩:=ζ;exact m c g b q _ _ Q p i j
def RM(K:ay)(n:Nat)(t:qI):TG:=λv b H Q=>∃a xs,v=.ref a/\cL K H a xs/\xs.length=n/\t xs b H Q
theorem RU{c:List aC}{k:Nat}{t:qI}{n:Nat}(y:X.calm=ah)(h:xF X c t)(w:(zp c X.env).length=n:=by rfl) (A:(zp c X.env).findIdx? (·.1)=ae:=by rfl):PG X (.Tuple c k d) (RM X.K n t):=by
 intro j s g H v u Q I r f;obtain⟨a,xs,B,q,x,f⟩:=f;subst B;cases r;obtain⟨l,i,p,D⟩:=I.tuple q;refine assign_Tuple_tuple (I.ok.hd y) p (by simp[w,<-x,i.length]) A λz m=>?_;have C:Inv X j g H {s with heap:=z}:=I.kept (t':=s.toks) λb o e=>m b o (cZ (bC e)) e;exact h j _ g H xs _ Q C (~~~i) f
def ME(b:TE)(g:TG):TS:=λD a H=>b a H λx c=>g x a c D.nx
theorem Iq{i:Nat}{x:Str}{e:aC}{b:TE}{a:Pos}(p:X.N.Nodup)(m:X.N[i]?=aa x)(j:Loc X.env.scope x)(o:PE X e b)(l:lj e (aa (.Name x a)) d.line X.env=pure aj:=by rfl)(n:X.fn x=ah\/X.env.scope.names.lookup x=aa .local:=by first|exact .inl rfl|exact .inr rfl|assumption):PS X (.Assign [.Name x a] e d) (ME b (EK i)):=by intro q s c H D I h;refine wpAny_Assign_Name (aW (o q s c H _ I h) λv A ⟨y,w,u,f,g⟩=>?_) l;exact yH u p m j f (λz r=>⟨_,w,r,g⟩) n
def Ng(c:TT)(j:TS):TS:=λD a H=>∃W:Nat->St->Hp->Prop,(∃m,W m a H)/\∀m a H,W m a H ->
 c a H λb h=>if b=ah then ∃N:St->Hp->Prop,(∀f i,N f i->∃g,g<m/\W g f i)/\j {D with nx:=N,ct:=N,bk:=D.nx} a h else D.nx a h
theorem Tj{c:aC}{i:List a8}{z:TT}{A:TS}(B:zq (au X.prog X.w) X.A X.env X.xe)(T:PT X c z)(Y:lK X i A):PS X (.While c i [] d) (Ng z A):=by
 intro x s K H D I h;obtain⟨W,⟨S,M⟩,l⟩:=h;refine wpAny_While (codeAny_whileLoop (λn Q=>∃j J,Inv X x j J Q/\W n j J) ?_ S ⟨K,H,I,M⟩);rintro n P ⟨g,G,Z,L⟩;refine tD B (aW (T x P g G _ Z (l n g G L)) λb O ζ=>?_);obtain⟨F,E,p⟩:=ζ;cases b with
 |true=>
  obtain⟨N,C,p⟩:=p;rw[if_pos rfl];refine tD B (aW (Y x O g F _ E p) λf s3 o=>?_);cases f with
  |next=>obtain⟨a,m,y,r⟩:=o;obtain⟨u,w,q⟩:=C a m r;exact⟨u,w,a,m,y,q⟩
  |cont=>obtain⟨a,m,y,r⟩:=o;obtain⟨u,w,q⟩:=C a m r;exact⟨u,w,a,m,y,q⟩
  |brk=>exact o
  |ret v=>exact o
 |false=>rw[if_neg eX];exact CH ⟨g,F,E,p⟩
end
structure It where
 go:Nat->Hp->Prop
 yld:Nat->Hp->V->Hp->Prop
 stop:Nat->Hp->Prop
def lN(X:Cx)(a:List (af×Obj))(H:Hp)(b:af):Prop :=
 H b=ae/\b≠X.env.locals/\b∉X.fs/\(b∈X.ex\/X.s₀.heap.objs.size<=b)/\(∀x c,X.env.cells.lookup x=aa c->c≠b)/\∀p∈X.pn++a,p.1≠b
theorem Inv.fpOk{X:Cx}{d:List (af×Obj)}{g:St}{H f:Hp}{s:am}{b:af}(I:Inv X d g H s)(a:s.heap.objs.size<=b)(i:f b=ae):lN X d f b:=by
 refine⟨i,tE (gE I.lt a),I.nofs a,.inr (cX I.sz a),λx c e z=>?_,λp h z=>?_⟩
 .obtain⟨v,q⟩:=I.cell x c e;exact absurd (gE q.lt (by rw[z];exact a)) (fj _)
 .exact absurd (gE (bC (I.pin p h).1) (by rw[z];exact a)) (fj _)
structure sC(P:aN)(w:aG)(K:ay)(tg:aC)(J:It)(fp:List af)(it:af)(tn:Nat->aB->Prop):Prop where
 mem:it∈fp
 obj:∀i h,tn i h->∀b∈fp,∃o,h.get? b=aa o/\∀v,o.data≠.cell v
 keep:∀i h h',tn i h->(∀b∈fp,∀o,h.get? b=aa o->h'.get? b=aa o)->tn i h'
 item:∀(X:Cx),X.prog=P->X.w=w->X.K=K->X.calm=ah->∀(i:Nat) (ag:List (af×Obj)) (s:am) (σ:St) (H:Hp) (E:ai->am->Prop),Inv X ag σ H s->(∀b∈fp,lN X ag H b)->tn i s.heap->J.go i H ->
  ar (au P w) X.A (mK (.ref it)) (λr s1=>∃u,r=aa u /\ ar (au P w) X.A (CI tg (.ref it) u) (λ_ s2=>∃x H',Inv X ag σ H' s2/\RelV x u/\J.yld i H x H'/\tn (i+1) s2.heap/\∀b∈fp,H' b=ae) E s1) E s
 done:∀(X:Cx),X.prog=P->X.w=w->X.K=K->X.calm=ah->∀(i:Nat) (ag:List (af×Obj)) (s:am) (σ:St) (H:Hp) (E:ai->am->Prop),Inv X ag σ H s->(∀b∈fp,lN X ag H b)->tn i s.heap->J.stop i H ->
  ar (au P w) X.A (mK (.ref it)) (λr s1=>r=ae/\Inv X ag σ H s1) E s
 self:∀(A:aT) (i:Nat) (s:am) (Q:ai->am->Prop) (E:ai->am->Prop),tn i s.heap->Q (.ref it) s->ar (au P w) A (n8 (.ref it)) Q E s
abbrev TI:=St->Hp->(It->Hp->Prop)->Prop
def xz(X:Cx)(i:List (af×Obj))(j:St)(l:aC)(R:It->Hp->Prop)(a:ai)(f:am):Prop :=
 ∃(g:af) (h:List af) (d:Nat->aB->Prop) (J:It) (c:Hp),a=.ref g/\Inv X i j c f/\sC X.prog X.w X.K l J h g d/\d 0 f.heap/\(∀b∈h,lN X i c b)/\R J c
def PI(X:Cx)(f a:aC)(d:TI):Prop :=
 ∀(c:List (af×Obj)) (s:am) (b:St) (H:Hp) (R:It->Hp->Prop),Inv X c b H s->d b H R ->
  ar (au X.prog X.w) X.A (aX a X.env) (λv g=>ar (au X.prog X.w) X.A (n8 v) (xz X c b f R) X.xe g) X.xe s
theorem uI{M:Model}{A:aT}{E:ai->am->Prop}{s:am}{c:aC}{d:af}{u:ai}{o:Obj}{n:String}{b:Array ai}{Q:Unit->am->Prop}(f:s.heap.get? d=aa o)(j:o.cls=.type n)(i:o.data=.fields b)(g:["enumerate","zip","dict_itemiterator","dict_reverseitemiterator","odict_iterator","itertools.zip_longest","itertools.pairwise"].contains n=aj) (a:Q () s):ar M A (CI c (.ref d) u) Q E s:=by
 unfold CI;cases c <;> first
  |exact aD a
  | (cases u <;> first
    |exact aD a
    | (refine aq (wpAny_load f ?_)
       rw[j,i];show ar M A (if(["enumerate","zip","dict_itemiterator","dict_reverseitemiterator","odict_iterator","itertools.zip_longest","itertools.pairwise"].contains n&&b[0]? == aa (dY _))=ah then _ else _) Q E s;rw[if_neg (by intro h;rw[g,Bool.false_and]at h;cases h)];exact aD a))
def AA(K:ay)(a:af):It :=⟨λi H=>∃xs x,b_ K H a xs/\xs[i]?=aa x,λi H x b=>b=H/\∀xs,b_ K H a xs->xs[i]?=aa x,λi H=>∃xs,b_ K H a xs/\xs.length<=i⟩
def BI(K:ay)(a:af):It :=⟨λi H=>∃xs x,cL K H a xs/\xs[i]?=aa x,λi H x b=>b=H/\∀xs,cL K H a xs->xs[i]?=aa x,λi H=>∃xs,cL K H a xs/\xs.length<=i⟩
def yn(a:Int)(n:Nat):It:=⟨λi _=>i<n,λi H x b=>b=H/\x=.int (a+i),λi _=>n<=i⟩
theorem PY{P:aN}{w:aG}{K:ay}{Q:aC}(a g:af):sC P w K Q (AA K a) [g] g (λi h=>h.IsListIter g a i) where
 mem:=by simp
 obj:=λi h f b j=>by
  have e:b=g:=by simpa using j
  subst e;obtain⟨o,e,c,d⟩:=f;exact⟨o,e,λv z=>by rw[d]at z;cases z⟩
 keep:=λi h n f k=>f.at λo e=>k g (by simp) o e
 item:=by intro X C A D M i N s L H E I m f B;subst C A D;obtain⟨xs,x,l,y⟩:=B;obtain⟨r,q,p,T⟩:=I.list l;obtain⟨u,Y,S⟩:=q.get y;obtain⟨J,G,f2,f3,f4,F⟩:=m g (by simp);refine wpAny_pyNext_list_item f p.isList (x:=u) (~~~Y) λn O sb=>?_;have I1:Inv X N L H {s with heap:=n}:=I.turned (t':=s.toks) (λb o j e=>(sb.2 b j).trans e) J G f3 f4 F;obtain⟨o,e,c,d⟩:=id O;exact⟨u,rfl,uI (s:={s with heap:=n}) e c d (by decide) ⟨x,H,I1,S,⟨rfl,λys W=>by rw[I.list_inj W l];exact y⟩,O,λb j=>(m b j).1⟩⟩
 done:=by intro X C A D M i N s L H E I m f B;subst C A D;obtain⟨xs,l,y⟩:=B;obtain⟨r,q,p,T⟩:=I.list l;obtain⟨J,G,f2,f3,f4,F⟩:=m g (by simp);have hl:=q.length;exact wpAny_pyNext_list_end (I.ok.hd M) f p.isList (by simp;lia) λn Z=>⟨rfl,I.turned (t':=s.toks) (λb o j e=>Z b o j e) J G f3 f4 F⟩
 self:=λ_ _ _ _ _ f h=>wpAny_pyIter_listiter f h
theorem SO{P:aN}{w:aG}{K:ay}{Q:aC}(a j:af):sC P w K Q (BI K a) [j] j (λi h=>h.IsTupleIter j a i) where
 mem:=by simp
 obj:=λi h f b l=>by
  have e:b=j:=by simpa using l
  subst e;obtain⟨o,e,c,d⟩:=f;exact⟨o,e,λv z=>by rw[d]at z;cases z⟩
 keep:=λi h q f k=>f.at λo e=>k j (by simp) o e
 item:=by intro X C A D M i N s L H E I n f B;subst C A D;obtain⟨xs,x,m,y⟩:=B;obtain⟨g,r,p,T⟩:=I.tuple m;obtain⟨u,Y,S⟩:=r.get y;obtain⟨J,G,f2,f3,f4,F⟩:=n j (by simp);refine wpAny_pyNext_tuple_item f (show s.heap.IsTuple a g.toArray from p) (x:=u) (~~~Y) λq O sb=>?_;have I1:Inv X N L H {s with heap:=q}:=I.turned (t':=s.toks) (λb o l e=>(sb.2 b l).trans e) J G f3 f4 F;obtain⟨o,e,c,d⟩:=id O;exact⟨u,rfl,uI (s:={s with heap:=q}) e c d (by decide) ⟨x,H,I1,S,⟨rfl,λys W=>by rw[I.tuple_inj W m];exact y⟩,O,λb l=>(n b l).1⟩⟩
 done:=by intro X C A D M i N s L H E I n f B;subst C A D;obtain⟨xs,m,y⟩:=B;obtain⟨g,r,p,T⟩:=I.tuple m;obtain⟨J,G,f2,f3,f4,F⟩:=n j (by simp);have hl:=r.length;exact wpAny_pyNext_tuple_end (I.ok.hd M) f (show s.heap.IsTuple a g.toArray from p) (by simp;lia) λq Z=>⟨rfl,I.turned (t':=s.toks) (λb o l e=>Z b o l e) J G f3 f4 F⟩
 self:=λ_ _ _ _ _ f h=>wpAny_pyIter_tupleiter f h
theorem Ou{P:aN}{w:aG}{K:ay}{G:aC}(c:af)(f:Int)(n:Nat):sC P w K G (yn f n) [c] c (λi h=>IsRangeIter h c (f+(i:Nat)*1) ((n:Int)-(i:Nat)) 1) where
 mem:=by simp
 obj:=λi h a b d=>by
  have e:b=c:=by simpa using d
  subst e;exact⟨_,a,λv z=>by
   have F:Data.fields _=Data.cell v:=z;cases F⟩
 keep:=λi h j a k=>k c (by simp) _ a
 item:=by intro X q l r p i C s A H E I g a m;subst q l r;obtain⟨y,x,f2,f3,f4,u⟩:=g c (by simp);have W:=Walks.range (prog:=X.prog) (w:=X.w) (I.ok.hd p) c f 1 n;refine W.item i s _ _ m a λv j B L D J=>?_;obtain⟨t,rfl⟩:=L;have N:Inv X C A H {s with heap:=j,toks:=B}:=I.turned (λb o d e=>J b o (~~~d) e) y x f3 f4 u;refine⟨_,rfl,uI (s:={s with heap:=j,toks:=B}) (n:="range_iterator") D rfl rfl (by decide) ⟨.int (f+i),H,N,⟨t,?_⟩,⟨rfl,rfl⟩,D,λb d=>(g b d).1⟩⟩;rw[Int.mul_one]
 done:=by intro X q l r p i C s A H E I g a m;subst q l r;obtain⟨y,x,f2,f3,f4,u⟩:=g c (by simp);exact wpAny_pyNext_range_end (I.ok.hd p) a (by have:n<=i:=m;lia) λj M=>⟨rfl,I.turned (t':=s.toks) (λb o d e=>M b o d e) y x f3 f4 u⟩
 self:=λ_ _ _ _ _ a h=>wpAny_pyIter_rangeiter a h
section
variable{X:Cx}{c:aC}
theorem K1{h:List (af×Obj)}{f:St}{H:Hp}{s:am}{R:It->Hp->Prop}{E:ai->am->Prop}{a d:Int}{t u v:Tok}{g:Nat}(I:Inv X h f H s)(p:-(2^62)<=a)(n:a<2^62)(m:-(2^62)<=d)(l:d<2^62)(q:R (yn a (d-a).toNat) H):ar (au X.prog X.w) X.A (n8 (.ref s.heap.objs.size)) (xz X h f c R) E {s with heap:=s.heap.push {cls:=.type "range",data:=.fields #[.int a t,.int d u,.int 1 v]},toks:=g}:=by
 refine wpAny_pyIter_range (IsRange.new ..) (small_one p n m l) ?_;have i:Inv X h f H {s with heap:=s.heap.push {cls:=.type "range",data:=.fields #[.int a t,.int d u,.int 1 v]},toks:=g}:=I.kept λb o e=>bw _ e;refine⟨(s.heap.push {cls:=.type "range",data:=.fields #[.int a t,.int d u,.int 1 v]}).objs.size,[(s.heap.push {cls:=.type "range",data:=.fields #[.int a t,.int d u,.int 1 v]}).objs.size],_,_,H,rfl,i.kept (t':=g) λb o e=>bw _ e,Ou _ a (d-a).toNat,?_,λb j=>?_,q⟩
 .have w:a+((0:Nat):Int)*1=a:=by simp
  have r:(((d-a).toNat:Nat):Int)-((0:Nat):Int)=Builtin.Range.rangeSize a d 1:=by rw[rangeSize_one];split <;> lia
  show IsRangeIter _ _ (a+((0:Nat):Int)*1) ((((d-a).toNat:Nat):Int)-((0:Nat):Int)) 1;rw[w,r];exact cz _ rfl
 .have e:b=(s.heap.push {cls:=.type "range",data:=.fields #[.int a t,.int d u,.int 1 v]}).objs.size:=by simpa using j
  subst e;exact i.fpOk (aZ _) (i.hok.fresh (aZ _))
def Lm(d:TA):TI:=λa H R=>d a H λb f=>∃j:Int,b=[.int j]/\-(2^62)<=j/\j<2^62/\R (yn 0 j.toNat) f
theorem Ut{a:aC}{f:TA}{p b:Pos}(u:Gl X "range")(o:X.mg "range"=ae)(v:PA X [a] f)(n:aU [a] X.env=[(aj,aX a X.env)]:=by rfl):PI X c (.Call (.Name "range" p) [a] [] b) (Lm f):=by
 intro w s g H R I h;refine Call_ (yW I u o boot_range (PyProof.Rows.callWith_type1 (aW (v b w s g H _ I h) λz A ⟨y,B,x,l,d⟩=>?_) n rfl));obtain⟨j,e,d,m,q⟩:=d;subst e;cases l with
 |cons r i=>
  cases i;obtain⟨t,rfl⟩:=r;exact call_range_1 (K1 x ∅ ∅ d m (~~~q))
def So(j:TI)(g:TG)(l:TS):TS:=λD a H=>j a H λJ o=>∃W:Nat->Nat->St->Hp->Prop,(∃m,W 0 m a o)/\∀i m a H,W i m a H ->
 (J.stop i H/\D.nx a H)\/(J.go i H/\∃N:St->Hp->Prop,(∀b d,N b d->∃h,h<m/\W (i+1) h b d)/\∀x d,J.yld i H x d->g x a d λf n=>l {D with nx:=N,ct:=N,bk:=D.nx} f n)
def vz(a:List af)(h:aB):List (af×Obj):=a.filterMap λb=>(h.get? b).map λo=>(b,o)
theorem yN{a:List af}{h:aB}{b:af}{o:Obj}(d:b∈a)(e:h.get? b=aa o):(b,o)∈vz a h:=Jc.mpr ⟨b,d,by rw[e];rfl⟩
theorem OF{a:List af}{h:aB}{p:af×Obj}(d:p∈vz a h):p.1∈a/\h.get? p.1=aa p.2:=by
 obtain⟨b,f,e⟩:=Jc.mp d;cases q:h.get? b with
 |none=>rw[q]at e;cases e
 |some o=>rw[q]at e;have g:(b,o)=p:=dO e;subst g;exact⟨f,q⟩
theorem Inv.pinned{f:List (af×Obj)}{g:St}{H:Hp}{s:am}{a:List af}(I:Inv X f g H s)(m:∀b∈a,lN X f H b)(l:∀b∈a,∃o,s.heap.get? b=aa o/\∀v,o.data≠.cell v):Inv X (f++vz a s.heap) g H s :=
 I.pins_of λp j=>(jg.mp j).elim (λz=>I.pin p (lm _ z)) λz=>by
  obtain⟨h,e⟩:=OF z;obtain⟨q,n,f2,_⟩:=m p.1 h;obtain⟨o,i,d⟩:=l p.1 h;rw[e]at i;cases i;exact⟨e,q,n,f2,d⟩
theorem Inv.unpinned{b d:List (af×Obj)}{a:St}{H:Hp}{s:am}(I:Inv X (b++d) a H s):Inv X b a H s:=I.pins_of λp f=>I.pin p (lm _ (vS _ f))
theorem GQ{q:aC}{E:List a8}{wi:TI}{g:TG}{tb:TS}{Y:Pos}(L:zq (au X.prog X.w) X.A X.env X.xe)(hc:X.calm=ah)(hi:PI X c q wi)(hg:PG X c g)(w:lK X E tb)(hs:∀x,mL q X.env x=pure x:=by intro _;rfl):PS X (.For c q E [] Y) (So wi g tb):=by
 intro F s σ H D I h;refine wpAny_For (aW (hi F s σ H _ I h) λv s1 h1=>aW h1 λitv s2 h2=>?_) hs;obtain⟨it,O,tn,J,H2,e,I2,T,bd,f2,W,⟨m0,w0⟩,G⟩:=h2;subst e;have p:∀{B:Hp},(∀b∈O,B b=ae)->∀b∈O,lN X F B b:=λhn b w=>⟨hn b w,(f2 b w).2⟩
 refine codeAny_forLoop_any (λn s'=>∃i l B,Inv X F l B s'/\tn i s'.heap/\(∀b∈O,B b=ae)/\W i n l B) ?_ m0 ⟨0,σ,H2,I2,bd,λb w=>(f2 b w).1,w0⟩;rintro n s3 ⟨i,j,P,I3,bG,M,w3⟩;rcases G i n j P w3 with⟨stop,qn⟩|⟨go,N,hN,step⟩
 .refine tD L (aW (T.done X rfl rfl rfl hc i F s3 j P X.xe I3 (p M) bG stop) λr s4 ζ=>?_);obtain⟨Z,I4⟩:=ζ;subst Z;exact CH ⟨j,P,I4,qn⟩
 .refine tD L (aW (T.item X rfl rfl rfl hc i F s3 j P X.xe I3 (p M) bG go) λr s4 ζ=>?_);obtain⟨u,Z,h4⟩:=ζ;subst Z;refine tD L (aW h4 λ_ s5 ζ=>?_);obtain⟨x,H5,I5,r5,y5,cu,fr5⟩:=ζ;have I5':=I5.pinned (p fr5) (T.obj _ _ cu);refine tD L (aW (hg _ s5 j H5 x u _ I5' r5 (step x H5 y5)) λ_ s6 ζ=>?_);obtain⟨Q,H6,I6,q6⟩:=ζ;refine tD L (aW (w _ s6 Q H6 _ I6 q6) λf S C=>?_);have y:∀{a:St}{A:Hp},Inv X (F++vz O s5.heap) a A S->N a A->∃m,m<n/\∃i l B,Inv X F l B S/\tn i S.heap/\(∀b∈O,B b=ae)/\W i m l B:=λ{a A} z K=>by obtain⟨m',hm,w7⟩:=hN a A K;refine⟨m',hm,i+1,a,A,z.unpinned,T.keep _ _ _ cu λb w o e=>(z.pin (b,o) (lm _ (lm _ (yN w e)))).1,λb w=>?_,w7⟩;obtain⟨o,e,d⟩:=T.obj _ _ cu b w;exact(z.pin (b,o) (lm _ (lm _ (yN w e)))).2.1
  cases f with
  |next=>obtain⟨a,A,z,K⟩:=C;exact y z K
  |cont=>obtain⟨a,A,z,K⟩:=C;exact y z K
  |brk=>obtain⟨a,A,z,C⟩:=C;exact⟨a,A,z.unpinned,C⟩
  |ret v=>obtain⟨x7,a,A,z,r7,C⟩:=C;exact⟨x7,a,A,z.unpinned,r7,C⟩
end
abbrev R2:=V->V->Hp->VK->Prop
def bT(X:Cx)(f:ai->ai->Sem ai)(r:R2):Prop :=
 ∀(b:List (af×Obj)) (s:am) (a:St) (H:Hp) (x y:V) (v u:ai) (Q:VK),Inv X b a H s->RelV x v->RelV y u->r x y H Q ->
  ar (au X.prog X.w) X.A (f v u) (EP X b a Q) X.xe s
def zi(X:Cx)(f:ai->Sem ai)(r:V->Hp->VK->Prop):Prop :=
 ∀(b:List (af×Obj)) (s:am) (a:St) (H:Hp) (x:V) (v:ai) (Q:VK),Inv X b a H s->RelV x v->r x H Q ->
  ar (au X.prog X.w) X.A (f v) (EP X b a Q) X.xe s
def d4(X:Cx)(f:ai)(r:List V->Hp->VK->Prop):Prop :=
 ∀(c:List (af×Obj)) (s:am) (a:St) (H:Hp) (xs:List V) (b:List ai) (Q:VK),Inv X c a H s->bt xs b->r xs H Q ->
  ar (au X.prog X.w) X.A (call f b) (EP X c a Q) X.xe s
def xD(r:R2)(c b:TE):TE:=λa H Q=>c a H λx f=>b a f λy d=>r x y d Q
def R6(r:V->Hp->VK->Prop)(b:TE):TE:=λa H Q=>b a H λx c=>r x c Q
def rI(C:Int->Int->Prop)(g:Int->Int->V):R2:=λx y H Q=>∃i j,x=.int i/\y=.int j/\C i j/\Q (g i j) H
def mn(g:Int->Int->V):R2:=λx y H Q=>∃i j,x=.int i/\y=.int j/\Q (g i j) H
def rU(g:Int->V):V->Hp->VK->Prop:=λx H Q=>∃i,x=.int i/\Q (g i) H
section
variable{X:Cx}{a b c:aC}{d m n:TE}{l:Pos}
theorem Cd(F:PE X a d)(E:PE X b m){q:List (af×Obj)}{s:am}{g:St}{H:Hp}{R:V->V->Hp->Prop}(I:Inv X q g H s)(h:d g H λx r=>m g r λy i=>R x y i) {Q:ai->am->Prop}{f:ai->ai->Sem ai}(D:∀v u p x y i,Inv X q g i p->RelV x v->RelV y u->R x y i->ar (au X.prog X.w) X.A (f v u) Q X.xe p):ar (au X.prog X.w) X.A (aX a X.env) (λv o=>ar (au X.prog X.w) X.A (aX b X.env) (λu j=>ar (au X.prog X.w) X.A (f v u) Q X.xe j) X.xe o) X.xe s:=by refine aW (F q s g H _ I h) λv w ⟨x,r,J,A,C⟩=>?_;refine aW (E q w g r _ J C) λu p ζ=>?_;obtain⟨y,i,G,z,B⟩:=ζ;exact D v u p x y i G A z B
theorem Kr{f:Operator}{r:R2}(p:bT X (il f) r)(z:PE X a d)(w:PE X b m):PE X (.BinOp a f b l) (xD r d m):=by intro A s g H Q I h;exact wpAny_BinOp (Cd z w I h λv u i x y C B o j q=>p A i g C x y v u Q B o j q)
theorem Sw{g:UnaryOp}{r:V->Hp->VK->Prop}(q:zi X (unaryOp g) r)(u:PE X a d):PE X (.UnaryOp g a l) (R6 r d):=by intro i s f H Q I h;exact UnaryOp_ (aW (u i s f H _ I h) λv j ⟨x,y,w,o,p⟩=>q i j f y x v Q w o p)
theorem BJ{f:ai->ai->Sem ai}{C:Int->Int->Prop}{g:Int->Int->Int}(o:∀(i j:Int) (t u:Tok) (s:am) (Q:ai->am->Prop) (E:ai->am->Prop),C i j->Q (.int (g i j) s.toks) {s with toks:=s.toks+1}->ar (au X.prog X.w) X.A (f (.int i t) (.int j u)) Q E s):bT X f (rI C λi j=>.int (g i j)):=by intro B s A H x y v u Q I w r h;obtain⟨i,j,rfl,rfl,z,q⟩:=h;obtain⟨t,rfl⟩:=w;obtain⟨p,rfl⟩:=r;exact o i j t p s _ _ z ⟨.int (g i j),H,I.tok _,⟨_,rfl⟩,q⟩
theorem GS{f:ai->ai->Sem ai}{g:Int->Int->Int}(o:∀(i j:Int) (t u:Tok) (s:am) (Q:ai->am->Prop) (E:ai->am->Prop),Q (.int (g i j) s.toks) {s with toks:=s.toks+1}->ar (au X.prog X.w) X.A (f (.int i t) (.int j u)) Q E s):bT X f (mn λi j=>.int (g i j)):=by intro A s z H x y v u Q I w r h;obtain⟨i,j,rfl,rfl,q⟩:=h;obtain⟨t,rfl⟩:=w;obtain⟨p,rfl⟩:=r;exact o i j t p s _ _ ⟨.int (g i j),H,I.tok _,⟨_,rfl⟩,q⟩
theorem CD{f:ai->ai->Sem ai}{g:Int->Int->Bool}(o:∀(i j:Int) (t u:Tok) (s:am) (Q:ai->am->Prop) (E:ai->am->Prop),Q (.bool (g i j)) s->ar (au X.prog X.w) X.A (f (.int i t) (.int j u)) Q E s):bT X f (mn λi j=>.bl (g i j)):=by intro A s z H x y v u Q I w r h;obtain⟨i,j,rfl,rfl,q⟩:=h;obtain⟨t,rfl⟩:=w;obtain⟨p,rfl⟩:=r;exact o i j t p s _ _ ⟨.bl (g i j),H,I,rfl,q⟩
def F6(i j:Int):Prop:=0<=j/\j<=1000000/\i.natAbs<2^64
def BG(i j:Int):Prop:=(-(2^64)<i/\i<2^64)\/(-(2^64)<j/\j<2^64)
theorem BG.ok{i j:Int}(h:BG i j):IntMulOk i j:=by
 rcases h with⟨h1,h2⟩|⟨h1,h2⟩
 .exact .of_left (intBits_le_64 h1 h2)
 .exact .of_right (intBits_le_64 h1 h2)
theorem VB:bT X (il .Add) (mn λi j=>.int (i+j)):=GS λ_ _ _ _ _ _ _ q=>add_int q
theorem uG:bT X (il .Sub) (mn λi j=>.int (i-j)):=GS λ_ _ _ _ _ _ _ q=>sub_int q
theorem Vq:bT X (il .Mult) (rI BG λi j=>.int (i*j)):=BJ λ_ _ _ _ _ _ _ f q=>mul_int q f.ok
theorem uO:bT X (il .Mod) (rI (λ_ j=>0<j) λi j=>.int (i % j)):=BJ λi j _ _ _ _ _ f q=>by have g:(0:Int)<j:=f;exact mod_int' ∅ (by rw[Int.fmod_eq_emod_of_nonneg i ∅];exact q)
theorem Sx:bT X (il .Pow) (rI F6 λi j=>.int (i^j.toNat)):=BJ λ_ _ _ _ _ _ _ f q=>pow_int_small f.1 f.2.1 f.2.2 q
theorem K8{f:ai->Sem ai}{g:Int->Int}(j:∀(i:Int) (t:Tok) (s:am) (Q:ai->am->Prop) (E:ai->am->Prop),Q (.int (g i) s.toks) {s with toks:=s.toks+1}->ar (au X.prog X.w) X.A (f (.int i t)) Q E s):zi X f (rU λi=>.int (g i)):=by intro r s p H x v Q I o h;obtain⟨i,rfl,q⟩:=h;obtain⟨t,rfl⟩:=o;exact j i t s _ _ ⟨.int (g i),H,I.tok _,⟨_,rfl⟩,q⟩
theorem nH:zi X (unaryOp .USub) (rU λi=>.int (-i)):=K8 λ_ _ _ _ _ q=>neg_int q
end
def vq:V->V->Bool
 |.non,.non=>ah|.non,.int _=>ah|.int _,.non=>ah|.non,.bl _=>ah|.bl _,.non=>ah|.non,.str _=>ah|.str _,.non=>ah
 |.int _,.int _=>ah|.bl _,.bl _=>ah|.str _,.str _=>ah|.byt _,.byt _=>ah
 |.int _,.str _=>ah|.str _,.int _=>ah|.bl _,.str _=>ah|.str _,.bl _=>ah
 |_,_=>aj
def G9:R2:=λx y H Q=>vq x y=ah/\Q (.bl (decide (x=y))) H
def Ge:R2:=λx y H Q=>vq x y=ah/\Q (.bl (!decide (x=y))) H
theorem GU{i j:Int}:decide (V.int i=V.int j)=(i == j):=by rw[mM];simp
theorem Gk{i j:Bool}:decide (V.bl i=V.bl j)=(i == j):=by rw[mM];simp
theorem Fu{i j:Str}:decide (V.str i=V.str j)=(i == j):=by rw[mM];simp
theorem IN{i j:Array UInt8}:decide (V.byt i=V.byt j)=(i.toList == j.toList):=by
 rw[mM];cases i;cases j;simp
section
variable{X:Cx}{a b c:aC}{l g o:TE}{m:Pos}
theorem dQ{h:List (af×Obj)}{d:St}{H:Hp}{s:am}{Q:VK}{k f:Bool}(I:Inv X h d H s)(q:Q (.bl k) H)(e:k=f):EP X h d Q (.bool f) s:=by subst e;exact⟨.bl k,H,I,rfl,q⟩
theorem Vx:bT X (dX .Eq) G9:=by
 intro w s r H x y v u Q I p d h;obtain⟨n,q⟩:=h;cases x with
 |non=>
  cases p;cases y with
  |non=>cases d;exact PySem.EqNone.eq_none_none (dQ I q (by simp))
  |bl j=>cases d;exact PySem.EqNone.eq_none_bool (dQ I q (by simp))
  |int j=>obtain⟨f,rfl⟩:=d;exact PySem.EqNone.eq_none_int (dQ I q (by simp))
  |str j=>obtain⟨f,rfl⟩:=d;exact PySem.EqNone.eq_none_str (dQ I q (by simp))
  |_=>exact absurd (show aj=ah from n) eX
 |bl i=>
  cases p;cases y with
  |non=>cases d;exact PySem.EqNone.eq_bool_none (dQ I q (by simp))
  |bl j=>cases d;exact eq_bool (dQ I q Gk)
  |str j=>obtain⟨f,rfl⟩:=d;exact PySem.EqMixed.eq_bool_str (dQ I q (by simp))
  |_=>exact absurd (show aj=ah from n) eX
 |int i=>
  obtain⟨t,rfl⟩:=p;cases y with
  |non=>cases d;exact PySem.EqNone.eq_int_none (dQ I q (by simp))
  |int j=>obtain⟨f,rfl⟩:=d;exact eq_int (dQ I q GU)
  |str j=>obtain⟨f,rfl⟩:=d;exact PySem.EqMixed.eq_int_str (dQ I q (by simp))
  |_=>exact absurd (show aj=ah from n) eX
 |str i=>
  obtain⟨t,rfl⟩:=p;cases y with
  |non=>cases d;exact PySem.EqNone.eq_str_none (dQ I q (by simp))
  |bl j=>cases d;exact PySem.EqMixed.eq_str_bool (dQ I q (by simp))
  |int j=>obtain⟨f,rfl⟩:=d;exact PySem.EqMixed.eq_str_int (dQ I q (by simp))
  |str j=>obtain⟨f,rfl⟩:=d;exact eq_str (dQ I q Fu)
  |_=>exact absurd (show aj=ah from n) eX
 |byt i=>
  obtain⟨t,rfl⟩:=p;cases y with
  |byt j=>obtain⟨f,rfl⟩:=d;exact PySem.W.eq_bytes (dQ I q IN)
  |_=>exact absurd (show aj=ah from n) eX
 |_=>cases y <;> exact absurd (show aj=ah from n) eX
theorem VL:bT X (dX .NotEq) Ge:=by
 intro w s r H x y v u Q I p d h;obtain⟨n,q⟩:=h;cases x with
 |non=>
  cases p;cases y with
  |non=>cases d;exact PySem.EqNone.ne_none_none (dQ I q (by simp))
  |bl j=>cases d;exact PySem.EqNone.ne_none_bool (dQ I q (by simp))
  |int j=>obtain⟨f,rfl⟩:=d;exact PySem.EqNone.ne_none_int (dQ I q (by simp))
  |str j=>obtain⟨f,rfl⟩:=d;exact PySem.EqNone.ne_none_str (dQ I q (by simp))
  |_=>exact absurd (show aj=ah from n) eX
 |bl i=>
  cases p;cases y with
  |non=>cases d;exact PySem.EqNone.ne_bool_none (dQ I q (by simp))
  |bl j=>cases d;exact ne_bool (dQ I q (congrArg not Gk))
  |str j=>obtain⟨f,rfl⟩:=d;exact PySem.EqMixed.ne_bool_str (dQ I q (by simp))
  |_=>exact absurd (show aj=ah from n) eX
 |int i=>
  obtain⟨t,rfl⟩:=p;cases y with
  |non=>cases d;exact PySem.EqNone.ne_int_none (dQ I q (by simp))
  |int j=>obtain⟨f,rfl⟩:=d;exact ne_int (dQ I q (congrArg not GU))
  |str j=>obtain⟨f,rfl⟩:=d;exact PySem.EqMixed.ne_int_str (dQ I q (by simp))
  |_=>exact absurd (show aj=ah from n) eX
 |str i=>
  obtain⟨t,rfl⟩:=p;cases y with
  |non=>cases d;exact PySem.EqNone.ne_str_none (dQ I q (by simp))
  |bl j=>cases d;exact PySem.EqMixed.ne_str_bool (dQ I q (by simp))
  |int j=>obtain⟨f,rfl⟩:=d;exact PySem.EqMixed.ne_str_int (dQ I q (by simp))
  |str j=>obtain⟨f,rfl⟩:=d;exact ne_str (dQ I q (congrArg not Fu))
  |_=>exact absurd (show aj=ah from n) eX
 |byt i=>
  obtain⟨t,rfl⟩:=p;cases y with
  |byt j=>obtain⟨f,rfl⟩:=d;exact PySem.W.ne_bytes (dQ I q (congrArg not IN))
  |_=>exact absurd (show aj=ah from n) eX
 |_=>cases y <;> exact absurd (show aj=ah from n) eX
theorem HR:bT X (dX .Lt) (mn λi j=>.bl (decide (i<j))):=CD λ_ _ _ _ _ _ _ q=>lt_int q
theorem uz:bT X (dX .LtE) (mn λi j=>.bl (decide (i<=j))):=CD λ_ _ _ _ _ _ _ q=>le_int q
theorem sF:bT X (dX .Gt) (mn λi j=>.bl (decide (j<i))):=CD λ_ _ _ _ _ _ _ q=>gt_int q
theorem Vt:bT X (dX .In) (λx y H Q=>∃i j,x=.str i/\y=.str j/\Q (.bl (!(Jd j i 0 j.length 1).isEmpty)) H):=by intro r s n H x y v u Q I f d h;obtain⟨i,j,rfl,rfl,q⟩:=h;obtain⟨t,rfl⟩:=f;obtain⟨p,rfl⟩:=d;exact in_str (dQ I q rfl)
theorem bT.or{f:ai->ai->Sem ai}{r n:R2}(h:bT X f r)(w:bT X f n):bT X f (λx y H Q=>r x y H Q\/n x y H Q):=by
 intro p s d H x y v u Q I j i q;rcases q with q|q
 .exact h p s d H x y v u Q I j i q
 .exact w p s d H x y v u Q I j i q
theorem R1{d:CmpOp}{r:R2}(p:bT X (dX d) r)(A:PE X a l)(z:PE X b g)(w:pc d b=aj):PE X (.Compare a [d] [b] m) (xD r l g):=by intro B s f H Q I h;exact wpAny_Compare1 (Cd A z I h λv u i x y D C n j q=>p B i f D x y v u Q C n j q) w
def Gq(t:TE):TT:=λd H Q=>t d H λx f=>∃k,x=.bl k/\Q k f
theorem N1{f:CmpOp}{r:R2}(D:bT X (dX f) r)(G:PE X a l)(F:PE X b g)(E:pc f b=aj):PT X (.Compare a [f] [b] m) (Gq (xD r l g)):=by
 intro i s d H Q I h;refine wpAny_isTrue_Compare1 (aW (G i s d H _ I h) λv n ⟨x,O,L,w,C⟩=>aW (F i n d O _ L C) λu j ⟨y,N,K,q,B⟩=>aW (D i j d N x y v u _ K w q B) λc P ⟨z,M,J,p,k,e,A⟩=>?_) E;subst e;cases p;exact pe ⟨M,J,A⟩
def AG(r i:R2)(l g o:TE):TE:=λd H Q=>l d H λx p=>g d p λy n=>r x y n λz f=>∃k,z=.bl k /\
 (if k=ah then o d f λh j=>i y h j Q else Q (.bl aj) f)
theorem QM{n f:CmpOp}{r q:R2}(S:bT X (dX n) r)(ff:bT X (dX f) q)(Z:PE X a l)(Y:PE X b g)(W:PE X c o)(T:lastMarks [n,f] [b,c]=aj:=by with_unfolding_all rfl):PE X (.Compare a [n,f] [b,c] m) (AG r q l g o):=by
 intro j s i H Q I h;refine Compare_chain (aW (Z j s i H _ I h) λv J ⟨x,H1,I1,M,P⟩=>chain_link (aW (Y j J i H1 _ I1 P) λu G ⟨y,H2,I2,p,O⟩=>aW (S j G i H2 x y v u _ I2 M p O) λd F ⟨z,B,A,L,k,e,w⟩=>?_)) T;subst e;cases L;refine pe ?_;cases k with
 |false=>exact ite_ff ⟨.bl aj,B,A,rfl,w⟩
 |true=>exact ite_tt (chain_last (aW (W j F i B _ A w) λD E ⟨C,H4,I4,K,N⟩=>ff j E i H4 y C u D Q I4 p K N))
theorem Ri{n f:CmpOp}{r q:R2}(Y:bT X (dX n) r)(ff:bT X (dX f) q)(ha:PE X a l)(hb:PE X b g)(hc:PE X c o)(Z:lastMarks [n,f] [b,c]=aj:=by with_unfolding_all rfl):PT X (.Compare a [n,f] [b,c] m) (Gq (AG r q l g o)):=by
 intro j s i H Q I h;refine isTrue_chain (aW (ha j s i H _ I h) λv J ⟨x,H1,I1,N,T⟩=>test_link (aW (hb j J i H1 _ I1 T) λu G ⟨y,H2,I2,p,S⟩=>aW (Y j G i H2 x y v u _ I2 N p S) λd F ⟨z,B,A,M,k,e,w⟩=>?_)) Z;subst e;cases M;refine pe ?_;cases k with
 |false=>
  obtain⟨k',e',W⟩:=w;cases e';exact ite_ff ⟨B,A,W⟩
 |true=>
  refine ite_tt (test_last (aW (hc j F i B _ A w) λD E ⟨C,H4,I4,L,P⟩=>aW (ff j E i H4 y C u D _ I4 p L P) λd' s5 ζ=>?_));obtain⟨z2,H5,I5,K,k2,e2,O⟩:=ζ;subst e2;cases K;exact pe ⟨H5,I5,O⟩
theorem uX:(bf:Nat)<2^63:=by rw[lO];decide
theorem Nr:bT X (il .Add) (λx y H Q=>∃i j,x=.str i/\y=.str j/\i.length+j.length<=bf/\Q (.str (i++j)) H):=by intro z s r H x y v u Q I n f h;obtain⟨i,j,rfl,rfl,p,q⟩:=h;obtain⟨t,rfl⟩:=n;obtain⟨d,rfl⟩:=f;exact add_str (λd w=>⟨.str (i++j),H,I.tok _,⟨_,rfl⟩,q⟩) p
theorem vals1{x:V}{d:List ai}(r:bt [x] d):∃u,d=[u]/\RelV x u:=by
 cases r with
 |cons h f=>cases f;exact⟨_,rfl,h⟩
theorem vals2{x y:V}{f:List ai}(r:bt [x,y] f):∃u d,f=[u,d]/\RelV x u/\RelV y d:=by
 cases r with
 |cons n j=>
  cases j with
  |cons i h=>cases h;exact⟨_,_,rfl,n,i⟩
theorem PZ(f:X.calm=ah):d4 X (.builtin "max") (λxs H Q=>∃i j,xs=[.int i,.int j]/\Q (.int (if j > i then j else i)) H):=by
 intro z s n H xs v Q I r h;obtain⟨i,j,rfl,q⟩:=h;obtain⟨u,p,rfl,⟨t,rfl⟩,⟨x,rfl⟩⟩:=vals2 r;refine max_two_ints (I.ok.hd f) λy w k=>⟨_,H,I.kept k,?_,q⟩
 by_cases d:j > i
 .rw[if_pos d,if_pos d];exact⟨_,rfl⟩
 .rw[if_neg d,if_neg d];exact⟨_,rfl⟩
def Fs(K:ay)(x:V)(H:Hp)(n:Nat):Prop :=
 match x with
 |.str y=>y.length<=bf/\n=y.length
 |.byt y=>y.size<=bf/\n=y.size
 |.ref p=>(∃xs,b_ K H p xs/\n=xs.length)\/∃xs,cL K H p xs/\n=xs.length
 |_=>False
theorem jv:d4 X (.builtin "len") (λxs H Q=>∃x n,xs=[x]/\Fs X.K x H n/\Q (.int n) H):=by
 intro F s B H xs C Q I r h;obtain⟨x,n,rfl,e,q⟩:=h;obtain⟨u,rfl,f⟩:=vals1 r;have E:=uX;have D:bf=16777216:=lO;cases x with
 |str y=>obtain⟨t,rfl⟩:=f;obtain⟨A,d⟩:y.length<=bf/\n=y.length:=e;subst d;exact len_str ∅ ⟨.int _,H,I.tok _,⟨_,rfl⟩,q⟩
 |byt y=>obtain⟨t,rfl⟩:=f;obtain⟨A,d⟩:y.size<=bf/\n=y.size:=e;subst d;exact PySem.W.len_bytes ∅ ⟨.int _,H,I.tok _,⟨_,rfl⟩,q⟩
 |ref p=>
  cases f;have d:(∃xs,b_ X.K H p xs/\n=xs.length)\/∃xs,cL X.K H p xs/\n=xs.length:=e;rcases d with⟨xs,hx,d⟩|⟨xs,hx,d⟩
  .subst d;obtain⟨v,i,j,z⟩:=I.list hx;have w:=i.length;exact Calls.call_len_list j.isList (by simp only[cM];lia) ⟨.int xs.length,H,I.tok _,⟨_,by simp only[cM];rw[w]⟩,q⟩
  .subst d;obtain⟨v,i,j,z⟩:=I.tuple hx;have w:=i.length;exact len_tuple j (by simp only[cM];lia) ⟨.int xs.length,H,I.tok _,⟨_,by simp only[cM];rw[w]⟩,q⟩
 |_=>exact(show False from e).elim
end
structure IJ(h:aB)(x dx C:af)(mA:Str->Option ai):Prop where
 obj:h.get? x=aa (PySem.W.instObj C dx)
 ns:h.Ns1 dx mA
 ne:dx≠x
theorem RO{h:aB}{g:af}{d:Str->Option ai}(n:h.Ns1 g d):∃c,h.get? g=aa c/\∀b,PySem.W.lookIn b c=aa (d b):=by
 obtain⟨o,f,u,l,r,p,_,m⟩:=n;refine⟨o,l,λb=>?_⟩;have e:=m b;unfold nsFind findBy at e;rw[<-Array.find?_toList]at e;unfold PySem.W.lookIn;rw[r];dsimp only;split
 .rename_i y q;rw[q]at e;exact congrArg aa e
 .rename_i q;rw[q]at e;have a:f.toList.any (·.refKey)=aj:=by rw[Je];intro y j;obtain⟨z,t,i⟩:=p y (Array.mem_toList_iff.mp j);simp[DictEntry.refKey,i]
  have s:¬f.toList.any (·.refKey)=ah:=by rw[a];exact eX
  rw[if_neg s];exact congrArg aa e
theorem IJ.look{h:aB}{x d C:af}{c:Str->Option ai}(I:IJ h x d C c):∃b,vT h x (PySem.W.instObj C d) C (aa b)/\∀a,PySem.W.lookIn a b=aa (c a) :=
 let ⟨b,ho,hl⟩:=RO I.ns
 ⟨b,⟨I.obj,rfl,rfl,ho⟩,hl⟩
theorem o9.some_of{v:V}{o:Option ai}(r:o9 (aa v) o):∃u,o=aa u/\RelV v u:=by
 cases o with
 |none=>exact(show False from r).elim
 |some u=>exact⟨u,rfl,r⟩
section
variable{P:aN}{w:aG}{H i:Hp}{h g:aB}{a C b:af}{fs c:List (Str×V)}
theorem Pg(l:df P w H h)(e:H a=aa (.ins C b fs)):∃j,IJ h a b C j/\(∀f,o9 (fs.lookup f) (j f))/\PySem.Within j (fs.map (·.1))/\fs.length<=1000/\H b=aa (.own a):=by
 obtain⟨d,z,o,m,j,n,r,q⟩:=(show bR P w H h a (.ins C b fs)from l a _ e)
 exact⟨j,⟨m,n,o⟩,r,q,z,d⟩
end
structure G6(K:ay)(C:af):Prop where
 pg:PySem.W.plainGet K C kq=ah
 hd:PySem.W.hasDictIn K C=ah
 po:PySem.W.plainOver K C=ah
 sa:q8 K (.ref C) "__setattr__"=aa (aa (.builtin "object.__setattr__"))
theorem G6.get{K:ay}{C:af}(c:G6 K C)(f:Str):PySem.W.plainGet K C f=ah:=c.pg
section
variable{X:Cx}{f:List (af×Obj)}{d:St}{H:Hp}{s:am}{A:aT}{E:ai->am->Prop}{Q:ai->am->Prop}{c:ai}{b:Bool}
inductive jd(K:ay)(H:Hp):V->ai->Prop where
 |non:jd K H .non (.type "NoneType")
 |bl (x:Bool):jd K H (.bl x) (.type "bool")
 |int (i:Int):jd K H (.int i) (.type "int")
 |str (x:Str):jd K H (.str x) (.type "str")
 |flt (x:UInt64):jd K H (.flt x) (.type "float")
 |lst {a:af}{xs:List V} (e:H a=aa (.lst xs)):jd K H (.ref a) (.type "list")
 |frz {a:af}{o:Obj}{xs:List V} (e:H a=aa (.frz o (.lst xs))):jd K H (.ref a) (.type "list")
 |tup {a:af}{xs:List V} (e:H a=aa (.tup xs)):jd K H (.ref a) (.type "tuple")
 |dK {a:af}{kvs:List (aE×V)} (e:H a=aa (.dK kvs)):jd K H (.ref a) (.type "dict")
 |dT {a:af}{kvs:List (List aE×V)} (e:H a=aa (.dT kvs)):jd K H (.ref a) (.type "dict")
 |ins {a C dx:af}{fs:List (Str×V)} (e:H a=aa (.ins C dx fs)) (cl:G6 K C) (ha:q8 K (.ref C) "__class__"=aa (aa (.builtin "object.__class__")))
   (hn:Jf K (.builtin "object.__class__") "__get__"=aa (aa (.builtin "getset_descriptor.__get__"))) (rG:PySem.W.takesIn K (.builtin "object.__class__")=aa ah)
   (hm:zr K C (.type "object")=aa ah):jd K H (.ref a) (.ref C)
theorem N5{x:V}{u t:ai}(I:Inv X f d H s)(g:RelV x u)(ty:jd X.K H x t)(e:fe X.K t c=aa b)(h:∀m,Q (.bool b) {s with toks:=m}):ar (au X.prog X.w) A (call (.builtin "isinstance") [u,c]) Q E s:=by
 cases ty with
 |non=>cases (show u=Value.none from g);exact lP PySem.W.kitx_none I.kIn True.intro e (λz=>nomatch z) h
 |bl y=>cases (show u=Value.bool y from g);exact lP PySem.W.kitx_bool I.kIn True.intro e (λz=>nomatch z) h
 |int i=>obtain⟨t,q⟩:=(show ∃t,u=Value.int i t from g);cases q;exact lP PySem.W.kitx_int I.kIn True.intro e (λz=>nomatch z) h
 |str y=>obtain⟨t,q⟩:=(show ∃t,u=Value.str y t from g);cases q;exact lP PySem.W.kitx_str I.kIn True.intro e (λz=>nomatch z) h
 |flt y=>obtain⟨t,q⟩:=(show ∃t,u=Value.float y t from g);cases q;exact lP PySem.W.kitx_float I.kIn True.intro e (λz=>nomatch z) h
 |@lst a xs ea=>
  cases (show u=Value.ref a from g);obtain⟨_,_,n,_,j⟩:=(show bR X.prog X.w H s.heap a (.lst xs)from I.hok a _ ea)
  exact lP PySem.W.kitx_list I.kIn ⟨_,j,rfl⟩ e (λz=>nomatch z) h
 |@frz a ob xs ea=>
  cases (show u=Value.ref a from g);obtain⟨_,_,_,n,_,j⟩:=(show bR X.prog X.w H s.heap a (.frz ob (.lst xs))from I.hok a _ ea)
  exact lP PySem.W.kitx_list I.kIn ⟨_,j,rfl⟩ e (λz=>nomatch z) h
 |@tup a xs ea=>
  cases (show u=Value.ref a from g);obtain⟨_,_,_,p,_⟩:=(show bR X.prog X.w H s.heap a (.tup xs)from I.hok a _ ea)
  obtain⟨o,j,l,_⟩:=p;exact lP PySem.W.kitx_tuple I.kIn ⟨o,j,l⟩ e (λz=>nomatch z) h
 |@dK a kvs ea=>
  cases (show u=Value.ref a from g);obtain⟨_,_,w,_,p⟩:=(show bR X.prog X.w H s.heap a (.dK kvs)from I.hok a _ ea)
  obtain⟨o,r,v,j,l,_⟩:=p;exact lP PySem.W.kitx_dict I.kIn ⟨o,j,l.1⟩ e (λz=>nomatch z) h
 |@dT a kvs ea=>
  cases (show u=Value.ref a from g);obtain⟨_,_,xs,_,o,r,v,j,l,_⟩:=(show bR X.prog X.w H s.heap a (.dT kvs)from I.hok a _ ea)
  exact lP PySem.W.kitx_dict I.kIn ⟨o,j,l.1⟩ e (λz=>nomatch z) h
 |@ins a C dx fs ea cl ha hn rG hm=>
  cases (show u=Value.ref a from g);obtain⟨D,O,_⟩:=Pg I.hok ea;obtain⟨B,J,_⟩:=O.look;exact lP (PySem.W.kitx_own (cl.get _) cl.hd ha hn rG hm) I.kIn J e (λz=>nomatch z) h
end
structure eT(k:Nat)(A:aT):Prop where
 hd:A.handled=ae
 dp:A.depth+3*k+5<recursionLimit
 un:A.units+16*k+200<cLine
theorem eT.mono{j k:Nat}{A:aT}(r:eT k A)(h:j<=k):eT j A:=⟨r.hd,by have:=r.dp;lia,by have:=r.un;lia⟩
theorem eT.deeper{k:Nat}{A:aT}(r:eT (k+1) A)(a:Env):eT k (A.deeper a) :=⟨r.hd,by have:=r.dp;show A.depth+1+3*k+5<_;lia,by have:=r.un;show A.units+3+16*k+200<_;lia⟩
theorem eT.depth{k:Nat}{A:aT}(r:eT k A):A.depth<recursionLimit:=by have:=r.dp;lia
theorem eT.units{k:Nat}{A:aT}(r:eT k A):A.units+64<cLine:=by have:=r.un;lia
def NS:TA:=λ_ H Q=>Q [] H
def NC(c:TE)(b:TA):TA:=λa H Q=>c a H λx f=>b a f λxs d=>Q (x::xs) d
section
variable{X:Cx}{e:aC}{c:List aC}{d:TE}{t:TA}{a:Pos}
theorem ka:PA X [] NS:=λ_ _ _ _ H Q I h=>Jg ⟨[],H,I,.nil,h⟩
theorem i9(p:PE X e d)(o:PA X c t)(n:aU (e::c) X.env=(aj,aX e X.env)::aU c X.env:=by rfl):PA X (e::c) (NC d t):=by intro a f s b H Q I h;rw[n];show ar _ _ (spliced ((aj,aX e X.env)::c7 a (aU c X.env))) _ _ s;refine CJ (aW (p f s b H _ I h) λu g ζ=>?_);obtain⟨x,w,r,j,m⟩:=ζ;exact aW (o a f g b w _ r m) λy z ⟨xs,v,q,i,l⟩=>⟨x::xs,v,q,.cons j i,l⟩
def Pt(t:TA):TE:=λf H Q=>t f H λxs b=>xs.length<=bf/\∀p,b p=ae->Q (.ref p) (upd b p (.tup xs))
def Li(t:TA):TE:=λf H Q=>t f H λxs b=>xs.length<=bf/\∀p,b p=ae->Q (.ref p) (upd b p (.lst xs))
theorem MG{x1}(h:PA X c t):PE X (.Tuple c x1 a) (Pt t):=by intro o s j H Q I m;refine wpAny_Tuple_spliced (aW (h a o s j H _ I m) λl f ⟨xs,i,g,r,z,q⟩=>⟨by rw[<-r.length];exact z,?_⟩);have n:i f.heap.objs.size=ae:=g.hok.fresh (aZ _);refine⟨.ref f.heap.objs.size,upd i f.heap.objs.size (.tup xs),g.laid (t':=f.toks) (λb u e=>bw _ e) (aZ _) ?_,rfl,q _ n⟩;exact⟨z,l,r,⟨⟨_,cz _ rfl,rfl,_,rfl⟩,_,cz _ rfl,rfl⟩⟩
theorem TM(h:PA X c t):PE X (.List c a) (Li t):=by intro o s j H Q I m;refine wpAny_List_spliced (aW (h a o s j H _ I m) λl f ⟨xs,i,g,r,z,q⟩=>⟨by rw[<-r.length];exact z,?_⟩);have n:i f.heap.objs.size=ae:=g.hok.fresh (aZ _);refine⟨.ref f.heap.objs.size,upd i f.heap.objs.size (.lst xs),g.laid (t':=f.toks) (λb u e=>bw _ e) (aZ _) ?_,rfl,q _ n⟩;exact⟨z,l,0,r,cz _ rfl⟩
end
abbrev Sp:=List V->Hp->VK->XK->Prop
abbrev gA:=List Env->Hp->am->XK->ai->am->Prop
structure sA(P:aN)(w:aG)(K:ay)(mg:Str->Option ai)(base:aB)(A:aT)(outer:List Env)(s:am)(H:Hp):Prop where
 frames:A.frames=aa outer
 mod:Mod K mg base
 bs:∀b o,base.get? b=aa o->s.heap.get? b=aa o/\H b=ae
 bsz:base.objs.size<=s.heap.objs.size
 funs:s.heap.FunFrames base outer
 frf:∀b∈fF outer,H b=ae
 hok:df P w H s.heap
 bare:n5 s.gens
 tab:xq K H
def CE(a:List Env)(P:aN)(w:aG)(H:Hp)(s:am)(Q:VK)(u:ai)(b:am):Prop :=
 ∃v c,b.os=s.os/\n5 b.gens/\Un (fF a) [] H c s.heap b.heap/\df P w c b.heap/\RelV v u/\Q v c
def CR(c:gA)(a:List Env)(P:aN)(w:aG)(H:Hp)(s:am)(Q:VK)(E:XK)(r:Result)(b:am):Prop :=
 match r with
 |.ok (.ret u)=>CE a P w H s Q u b
 |.ok _=>False
 |.error e=>c a H s E e b
structure jP(P:aN)(w:aG)(K:ay)(mg:Str->Option ai)(base:aB)(CX:gA)(k:Nat)(f:af)(fd:gh)(ps:List Str)(sp:Sp):Prop where
 len:∀vs H Q E,sp vs H Q E->vs.length=ps.length
 run:∀(A:aT) (outer:List Env) (s:am) (H:Hp) (args:Args) (us:List ai) (vs:List V) (Q:VK) (E:XK),eT k A->sA P w K mg base A outer s H->BindsTo s fd args (ps.zip us)->bt vs us->sp vs H Q E ->
  mO (au P w) A (.call (.ref f) args) (CR CX outer P w H s Q E) s
section
variable{X:Cx}{f:List (af×Obj)}{a:St}{H:Hp}{s c:am}
theorem Inv.env0(I:Inv X f a H s):sA X.prog X.w X.K X.mg X.base X.A X.stack s H :=⟨I.ok.frames,I.ok.mod,I.bs,cX I.ok.bsz I.sz,I.stack,I.stkFree,I.hok,I.bare,I.tab⟩
theorem Inv.after{Q:VK}{u:ai}(I:Inv X f a H s)(h:CE X.stack X.prog X.w H s Q u c):EP X f a Q u c:=by obtain⟨v,o,m,i,un,l,r,q⟩:=h;obtain⟨n,g,d,t,j⟩:=c;obtain rfl:j=s.os:=m;exact⟨v,o,I.call (h':=n) (g':=g) (d':=d) (t':=t) (ch:=[]) un l i (λb z=>absurd z (by simp)),r,q⟩
end
def MZ(d:Sp)(a:List V)(E:XK)(t:TA):TE:=λb H Q=>t b H λc f=>d (c++a) f Q E
def Binds(K:ay)(d:gh)(b:List Str)(c:List ai):Prop :=
 ∀(s:am) (a:List ai),K.In s.heap->(a++c).length=b.length->BindsTo s d ⟨a,[]⟩ (b.zip (a++c))
theorem Binds.all{K:ay}{d:gh}{b:List Str}(h:∀a:List ai,a.length=b.length->gF d ⟨a,[]⟩=pure (b.zip a)):Binds K d b []:=λs a _ c=>by rw[iR]at c ⊢;exact .of_eq (h a c)
def sQ(c:gA)(X:Cx)(E:XK):Prop:=∀(b:List (af×Obj)) (a:St) (H:Hp) (s:am) (e:ai) (s':am),Inv X b a H s->c X.stack H s E e s'->X.xe e s'
section
variable{X:Cx}{l:gA}{k:Nat}{f C:af}{j:gh}{d:List Str}{i:Sp}{a:List V}{c:List ai}{E:XK}{x m:Str}{p b n:Pos}{e o:aC}{g:List aC}{v:TE}{t:TA}
theorem US{A:List (af×Obj)}{z:St}{H:Hp}{s:am}{Q:VK}{q:List ai}{y:List V}(F:jP X.prog X.w X.K X.mg X.base l k f j d i)(J:eT k X.A)(M:Binds X.K j d c)(L:bt a c)(G:sQ l X E)(I:Inv X A z H s) (r:bt y q) (h:i (y++a) H Q E):ar (au X.prog X.w) X.A (call (.ref f) q) (EP X A z Q) X.xe s:=by
 have B:bt (y++a) (q++c):=r.append L;have K:(q++c).length=d.length:=by rw[<-B.length];exact F.len _ _ _ _ h
 refine zt (q_ (F.run X.A X.stack s H ⟨q,[]⟩ (q++c) (y++a) Q E J I.env0 (M s q I.kIn K) B h) λr D w=>?_);cases r with
 |error e=>exact G A z H s e D I w
 |ok N=>
  cases N with
  |ret u=>exact I.after w
  |next=>exact im w
  |brk=>exact im w
  |cont=>exact im w
theorem FC(F:jP X.prog X.w X.K X.mg X.base l k f j d i)(A:eT k X.A)(G:Gl X x)(B:X.mg x=aa (.ref f))(D:n9 X.K (.ref f)=ah)(L:Binds X.K j d c)(K:bt a c)(z:sQ l X E)(M:PA X (e::g) t) (y:ad x:=by decide) (J:aU (e::g) X.env=(aj,aX e X.env)::aU g X.env:=by rfl) (N:(c7 b (aU g X.env)).any (·.1)=aj:=by rfl):PE X (.Call (.Name x p) (e::g) [] b) (MZ i a E t):=by intro O s w H Q I h;refine CL (vM I G B ?_ y);refine Jh (h₀:=X.base) I.ok.mod.kin D (aW (M b O s w H _ I h) λS T ⟨P,W,u,r,q⟩=>⟨u.kIn,?_⟩) J N;exact US F A L K z u r q
end
structure cy(N P:List Str)(sc:d9):Prop where
 kind:sc.kind=.function
 co:sc.isCoroutine=aj
 gen:sc.isGenerator=aj
 nd:N.Nodup
 pre:N.take P.length=P
 par:∀x∈P,sc.names.lookup x=aa .local\/sc.names.lookup x=aa .cell
 nofree:∀y∈sc.names,y.2≠.free
theorem G_{a:Str->Option gY}{x:Str}:∀{binds:List (Str×ai)}{m:Str->Option ai},(∀v,(x,v)∉binds)->bindL a binds m x=m x
 |[],_,_=>rfl
 | (n,v)::r,m,h=>by
  unfold bindL;rw[G_ λw b=>h w (eJ _ b)];split
  .have:x≠n:=by rintro rfl;exact h v fK
   simp[this]
  .rfl
theorem IP{a:Str->Option gY}{x:Str}:∀{binds:List (Str×ai)}{m:Str->Option ai},(∀v,(x,v)∉binds)->bindC a binds m x=m x
 |[],_,_=>rfl
 | (n,v)::r,m,h=>by
  unfold bindC;rw[IP λw b=>h w (eJ _ b)];split
  .rfl
  .have:x≠n:=by rintro rfl;exact h v fK
   simp[this]
theorem Fq{a:Str->Option gY}{x:Str}{v:ai}:∀{P:List Str}{b:List ai}{i:Nat}{m:Str->Option ai},P.Nodup->P[i]?=aa x->b[i]?=aa v->a x=aa .local -> bindL a (P.zip b) m x=aa v
 |[],_,_,_,_,h,_,_=>by simp at h
 |_::_,[],_,_,_,_,h,_=>by simp at h
 |p::P,w::b,0,m,nd,h1,h2,hk=>by simp at h1 h2;subst h1;subst h2;show bindL a ((p,w)::P.zip b) m p=_;unfold bindL;rw[G_ λv c=>(jB.mp nd).1 (vU c).1,if_pos hk];simp
 |p::P,w::b,i+1,m,nd,h1,h2,hk=>by show bindL a ((p,w)::P.zip b) m x=_;unfold bindL;exact Fq (i:=i) (jB.mp nd).2 (~~~h1) (~~~h2) hk
theorem IF{a:Str->Option gY}{x:Str}{v:ai}:∀{P:List Str}{b:List ai}{i:Nat}{m:Str->Option ai},P.Nodup->P[i]?=aa x->b[i]?=aa v->a x≠aa .local -> bindC a (P.zip b) m x=aa v
 |[],_,_,_,_,h,_,_=>by simp at h
 |_::_,[],_,_,_,_,h,_=>by simp at h
 |p::P,w::b,0,m,nd,h1,h2,hk=>by simp at h1 h2;subst h1;subst h2;show bindC a ((p,w)::P.zip b) m p=_;unfold bindC;rw[IP λv c=>(jB.mp nd).1 (vU c).1,if_neg hk];simp
 |p::P,w::b,i+1,m,nd,h1,h2,hk=>by show bindC a ((p,w)::P.zip b) m x=_;unfold bindC;exact IF (i:=i) (jB.mp nd).2 (~~~h1) (~~~h2) hk
def start(N:List Str)(a:List V):St:=a.map aa++bE (N.length-a.length) ae
def js(g:gA)(P:aN)(w:aG)(K:ay)(mg:Str->Option ai)(base:aB)(N:List Str)(b:Str)(a:d9)(f:af)(d:ai)(A:aT)(outer:List Env)(s:am)(H:Hp)(E:XK):Cx where
 prog:=P
 w:=w
 K:=K
 mg:=mg
 base:=base
 A:=A.deeper (jC b a s.heap.objs.size f d)
 N:=N
 s₀:=s
 H₀:=H
 env:=jC b a s.heap.objs.size f d
 outer:=outer
 stack:=jC b a s.heap.objs.size f d::outer
 ex:=[]
 calm:=ah
 fn:=λ_=>ah
 pn:=[]
 xe:=λe s'=>ar (au P w) (A.deeper (jC b a s.heap.objs.size f d)) (leaving (jC b a s.heap.objs.size f d) e) (λ_ c=>g outer H s E e c) (λh c=>g outer H s E h c) s'
theorem Fh{a:d9}{n:Nat}{x:Str}(h:a.names.lookup x=aa .cell):∃c,(f8 n a.names []).lookup x=aa c:=by have q:=Ji a.names n [] (.inl h);exact CM.mp q
theorem GC{Y:gA}{P:aN}{w:aG}{K:ay}{Q:Str->Option ai}{o:aB}{N C:List Str}{j:Str}{d:d9}{f:af}{M:ai}{A:aT}{g:List Env}{s T:am}{H:Hp}{E:XK}{O:List ai}{B:List V}(S:cy N C d) (hd:A.handled=ae) (m:sA P w K Q o A g s H) (hl:B.length=C.length) (r:bt B O)(x:InCallC s s.heap.objs.size (bindL (jC j d s.heap.objs.size f M).kindOf (C.zip O) λ_=>ae) (f8 (s.heap.objs.size+1) d.names []) (bindC (jC j d s.heap.objs.size f M).kindOf (C.zip O) λ_=>ae) T):Inv (js Y P w K Q o N j d f M A g s H E) [] (start N B) H T:=by
 have dv:C.length<=N.length:=by have:=congrArg ln S.pre;rw[lQ]at this;lia
 obtain⟨L,tk,rfl,X⟩:=x.done;have D:∀b:af,b∉(js Y P w K Q o N j d f M A g s H E).ex:=λb z=>absurd (show b∈([]:List af)from z) (by simp);refine⟨⟨m.mod,S.kind,rfl,rfl,aZ _,λy z c L l=>?_,λy F=>?_,λy c _ h=>?_,λ_=>hd,Around.frames_deeper m.frames,.inr ⟨rfl,rfl⟩,λb z=>absurd z (D b),m.bs,m.bsz,λb _ _=>D b,λb z=>absurd z (D b),m.funs,m.frf,m.tab⟩,rfl,m.bare,Un.kept X,⟨_,x.toInCall.ns,λi y v L l h3=>?_⟩,λy c h=>⟨_,x.cell y c h⟩,m.hok.fresh (aZ _),λy c h=>?_,λp I=>absurd (show p∈([]:List (af×Obj))from I) (by simp),m.hok.kept X,?_⟩
 .exact name_of_addr x.apart (lR L) (lR l)
 .have F:d.names.lookup y=aa .cell\/d.names.lookup y=aa .free:=F;rcases F with F|F
  .exact Fh F
  .exact absurd rfl (S.nofree _ (lR F))
 .exact li (x.above y c (lR h))
 .have J:i<B.length:=by
   unfold start at l;by_cases J:i<B.length
   .exact J
   .rw[pf (~~~J)]at l;rw[List.getElem?_replicate]at l;split at l <;> cases l
  have ha:B[i]?=aa v:=by
   unfold start at l;rw[iS (~~~J),gZ]at l;cases e:B[i]? with
   |none=>rw[e]at l;cases l
   |some a=>rw[e]at l;cases l;rfl
  obtain⟨u,W,Z⟩:=r.get ha;have I:C[i]?=aa y:=by rw[<-S.pre,List.getElem?_take_of_lt ∅];exact L
  have G:C.Nodup:=by rw[<-S.pre];exact S.nd.sublist (List.take_sublist _ _)
  refine⟨u,Z,?_⟩;rcases S.par y (ph I)with k|k
  .exact .inl ⟨k,Fq G I W k⟩
  .obtain⟨c,e⟩:=Fh (n:=s.heap.objs.size+1) k;refine .inr ⟨.inl k,c,e,?_⟩;have q:=x.cell y c e;rw[IF G I W (by show d.names.lookup y≠_;rw[k];decide)]at q;exact q
 .exact m.hok.fresh (li (x.above y c (lR h)))
 .unfold start;show _=N.length;rw[fz,cN,List.length_replicate];lia
theorem KL{M:gA}{P:aN}{w:aG}{K:ay}{L:Str->Option ai}{h:aB}{k:Nat}{f:af}{m d:Str}{g:Arguments}{i:List a8}{a:d9}{dV kV F pm z ct oc:ai}{an od:Option af}{X:Array (Option ai)}{N G:List Str}{O:Sp} (lk:K.lookup f=aa ⟨oc,od,.func (jh m d g i a dV kV F pm an z ct),X⟩) (bA:vV K z d=ah) (S:cy N G a)(len:∀l H Q E,O l H Q E->l.length=G.length)(iV:∀(A:aT) (c:List Env) (s:am) (H:Hp) (l:List V) (Q:VK) (E:XK),eT k (A.deeper (jC d a s.heap.objs.size f z))->O l H Q E -> ∃t,lK (js M P w K L h N d a f z A c s H E) i t/\t {nx:=λ_ p=>Q .non p,rt:=Q} (start N l) H):jP P w K L h M (k+1) f (jh m d g i a dV kV F pm an z ct) G O:=by
 refine⟨len,λA c s H args us l Q E Z D hb r jI=>?_⟩;have hl:=len _ _ _ _ jI;have KX:K.In s.heap:=D.mod.kin.keeps λb o e=>(D.bs b o e).1;have Y:s.heap.NoLimit:=D.mod.nolimit.keeps λb o e=>(D.bs b o e).1;have D7:∀y∈G.zip us,a.names.lookup y.1=aa .local\/(a.names.lookup y.1=aa .cell/\((f8 (s.heap.objs.size+1) a.names []).lookup y.1).isSome=ah):=λ⟨n,v⟩ hy=>by
  rcases S.par n (vU hy).1 with q|q
  .exact .inl q
  .exact .inr ⟨q,Ji _ _ _ (.inl q)⟩
 refine codeAny_call_function Z.depth (KX _ _ lk) rfl S.co S.gen rfl (PySem.W.codeRec_of KX bA) (hb _ _ _ _ ?_);refine wpAny_newFunctionEnv_cells S.kind D7 λenv he s1 x=>?_;subst he;refine⟨Y.keeps x.toInCall.keep,codeAny_func ?_⟩;obtain⟨t,ht,hq⟩:=iV A c s H l Q E (Z.deeper _) jI;have I:Inv (js M P w K L h N d a f z A c s H E) [] (start N l) H s1:=GC S Z.hd D hl r x;refine eW (ht [] s1 (start N l) H _ I hq) (λfl T B=>?_) λe T B=>B;have C:∀{j:St}{p:Hp}{v:V}{u:ai},Inv (js M P w K L h N d a f z A c s H E) [] j p T->RelV v u->Q v p->CE c P w H s Q u T :=λ{j p v u} J W q=>⟨v,p,J.os,J.bare,J.base,J.hok,W,q⟩
 cases fl with
 |ret u=>obtain⟨v,j,p,J,W,q⟩:=B;exact C J W q
 |next=>obtain⟨j,p,J,q⟩:=B;exact C (v:=V.non) (u:=Value.none) J rfl q
 |brk=>obtain⟨_,_,_,q⟩:=B;exact im q
 |cont=>obtain⟨_,_,_,q⟩:=B;exact im q
section
variable{X:Cx}{x:Str}{p a:Pos}{e:aC}{b:List aC}{t:TA}{c T:String}{r:List V->Hp->VK->Prop}
def HL(r:List V->Hp->VK->Prop)(t:TA):TE:=λd H Q=>t d H λf g=>r f g Q
theorem nY(y:d4 X (.builtin c) r)(v:Gl X x)(u:X.mg x=ae)(o:fk x=aa (.builtin c))(z:PA X (e::b) t)(q:x≠"__name__":=by decide)(n:ad x:=by decide)(w:aU (e::b) X.env=(aj,aX e X.env)::aU b X.env:=by rfl) (A:(c7 a (aU b X.env)).any (·.1)=aj:=by rfl):PE X (.Call (.Name x p) (e::b) [] a) (HL r t):=by intro f s d H Q I h;refine CL (yW I v u o ?_ q n);exact PyProof.Rows.callWith_builtin1 (aW (z a f s d H _ I h) λi j ⟨g,C,B,l,m⟩=>y f j d C g i Q B l m) w A
theorem vx(y:d4 X (.type T) r)(v:Gl X x)(u:X.mg x=ae)(o:fk x=aa (.type T))(z:PA X (e::b) t)(q:x≠"__name__":=by decide)(n:ad x:=by decide)(w:aU (e::b) X.env=(aj,aX e X.env)::aU b X.env:=by rfl) (A:(c7 a (aU b X.env)).any (·.1)=aj:=by rfl):PE X (.Call (.Name x p) (e::b) [] a) (HL r t):=by intro f s d H Q I h;refine CL (yW I v u o ?_ q n);exact PyProof.Rows.callWith_type1 (aW (z a f s d H _ I h) λi j ⟨g,C,B,l,m⟩=>y f j d C g i Q B l m) w A
end
end L2
namespace HT
section
open PySem.SeqAt
open PySem.AutoSeq1 (wpAny_loadPart')
open PySem.MeetsSeq PySem.MeetsSeq2 PySem.MeetsSeq3
end
section
variable{a:aN}{w:aG}{A:aT}{E:ai->am->Prop}{s:am}
theorem cat_tup{t b:af}{d c:List ai}{Q:ai->am->Prop}(B:IsTup s.heap t d.toArray)(C:IsTup s.heap b c.toArray)(u:d≠[])(F:c=[]->Q (.ref t) s) (D:c≠[]->Q (.ref s.heap.objs.size) {s with heap:=s.heap.push {cls:=.type "tuple",data:=.seq (d++c).toArray}})(l:d.length+c.length<=bf):ar (au a w) A (il .Add (.ref t) (.ref b)) Q E s:=by
 obtain⟨⟨cls,y,data,o⟩,j,x,n,v⟩:=id B;obtain⟨⟨z,g,m,f⟩,h,q,p,r⟩:=id C;simp only at x v q r;subst x v q r;have e:d.toArray++c.toArray=(d++c).toArray:=by simp
 by_cases i:c=[]
 .exact concat_meets ⟨_,j,rfl⟩ ⟨_,h,rfl⟩ Jj seq_tuple_add Jk Jl (Jm _ _)
   (tuple_addW1 t b d.toArray c.toArray n p y g o f (~~~u) (by simp[i])) ⟨j,h,F i⟩
 .refine concat_meets ⟨_,j,rfl⟩ ⟨_,h,rfl⟩ Jj seq_tuple_add Jk Jl (Jm _ _)
   (tuple_addW2 t b d.toArray c.toArray n p y g o f (~~~u) (~~~i) (by rw[cM,cM];exact l)) ⟨j,h,?_⟩
  rw[e];exact D i
def sIx(n d:Nat):Option Int->Nat
 |none=>d
 |some v=>if v<0 then(v+(n:Int)).toNat else min v.toNat n
theorem sIx_nat(n d k:Nat):sIx n d (aa (k:Int))=min k n:=by show(if(k:Int)<0 then((k:Int)+(n:Int)).toNat else min (k:Int).toNat n)=min k n;rw[if_neg ∅,lS]
theorem sIx_le(n d:Nat)(c:d<=n)(o:Option Int):sIx n d o<=n:=by
 cases o with
 |none=>exact c
 |some v=>
  show(if v<0 then(v+(n:Int)).toNat else min v.toNat n)<=n;by_cases b:v<0
  .rw[if_pos b];lia
  .rw[if_neg b];exact Nat.min_le_right _ _
theorem E2(v:Int)(n d:Nat):(if v<0 then max (v+(n:Int)) 0 else min v (n:Int))=((sIx n d (aa v):Nat):Int):=by
 show(if v<0 then max (v+(n:Int)) 0 else min v (n:Int))=(((if v<0 then(v+(n:Int)).toNat else min v.toNat n):Nat):Int)
 by_cases b:v<0
 .simp only[if_pos b];lia
 .simp only[if_neg b];lia
theorem NO(b c:Option Int)(n:Nat):Jn b c 1 (n:Int)=(((sIx n 0 b:Nat):Int),((sIx n n c:Nat):Int)):=by
 have d:¬((1:Int)<0):=∅
 unfold Jn;simp only[d,if_false];refine Prod.ext ?_ ?_
 .cases b with
  |none=>rfl
  |some v=>exact E2 v n 0
 .cases c with
  |none=>rfl
  |some v=>exact E2 v n n
theorem Rc(i j:Nat):CO (i:Int) (j:Int) 1=j-i:=by
 unfold CO;have b:(1:Int) > 0:=∅
 simp only[b,if_true,Int.ediv_one];split <;> lia
theorem Ii{v:ai}{o:Option Int}{Q:Option Int->am->Prop}(p:lT v o)(h:Q o s):ar (au a w) A (Builtin.Slice.slicePartIndex v) Q E s:=by
 cases p with
 |none=>exact slicePart_none h
 |int i t=>exact slicePart_int h
theorem HK{j:af}{g f:ai}{b c:Option Int}{n:Nat}{Q:Int×Int×Nat->am->Prop}(o:s.heap.IsSliceOf j g f .none)(m:lT g b)(l:lT f c)(h:Q (((sIx n 0 b:Nat):Int),1,sIx n n c-sIx n 0 b) s):ar (au a w) A (Builtin.Slice.sliceApplied (.ref j) (pure (n:Int))) Q E s:=by
 obtain⟨q,i,p,d⟩:=id o;unfold Builtin.Slice.sliceApplied Builtin.Slice.sliceFields;refine aq (aq (re i d (x:=g) rfl (aq (re i d (x:=f) rfl (aq (re i d (x:=.none) rfl (aD ?_)))))));refine aq (slicePart_none ?_);show ar _ _ (if((1:Int) == 0)=ah then _ else _) _ _ s;rw[if_neg (by decide)];refine aq (Ii m (aq (Ii l (aq (aD ?_)))));show ar _ _ (match Jn b c 1 (n:Int)with | (b,c)=>pure (b,(1:Int),CO b c 1)) _ _ s;rw[NO b c n];show ar _ _ (pure (((sIx n 0 b:Nat):Int),(1:Int),CO ((sIx n 0 b:Nat):Int) ((sIx n n c:Nat):Int) 1)) _ _ s;rw[Rc];exact aD h
theorem Qm(xs:Array ai)(i k:Nat):((cr k).filterMap λ(m:Nat)=>xs[((i:Int)+(m:Int)*1).toNat]?).toArray=((xs.toList.drop i).take k).toArray:=by
 have e:(λ(m:Nat)=>xs[((i:Int)+(m:Int)*1).toNat]?)=λm=>xs[i+m]?:=by
  funext m;have:((i:Int)+(m:Int)*1).toNat=i+m:=∅
  rw[this]
 rw[e];have:=pick_run xs i k;rw[List.filterMap_map]at this;have b:((λx=>xs[x]?) ∘ λx=>i+x)=λm=>xs[i+m]?:=rfl;rw[b]at this;rw[this]
theorem getItem_tuple_cut{t i:af}{b:Array ai}{p o:ai}{c d:Option Int}{Q:ai->am->Prop}(g:IsTup s.heap t b)(r:s.heap.IsSliceOf i p o .none)(x:lT p c)(v:lT o d)(z:¬(sIx b.size 0 c=0/\sIx b.size b.size d=b.size))(h:Q (.ref s.heap.objs.size) {s with heap:=s.heap.push {cls:=.type "tuple",data:=.seq ((b.toList.drop (sIx b.size 0 c)).take (sIx b.size b.size d-sIx b.size 0 c)).toArray}})(B:b.size<=bf):ar (au a w) A (n_ (.ref t) (.ref i)) Q E s:=by
 have f:sizeOk (.seq ((b.toList.drop (sIx b.size 0 c)).take (sIx b.size b.size d-sIx b.size 0 c)).toArray):=by show((b.toList.drop (sIx b.size 0 c)).take (sIx b.size b.size d-sIx b.size 0 c)).toArray.size<=bf;rw[cM,lQ,mP,fL];lia
 have G:sIx b.size b.size d<=b.size:=sIx_le _ _ (aZ _) d;obtain⟨y,u,l,C⟩:=id r;have n:s.TypeIs (.ref i) "slice":=⟨y,u,l⟩
 unfold n_
 try with_reducible refine jW ?_
 first|refine aq (aD ?_)|skip
 refine aq (wpAny_sequenceKey g.typeIs (by decide) ?_);refine aq (zu (name:=vW "__getitem__") g.typeIs CP (mQ CP g.typeIs entry_tuple_getitem ?_ (args_tuple_getitem _ _)));show ar _ _ (Jo (.ref t) >>= _) _ _ s;refine aq (tupleItemsOf_ g ?_);refine aq (tF n ?_);rw[if_pos (by decide)];refine aq (HK r x v ?_);have j:¬((((sIx b.size 0 c:Nat):Int) == 0&&(1:Int) == 1&&(sIx b.size b.size d-sIx b.size 0 c) == b.size)=ah):=by intro q;rw[g7,g7]at q;have F:((sIx b.size 0 c:Nat):Int)=0:=eq_of_beq q.1.1;have D:sIx b.size b.size d-sIx b.size 0 c=b.size:=eq_of_beq q.2;exact z ⟨∅,∅⟩
 show ar _ _ (if(((sIx b.size 0 c:Nat):Int) == 0&&(1:Int) == 1&&(sIx b.size b.size d-sIx b.size 0 c) == b.size)=ah then _ else _) _ _ s;rw[if_neg j,Qm]
 first
  |exact aq (m:=CQ _) (lq (aD ⟨_,rfl,aD h⟩) f)
  |exact aq (m:=CQ _) (lq (aq (aD (aD ⟨_,rfl,aD h⟩))) f)
  |exact aq (aq (m:=CQ _) (lq (aD (aD ⟨_,rfl,aD h⟩)) f))
  |exact aq (aq (m:=CQ _) (lq (aD ⟨_,rfl,aD h⟩) f))
end
end HT
namespace L2
abbrev TO:=St->Hp->(Option Int->Hp->Prop)->Prop
def PO(X:Cx)(e:Option aC)(t:TO):Prop :=
 ∀(b:List (af×Obj)) (s:am) (a:St) (H:Hp) (Q:Option Int->Hp->Prop),Inv X b a H s->t a H Q ->
  ar (au X.prog X.w) X.A (evalPart e X.env) (λu d=>∃o c,Inv X b a c d/\lT u o/\Q o c) X.xe s
def SX:TO:=λ_ H Q=>Q ae H
def Nc(t:TE):TO:=λa H Q=>t a H λx b=>∃i,x=.int i/\Q (aa i) b
section
variable{X:Cx}{e:aC}{f:TE}{c d:Option aC}{g j:TO}{n m:Pos}
theorem Om:PO X ae SX:=by intro b s a H Q I h;rw[evalPart_none];exact aD ⟨ae,H,I,.none,h⟩
theorem Qt(h:PE X e f):PO X (aa e) (Nc f):=by intro p s a H Q I o;rw[evalPart_some];refine aW (h p s a H _ I o) λu w ζ=>?_;obtain⟨x,v,r,b,l⟩:=ζ;obtain⟨i,rfl,q⟩:=l;obtain⟨t,rfl⟩:=b;exact⟨aa i,v,r,.int i t,q⟩
def lD(X:Cx)(r:V->Option Int->Option Int->Hp->VK->Prop):Prop :=
 ∀(l:List (af×Obj)) (s:am) (a:St) (H:Hp) (x:V) (v h b:ai) (c d:Option Int) (i:af) (Q:VK),Inv X l a H s->RelV x v->s.heap.IsSliceOf i h b .none->lT h c->lT b d->r x c d H Q ->
  ∃T o,typeLookup (.type T) "__getitem__"=pure (aa (.builtin o))/\s.TypeIs v T/\ar (au X.prog X.w) X.A (n_ v (.ref i)) (EP X l a Q) X.xe s
theorem lD.or{r p:V->Option Int->Option Int->Hp->VK->Prop}(h:lD X r)(A:lD X p):lD X (λx c d H Q=>r x c d H Q\/p x c d H Q):=by
 intro z s a H x v i b c d l Q I o y w u q;rcases q with q|q
 .exact h z s a H x v i b c d l Q I o y w u q
 .exact A z s a H x v i b c d l Q I o y w u q
def RD(r:V->Option Int->Option Int->Hp->VK->Prop)(f:TE)(g j:TO):TE:=λa H Q=>f a H λx i=>g a i λl h=>j a h λu b=>r x l u b Q
theorem Pj{r:V->Option Int->Option Int->Hp->VK->Prop}(L:lD X r)(O:PE X e f)(M:PO X c g)(J:PO X d j):PE X (.Subscript e (.Slice c d ae m) n) (RD r f g j):=by intro o s i H Q I h;refine Subscript_ (aW (O o s i H _ I h) λv A ζ=>?_);obtain⟨x,H1,Z,B,E⟩:=ζ;refine wpAny_Slice (aW (M o A i H1 _ Z E) λw z ⟨l,H2,Y,G,D⟩=>aW (J o z i H2 _ Y D) λp a ζ=>?_);obtain⟨u,y,W,F,C⟩:=ζ;rw[evalPart_none];refine aD ?_;have S:Inv X o i y {a with heap:=a.heap.push {cls:=.type "slice",data:=.fields #[w,p,.none]}}:=W.kept (t':=a.toks) λb ob q=>bw _ q;obtain⟨T,id,P,K,N⟩:=L o {a with heap:=a.heap.push {cls:=.type "slice",data:=.fields #[w,p,.none]}} i y x v w p l u a.heap.objs.size Q S B (Heap.IsSliceOf.new ..) G F C;show ar (au X.prog X.w) X.A (subscriptTail e (.Slice c d ae m) v (.ref a.heap.objs.size)) (EP X o i Q) X.xe {a with heap:=a.heap.push {cls:=.type "slice",data:=.fields #[w,p,.none]}};exact tail_any (ops:=[.ref a.heap.objs.size,v]) K P N (by with_unfolding_all rfl)
def oU(xs:List V)(c d:Option Int):List V:=(xs.drop (HT.sIx xs.length 0 c)).take (HT.sIx xs.length xs.length d-HT.sIx xs.length 0 c)
theorem E1(xs:List V)(c d:Option Int):(oU xs c d).length<=xs.length:=by unfold oU;rw[lQ,mP];lia
def Hy(K:ay):V->Option Int->Option Int->Hp->VK->Prop:=λx c d H Q=>∃a xs,x=.ref a/\cL K H a xs /\
 ¬(HT.sIx xs.length 0 c=0/\HT.sIx xs.length xs.length d=xs.length)/\∀p,H p=ae->Q (.ref p) (upd H p (.tup (oU xs c d)))
theorem NY:lD X (Hy X.K):=by
 intro K s D H x v F E c d G Q I w C z y h;obtain⟨a,xs,rfl,A,B,q⟩:=h;cases w;obtain⟨i,r,u,p⟩:=I.tuple A;have l:i.toArray.size=xs.length:=by rw[cM];exact r.length.symm
 refine⟨"tuple",_,PyProof.Rows.slot_tuple_getitem.lookup,u.typeIs,?_⟩;refine HT.getItem_tuple_cut u C z y (by rw[l];exact B) ?_ (by rw[l];exact p);rw[l];refine⟨.ref s.heap.objs.size,_,I.laid (t':=s.toks) (o:=.tup (oU xs c d)) (λb J q=>bw _ q) (aZ _) ?_,rfl,q _ (I.hok.fresh (aZ _))⟩;exact⟨cX (E1 xs c d) p,_,(r.drop (HT.sIx xs.length 0 c)).take (HT.sIx xs.length xs.length d-HT.sIx xs.length 0 c),IY.new _ _⟩
def FG(K:ay):R2:=λx y H Q=>∃a b xs h,x=.ref a/\y=.ref b/\cL K H a xs/\cL K H b h/\xs≠[]/\xs.length+h.length<=bf /\
 (h=[]->Q (.ref a) H)/\(h≠[]->∀p,H p=ae->Q (.ref p) (upd H p (.tup (xs++h))))
theorem bt.nil_iff{xs:List V}{a:List ai}(r:bt xs a):a=[]↔xs=[]:=by
 cases r with
 |nil=>simp
 |cons _ _=>simp
theorem Vv:bT X (il .Add) (FG X.K):=by
 intro O s M H x y v u Q I C B h;obtain⟨a,b,xs,A,rfl,rfl,L,K,J,r,E,D⟩:=h;cases C;cases B;obtain⟨G,l,F,_⟩:=I.tuple L;obtain⟨p,i,m,_⟩:=I.tuple K;refine HT.cat_tup F m (λz=>J (l.nil_iff.mp z)) (λz=>⟨.ref a,H,I,rfl,E (i.nil_iff.mp z)⟩) (λz=>?_) (by rw[<-l.length,<-i.length];exact r);refine⟨.ref s.heap.objs.size,_,I.laid (t':=s.toks) (o:=.tup (xs++A)) (λb N q=>bw _ q) (aZ _) ?_,rfl,D (λw=>z (i.nil_iff.mpr w)) _ (I.hok.fresh (aZ _))⟩;exact⟨by rw[fz];exact r,_,l.append i,IY.new _ _⟩
end
def nJ(n:Nat)(i:Int):Option Nat:=if 0<=i then(if i<n then aa i.toNat else ae)else if -(n:Int)<=i then aa (i+n).toNat else ae
def fE{a:Type}(xs:List a)(i:Int):Option a:=(nJ xs.length i).bind λj=>xs[j]?
theorem Ni{n:Nat}{i:Int}{j:Nat}(h:nJ n i=aa j):seqIndex? i n=aa j/\j<n/\-(n:Int)<=i/\i<n:=by
 unfold nJ at h;by_cases b:0<=i
 .rw[if_pos b]at h;by_cases a:i<n
  .rw[if_pos a]at h;have e:i.toNat=j:=dO h;exact⟨by rw[seqIndex_of b a,e],∅,∅,a⟩
  .rw[if_neg a]at h;cases h
 .rw[if_neg b]at h;by_cases a:-(n:Int)<=i
  .rw[if_pos a]at h;have e:(i+n).toNat=j:=dO h;exact⟨by rw[seqIndex_neg ∅ a,e],∅,a,∅⟩
  .rw[if_neg a]at h;cases h
theorem Az{a:Type}{xs:List a}{i:Int}{v:a}(h:fE xs i=aa v):∃j,seqIndex? i xs.length=aa j/\xs[j]?=aa v/\j<xs.length/\-(xs.length:Int)<=i/\i<xs.length:=by
 unfold fE at h;cases e:nJ xs.length i with
 |none=>rw[e]at h;cases h
 |some j=>rw[e]at h;obtain⟨f,d,c,b⟩:=Ni e;exact⟨j,f,h,d,c,b⟩
theorem RX{a:Type}{xs:List a}{j:Nat}{v:a}(h:xs[j]?=aa v):fE xs (j:Int)=aa v:=by
 have b:j<xs.length:=(c_.mp h).1;have e:nJ xs.length (j:Int)=aa j:=by unfold nJ;rw[if_pos ∅,if_pos ∅];simp
 unfold fE;rw[e];exact h
def Bu(b:aC):Prop:=∀o i,CS b aj o i=operate [o,i] (n_ o i)
def nq(X:Cx)(r:R2):Prop :=
 ∀(b a:aC) (d:List (af×Obj)) (s:am) (c:St) (H:Hp) (x y:V) (v u:ai) (Q:VK),Inv X d c H s->RelV x v->RelV y u->r x y H Q ->
  CS a aj v u=operate [v,u] (n_ v u)->ar (au X.prog X.w) X.A (subscriptTail b a v u) (EP X d c Q) X.xe s
def vO(X:Cx)(d:String)(r:V->List V->Hp->VK->Prop):Prop :=
 ∀(c:List (af×Obj)) (s:am) (a:St) (H:Hp) (x:V) (xs:List V) (v:ai) (b:List ai) (Q:VK),Inv X c a H s->RelV x v->bt xs b->r x xs H Q ->
  ar (au X.prog X.w) X.A (call (.builtin d) (v::b)) (EP X c a Q) X.xe s
section
variable{X:Cx}{a b:aC}{J G:TE}{F:Pos}
theorem nq.or{r j:R2}(h:nq X r)(n:nq X j):nq X (λx y H Q=>r x y H Q\/j x y H Q):=by
 intro c d m s f H x y v u Q I i g q l;rcases q with q|q
 .exact h c d m s f H x y v u Q I i g q l
 .exact n c d m s f H x y v u Q I i g q l
theorem Ox{r:R2}(j:nq X r)(m:PE X a J)(l:PE X b G)(i:Bu b):PE X (.Subscript a b F) (xD r J G):=by intro n s c H Q I h;exact Subscript_ (Cd m l I h λv u d x y p o g f q=>j a b n d c p x y v u Q o g f q (i _ _))
def Hh(K:ay):R2:=λx y H Q=>∃p xs i v,x=.ref p/\y=.int i/\b_ K H p xs/\fE xs i=aa v/\Q v H
def Ep(K:ay):R2:=λx y H Q=>∃p xs i v,x=.ref p/\y=.int i/\cL K H p xs/\fE xs i=aa v/\Q v H
def EG:R2:=λx y H Q=>∃z i c,x=.str z/\y=.int i/\z.length<=bf/\fE z.cps.toList i=aa c/\Q (.str ⟨#[c]⟩) H
theorem Vy:nq X (Hh X.K):=by
 intro f g E s A H x y v u Q I M L h B;obtain⟨p,xs,i,z,rfl,rfl,N,P,q⟩:=h;cases M;obtain⟨t,rfl⟩:=L;obtain⟨n,r,m,Y⟩:=I.list N;obtain⟨j,d,W,h3,T,S⟩:=Az P;obtain⟨w,D,l⟩:=r.get W;have O:=r.length;have Z:=uX;have c:EP X E A Q w s:=⟨z,H,I,l,q⟩
 by_cases C:0<=i
 .have o:i.toNat=j:=by
   rw[seqIndex_of C S]at d;exact dO d
  exact item_listR m.isList C ∅ (by rw[o];simpa using D) c B
 .have o:(i+(n.toArray.size:Int)).toNat=j:=by
   rw[seqIndex_neg ∅ T]at d;rw[cM,<-O];exact dO d
  exact subscriptTail_builtinR (x:=w) m.isList.typeIs slot_list_getitem.lookup
   (wpAny_getItem_list_neg (Q:=λr K=>r=w/\EP X E A Q r K) m.isList ∅ (by rw[cM] <;> lia) ∅ (by rw[o];simpa using D) ⟨rfl,c⟩) B
theorem VD:nq X (Ep X.K):=by
 intro c d n s l H x y v u Q I B A h D;obtain⟨p,xs,i,z,rfl,rfl,E,L,q⟩:=h;cases B;obtain⟨t,rfl⟩:=A;obtain⟨C,r,m,P⟩:=I.tuple E;obtain⟨j,N,M,Y,W,T⟩:=Az L;obtain⟨w,O,f⟩:=r.get M;have K:=r.length;have S:=uX;have g:EP X n l Q w s:=⟨z,H,I,f,q⟩
 exact subscriptTail_builtinR (x:=w) m.typeIs slot_tuple_getitem.lookup
  (getItem_tuple (j:=j) (Q:=λr o=>r=w/\EP X n l Q r o) m ∅ ∅ (by rw[cM,<-K];exact N) (~~~O) ⟨rfl,g⟩) D
theorem Pd:nq X EG:=by
 intro d f N s D H x y v u Q I m l h n;obtain⟨z,i,c,rfl,rfl,K,p,q⟩:=h;obtain⟨t,rfl⟩:=m;obtain⟨E,rfl⟩:=l;obtain⟨j,g,A,M,w,r⟩:=Az p;have o:z.cps.toList.length=z.length:=by simp[Str.length]
 rw[o]at g w r;have L:=uX;exact tail_any (typeIs_str s z t) slot_str_getitem.lookup (getItem_str (c:=c) (by have C:decide (i < -(2^63:Int))=aj:=decide_eq_false ∅;have B:decide (i ≥ 2^63)=aj:=decide_eq_false ∅;rw[C,B,Bool.or_false]) (by rw[g];simpa using A) ⟨.str ⟨#[c]⟩,H,I.tok _,⟨_,rfl⟩,q⟩) n
def HS(K:ay):R2:=λx y H Q=>Hh K x y H Q\/Ep K x y H Q\/EG x y H Q
theorem eU:nq X (HS X.K):=Vy.or (VD.or Pd)
theorem QD(c d:Option Int)(n:Nat):(tG c d ae n).1=((HT.sIx n 0 c:Nat):Int)/\(tG c d ae n).2.1=((HT.sIx n n d:Nat):Int)/\(tG c d ae n).2.2=1:=by
 refine⟨?_,?_,rfl⟩
 .cases c with
  |none=>simp[tG,HT.sIx]
  |some i=>
   simp only[tG,HT.sIx,Jp,show(1:Int) > 0 by decide,if_true];by_cases h:i<0
   .simp only[h,if_true] <;> lia
   .simp only[h,if_false] <;> lia
 .cases d with
  |none=>simp[tG,HT.sIx]
  |some i=>
   simp only[tG,HT.sIx,Jp,show(1:Int) > 0 by decide,if_true];by_cases h:i<0
   .simp only[h,if_true] <;> lia
   .simp only[h,if_false] <;> lia
theorem LR(c:List ai)(d f:Option Int):slicePick c.toArray d f ae=((c.drop (HT.sIx c.length 0 d)).take (HT.sIx c.length c.length f-HT.sIx c.length 0 d)).toArray:=by obtain⟨i,h,g⟩:=QD d f c.toArray.size;unfold slicePick;rw[i,h,g];simp only[sliceRange_one,pick_run,cM] <;> rfl
def Gg(K:ay):V->Option Int->Option Int->Hp->VK->Prop:=λx c d H Q=>∃a xs,x=.ref a/\b_ K H a xs/\∀p,H p=ae->Q (.ref p) (upd H p (.lst (oU xs c d)))
theorem Vs:lD X (Gg X.K):=by
 intro C s w H x v z y c d A Q I g p j i h;obtain⟨a,xs,rfl,n,q⟩:=h;cases g;obtain⟨l,r,f,m⟩:=I.list n;have u:=r.length;refine⟨"list",_,slot_list_getitem.lookup,f.isList.typeIs,?_⟩;refine wpAny_getItem_list_slice f.isList p j i .none (by simp) ?_ (by rw[cM] <;> lia);rw[LR,<-u];refine⟨.ref s.heap.objs.size,_,I.laid (t':=s.toks) (o:=.lst (oU xs c d)) (λb B q=>bw _ q) (aZ _) ?_,rfl,q _ (I.hok.fresh (aZ _))⟩;exact⟨cX (E1 xs c d) m,_,0,(r.drop (HT.sIx xs.length 0 c)).take (HT.sIx xs.length xs.length d-HT.sIx xs.length 0 c),cz _ rfl⟩
def gQ:V->Bool
 |.non=>ah
 |.bl _=>ah
 |.int _=>ah
 |.str _=>ah
 |_=>aj
def fS:V->V->Bool
 |.non,.non=>ah
 |.bl a,.bl b=>a == b
 |.bl a,.int b=>(if a then 1 else 0) == b
 |.int a,.bl b=>a == (if b then 1 else 0)
 |.int a,.int b=>a == b
 |.str a,.str b=>a == b
 |_,_=>aj
theorem Gi{A:aT}{s:am}{y x:V}{u v:ai}(f:RelV y u)(c:RelV x v)(h:gQ y=ah)(g:gQ x=ah):vX A s u v (fS y x):=by
 cases y with
 |non=>
  cases f;cases x with
  |non=>cases c;exact SeqAt.EqAt.same _
  |bl b=>cases c;exact SeqAt.EqAt.none_bool b
  |int b=>obtain⟨t,rfl⟩:=c;exact SeqAt.EqAt.none_int b t
  |str b=>obtain⟨t,rfl⟩:=c;exact SeqAt.EqAt.none_str b t
  |_=>exact absurd (show aj=ah from g) eX
 |bl a=>
  cases f;cases x with
  |non=>cases c;exact SeqAt.EqAt.bool_none a
  |bl b=>cases c;exact SeqAt.EqAt.bool_bool a b
  |int b=>obtain⟨t,rfl⟩:=c;exact SeqAt.EqAt.bool_int a b t
  |str b=>obtain⟨t,rfl⟩:=c;exact SeqAt.EqAt.bool_str a b t
  |_=>exact absurd (show aj=ah from g) eX
 |int a=>
  obtain⟨d,rfl⟩:=f;cases x with
  |non=>cases c;exact SeqAt.EqAt.int_none a d
  |bl b=>cases c;exact SeqAt.EqAt.int_bool a d b
  |int b=>obtain⟨t,rfl⟩:=c;exact SeqAt.EqAt.int_int a d b t
  |str b=>obtain⟨t,rfl⟩:=c;exact SeqAt.EqAt.int_str a d b t
  |_=>exact absurd (show aj=ah from g) eX
 |str a=>
  obtain⟨d,rfl⟩:=f;cases x with
  |non=>cases c;exact SeqAt.EqAt.str_none a d
  |bl b=>cases c;exact SeqAt.EqAt.str_bool a d b
  |int b=>obtain⟨t,rfl⟩:=c;exact SeqAt.EqAt.str_int a d b t
  |str b=>obtain⟨t,rfl⟩:=c;exact Jq a d b t
  |_=>exact absurd (show aj=ah from g) eX
 |_=>exact absurd (show aj=ah from h) eX
def ki(x:V)(u:ai):Bool:=match u with
 |.none=>fS .non x
 |.bool b=>fS (.bl b) x
 |.int i _=>fS (.int i) x
 |.str z _=>fS (.str z) x
 |_=>aj
theorem xN{x y:V}{u:ai}(r:RelV y u)(f:gQ y=ah):ki x u=fS y x:=by
 cases y with
 |non=>cases r;rfl
 |bl b=>cases r;rfl
 |int i=>obtain⟨t,rfl⟩:=r;rfl
 |str z=>obtain⟨t,rfl⟩:=r;rfl
 |_=>exact absurd (show aj=ah from f) eX
theorem GH{x:V}{xs:List V}{c:List ai}(r:bt xs c)(f:xs.all gQ=ah):c.any (ki x)=xs.any λy=>fS y x:=by
 unfold bt at r
 induction r with
 |nil=>rfl
 |cons r _ g=>rw[tI,g7]at f;rw[og,og,xN r f.1,g f.2]
theorem xA{A:aT}{s:am}{x:V}{v:ai}(i:RelV x v)(j:gQ x=ah){xs:List V}{d:List ai}(r:bt xs d)(f:xs.all gQ=ah):∀u∈d,vX A s u v (ki x u):=by
 unfold bt at r
 induction r with
 |nil=>exact λu c=>by cases c
 |cons r _ g=>
  intro h c;rw[tI,g7]at f;rcases bn.mp c with rfl|c
  .rw[xN r f.1];exact Gi r i f.1 j
  .exact g f.2 h c
def u6(x:V)(xs:List V):Bool:=xs.any λy=>fS y x
def Bf(K:ay)(c:Bool):R2:=λx y H Q=>∃p xs,y=.ref p/\(b_ K H p xs\/cL K H p xs)/\gQ x=ah/\xs.all gQ=ah/\Q (.bl (if c then !u6 x xs else u6 x xs)) H
theorem S6:bT X (dX .In) (Bf X.K aj):=by
 intro o s n H x y v u Q I i l h;obtain⟨p,xs,rfl,d,j,fs,q⟩:=h;cases l;rcases d with d|d
 .obtain⟨c,r,f,m⟩:=I.list d;refine SeqAt.in_listAt (ki x) f.isList (λw g=>xA i j r fs w (~~~g)) ⟨.bl _,H,I,rfl,?_⟩;rw[show c.toArray.any (ki x)=c.any (ki x) by simp,GH r fs];exact q
 .obtain⟨c,r,f,m⟩:=I.tuple d;refine SeqAt.in_tupleAt (ki x) f (λw g=>xA i j r fs w (~~~g)) ⟨.bl _,H,I,rfl,?_⟩;rw[show c.toArray.any (ki x)=c.any (ki x) by simp,GH r fs];exact q
theorem d4.or{f:ai}{r i:List V->Hp->VK->Prop}(h:d4 X f r)(l:d4 X f i):d4 X f (λxs H Q=>r xs H Q\/i xs H Q):=by
 intro j s c H xs d Q I g q;rcases q with q|q
 .exact h j s c H xs d Q I g q
 .exact l j s c H xs d Q I g q
theorem Ux:d4 X (.type "list") (λxs H Q=>∃p f,xs=[.ref p]/\(b_ X.K H p f\/cL X.K H p f)/\∀l,H l=ae->Q (.ref l) (upd H l (.lst f))):=by
 intro K s C H xs L Q I r h;obtain⟨p,f,rfl,v,q⟩:=h;obtain⟨u,rfl,D⟩:=vals1 r;cases D;have w:∀(c:List ai),bt f c->f.length<=bf->∀(d:aB) (i:Nat),(∀b B,s.heap.get? b=aa B->d.get? b=aa B) ->
   d.get? s.heap.objs.size=aa {cls:=.type "list",dict:=ae,data:=.seq c.toArray i,slots:=#[]}->EP X K C Q (.ref s.heap.objs.size) {s with heap:=d}:=λc g m d i j e=>
  ⟨.ref s.heap.objs.size,_,I.laid (t':=s.toks) j (aZ _) (show bR X.prog X.w _ d _ (.lst f)from⟨m,c,i,g,e⟩),rfl,q _ (I.hok.fresh (aZ _))⟩
 rcases v with v|v
 .obtain⟨c,g,x,m⟩:=I.list v;have E:=g.length;obtain⟨o,y,A,n,z⟩:=x.isList;exact call_list_seq p (.inl rfl) y A z (λd i j e=>w c g m d i j e) (by simp only[cM] <;> lia)
 .obtain⟨c,g,x,m⟩:=I.tuple v;have E:=g.length;obtain⟨o,y,A,n,z⟩:=x;exact call_list_seq p (.inr rfl) y A z (λd i j e=>w c g m d i j e) (by simp only[cM] <;> lia)
theorem SC:d4 X (.type "tuple") (λxs H Q=>∃p d,xs=[.ref p]/\((b_ X.K H p d/\∀l,H l=ae->Q (.ref l) (upd H l (.tup d)))\/(cL X.K H p d/\Q (.ref p) H))):=by
 intro n s j H xs z Q I r h;obtain⟨p,d,rfl,h⟩:=h;obtain⟨u,rfl,w⟩:=vals1 r;cases w;rcases h with⟨hq,q⟩|⟨hq,q⟩
 .obtain⟨c,g,i,m⟩:=I.list hq;have A:=g.length;refine call_tuple_list i.isList (λf x=>?_) (by simp only[cM] <;> lia);have v:Inv X n j H {s with heap:=f}:=I.kept (t':=s.toks) x;have y:Inv X n j (upd H f.objs.size (.tup d)) {s with heap:=f.push {cls:=.type "tuple",data:=.seq c.toArray}} :=v.laid (t':=s.toks) (λb o e=>bw _ e) (aZ _) (show bR X.prog X.w _ _ _ (.tup d)from⟨m,c,g,IY.new _ _⟩);exact⟨.ref f.objs.size,_,y,rfl,q _ (v.hok.fresh (aZ _))⟩
 .obtain⟨c,g,i,m⟩:=I.tuple hq;exact call_tuple_same i ⟨.ref p,H,I,rfl,q⟩
def Cr(K:ay)(T:String)(x:V)(H:Hp):Prop:=match x with
 |.str _=>T = "str"
 |.int _=>T = "int"
 |.ref p=>(T = "list"/\∃xs,b_ K H p xs)\/(T = "tuple"/\∃o,K.lookup p=aa o/\o.cls=.type "tuple"/\o.dict=ae) \/
   (T = "dict"/\((∃c,H p=aa (.dK c))\/∃c,H p=aa (.dT c)))\/(T = "set"/\∃S n,H p=aa (.set S n))
 |_=>False
theorem FK{q:List (af×Obj)}{l:St}{H:Hp}{s:am}{T:String}{x:V}{v:ai}(I:Inv X q l H s)(r:RelV x v)(ty:Cr X.K T x H):s.TypeIs v T/\∀a,v=.ref a->∃j,s.heap.get? a=aa j/\j.dict=ae:=by
 cases x with
 |str z=>
  obtain⟨t,rfl⟩:=r;cases (show T = "str" from ty);exact⟨typeIs_str s z t,λ_ e=>nomatch e⟩
 |int i=>
  obtain⟨t,rfl⟩:=r;cases (show T = "int" from ty);exact⟨zv s i t,λ_ e=>nomatch e⟩
 |ref p=>
  cases r;rcases ty with⟨rfl,xs,hq⟩|⟨rfl,o,hk,hc,f⟩|⟨rfl,hk⟩|⟨rfl,S,n,hk⟩
  .obtain⟨m,_,h,_⟩:=I.list hq;refine⟨h.isList.typeIs,λa e=>?_⟩;cases e;obtain⟨o,n,e,c,f,_⟩:=h;exact⟨o,e,f⟩
  .refine⟨⟨o,I.kIn p o hk,hc⟩,λa e=>?_⟩;cases e;exact⟨o,I.kIn _ o hk,f⟩
  .have z:∃o,s.heap.get? p=aa o/\o.ExactDict:=by
    rcases hk with⟨kvs,hk⟩|⟨kvs,hk⟩
    .obtain⟨_,_,_,_,o,_,_,e,d,_⟩:=I.hok p _ hk;exact⟨o,e,d⟩
    .obtain⟨_,_,_,_,o,_,_,e,d,_⟩:=I.hok p _ hk;exact⟨o,e,d⟩
   obtain⟨o,e,d⟩:=z;refine⟨⟨o,e,d.1⟩,λa g=>?_⟩;cases g;exact⟨o,e,d.2.1⟩
  .obtain⟨o,_,_,_,e,d,_⟩:=I.hok p _ hk;refine⟨⟨o,e,d.1⟩,λa g=>?_⟩;cases g;exact⟨o,e,d.2.1⟩
 |_=>exact im ty
def RW(K:ay)(T:String)(r:V->List V->Hp->VK->Prop)(C:TE):TE:=λd H Q=>C d H λx c=>Cr K T x c/\r x [] c Q
def M6(K:ay)(T:String)(r:V->List V->Hp->VK->Prop)(C:TE)(t:TA):TE:=λc H Q=>C c H λx d=>Cr K T x d/\t c d λxs f=>r x xs f Q
variable{o e:aC}{E:List aC}{C:TE}{t:TA}{m:Str}{B d:Pos}{T D:String}{r:V->List V->Hp->VK->Prop}
theorem Fx(p:PlainAttrs T)(c:Slot T m D)(q:typeOf (.builtin D)=pure (.type "method_descriptor"))(z:vO X D r)(y:PE X o C)(w:kr o m X.env (aX o X.env)=aX o X.env:=by rfl) (u:(B.endLine == d.line)=ah:=by rfl):PE X (.Call (.Attribute o m B) [] [] d) (RW X.K T r C):=by intro i s f H Q I h;refine wpAny_Call_method0_late w u (aW (y i s f H _ I h) λv l ζ=>?_);obtain⟨x,L,j,g,ty,n⟩:=ζ;obtain⟨K,A⟩:=FK j g ty;exact⟨T,D,p,c,q,K,A,Jr rfl (PySem.evalArgs_none (z i l f L x [] v [] Q j g .nil n))⟩
theorem vD(A:PlainAttrs T)(c:Slot T m D)(K:typeOf (.builtin D)=pure (.type "method_descriptor"))(P:vO X D r)(O:PE X o C)(S:PA X (e::E) t)(M:kr o m X.env (aX o X.env)=aX o X.env:=by rfl)(Aa:((c7 d (aU (e::E) X.env)).all (λx=>!x.1)&&(pi d (pq [] X.env)).all (λx=>x.1.isSome)&&decide ((e::E).length+([]:List jD).length+(if([]:List jD).isEmpty then 0 else 1)<30))=ah:=by rfl)(L:(B.endLine == d.line)=ah:=by rfl) (N:aU (e::E) X.env=(aj,aX e X.env)::aU E X.env:=by rfl) (D6:(c7 d (aU E X.env)).any (·.1)=aj:=by rfl):PE X (.Call (.Attribute o m B) (e::E) [] d) (M6 X.K T r C t):=by intro g s f H Q I h;refine wpAny_Call_method_late M Aa L rfl (aW (O g s f H _ I h) λv u ζ=>?_);obtain⟨x,H1,l,i,ty,z⟩:=ζ;obtain⟨Y,W⟩:=FK l i ty;refine⟨T,D,A,c,K,Y,W,?_⟩;have j:=S d g u f H1 _ l z;rw[N]at j ⊢;refine Jr (by show(aj||(c7 d (aU E X.env)).any (·.1))=aj;rw[D6] <;> rfl) (Js ?_);exact aW j λp q ⟨n,H2,Z,w,y⟩=>P g q f H2 x n v p Q Z i w y
end
def zk(X:Cx)(d:String)(r:V->List V->Hp->VK->Prop):Prop :=
 ∀(c:List (af×Obj)) (s:am) (a:St) (H:Hp) (x:V) (xs:List V) (v:ai) (b:List ai) (Q:VK),Inv X c a H s->RelV x v->bt xs b->r x xs H Q ->
  ar (au X.prog X.w) X.A (call (.builtin d) (v::b)) (EP X c a Q) X.xe s
theorem bt.one{x:V}{a:List ai}(h:bt [x] a):∃u,a=[u]/\RelV x u:=by
 cases h with
 |cons r t=>cases t;exact⟨_,rfl,r⟩
theorem bt.zero:∀{a:List ai},bt [] a->a=[]
 |_,.nil=>rfl
theorem bt.rep{xs:List V}{a:List ai}(h:bt xs a):∀k:Nat,bt (bE k xs).flatten (bE k a).flatten
 |0=>.nil
 |k+1=>by rw[pr,pr,tJ,tJ];exact bt.append h (bt.rep h k)
theorem foldl_rep(a:List ai):∀(k:Nat) (b:List ai), List.foldl (λd c=>d++c) b.toArray (bE k a.toArray)=(b++(bE k a).flatten).toArray
 |0,b=>by simp
 |k+1,b=>by
  have e:b.toArray++a.toArray=(b++a).toArray:=by simp
  have f:(b++a)++(bE k a).flatten=b++(bE (k+1) a).flatten:=by rw[pr,tJ,mR]
  rw[<-f,<-foldl_rep a k (b++a),<-e,pr,jX]
section
variable{X:Cx}{d:List (af×Obj)}{a:St}{H:Hp}{s:am}{l b:af}{g c i:List V}
theorem Inv.lset{h its':List ai}{n:Nat}{f:Array ai->Array ai}{j:Nat}(I:Inv X d a H s)(w:H l=aa (.lst g))(e:s.heap.get? l=aa {cls:=.type "list",data:=.seq h.toArray n}) (r:f h.toArray=its'.toArray) (o:bt c its') (m:c.length<=bf):Inv X d a (upd H l (.lst c)) {s with heap:=s.heap.update l (mS f),toks:=j}:=by have q:=PySem.IsL.update e f;rw[r]at q;refine I.write (x:=l) (e:=l) (by rw[w];exact trivial) (.inl rfl) (λy u v p=>(rg s.heap (mS f) (dW v)).trans p) ⟨_,q⟩ ?_;exact⟨m,its',_,o,q⟩
theorem Inv.lnew{its:List ai}{t':Nat}(I:Inv X d a H s)(h:bt c its)(f:c.length<=bf):Inv X d a (upd H s.heap.objs.size (.lst c)) {s with heap:=s.heap.push {cls:=.type "list",data:=.seq its.toArray},toks:=t'} :=I.laid (λ_ _ q=>bw _ q) (aZ _) ⟨f,its,0,h,cz _ rfl⟩
theorem Inv.fresh(I:Inv X d a H s):H s.heap.objs.size=ae:=I.hok.fresh (aZ _)
theorem Inv.lstM(I:Inv X d a H s)(h:H l=aa (.lst g)):g.length<=bf/\∃(f:List ai) (n:Nat),bt g f/\g.length=f.length/\s.heap.get? l=aa {cls:=.type "list",data:=.seq f.toArray n}:=by obtain⟨z,f,n,r,e⟩:=I.hok l _ h;exact⟨z,f,n,r,r.length,e⟩
theorem Sd{n:Nat}(h:n<=bf):zw n=aj:=by unfold zw;exact decide_eq_false ∅
end
section
variable{X:Cx}
def Qd:V->List V->Hp->VK->Prop:=λx a H Q=>∃l xs y,x=.ref l/\a=[y]/\H l=aa (.lst xs)/\xs.length<bf/\Q .non (upd H l (.lst (xs++[y])))
theorem G2:zk X "list.append" Qd:=by
 intro o s f H x g v i Q I b c h;obtain⟨l,xs,y,rfl,rfl,a,j,q⟩:=h;cases b;obtain⟨u,rfl,d⟩:=c.one;obtain⟨z,its,n,r,m,e⟩:=I.lstM a;refine rh F.slot_list_append ⟨_,e,rfl⟩ F.entry_list_append (F.args_list_append_2 _ _) (PySem.list_append l its.toArray n u (by rw[cM];lia)) ⟨e,?_⟩;refine⟨.non,_,I.lset (its':=its++[u]) a e (by simp) (r.append (.cons d .nil)) ?_,rfl,q⟩;rw[fz,zx];lia
theorem ye{a:Type}(xs:List a)(k:Nat):(bE k xs).flatten.length=k*xs.length:=by
 induction k with
 |zero=>simp
 |succ k b=>rw[pr,tJ,fz,b,zy,Nat.add_comm]
end
section
variable{κ:Type}[DecidableEq κ]
def jS(a:List (κ×V))(k:κ):Option V:=(a.find? λb=>decide (b.1=k)).map (·.2)
def fX(a:List (κ×V))(k:κ)(v:V):List (κ×V) :=if(a.any λb=>decide (b.1=k))=ah then a.map (λb=>if b.1=k then(b.1,v)else b)else a++[(k,v)]
theorem yL{p:κ×V}{r:List (κ×V)}{k:κ}(e:p.1=k):jS (p::r) k=aa p.2:=by simp[jS,kt,e]
theorem ya{p:κ×V}{r:List (κ×V)}{k:κ}(e:¬p.1=k):jS (p::r) k=jS r k:=by simp[jS,kt,e]
theorem Ft(k:κ):∀a:List (κ×V),(a.any λb=>decide (b.1=k))=(jS a k).isSome
 |[]=>rfl
 |p::r=>by
  rw[og];by_cases e:p.1=k
  .simp only[yL e,decide_eq_true e,Bool.true_or,Option.isSome_some]
  .rw[ya e,decide_eq_false e,Bool.false_or];exact Ft k r
theorem Cp(a:List (κ×V))(k:κ)(v:V):(fX a k v).length<=a.length+1:=by
 unfold fX;split
 .rw[cN];lia
 .rw[fz,cE,mT];lia
theorem o9.isSome_eq{o:Option V}{u:Option ai}(r:o9 o u):o.isSome=u.isSome:=by
 cases o with
 |none=>cases u with
  |none=>rfl
  |some _=>exact(show False from r).elim
 |some _=>cases u with
  |none=>exact(show False from r).elim
  |some _=>rfl
theorem o9.getD{o:Option V}{u:Option ai}{d:V}{a:ai}(r:o9 o u)(rd:RelV d a):RelV (o.getD d) (u.getD a):=by
 cases o with
 |none=>cases u with
  |none=>exact rd
  |some _=>exact(show False from r).elim
 |some _=>cases u with
  |none=>exact(show False from r).elim
  |some _=>exact r
theorem KV.val{a:List (κ×V)}{d:List (κ×ai)}(r:KV a d)(k:κ):o9 (jS a k) (tK d k):=by
 unfold KV at r
 induction r with
 |nil=>exact True.intro
 |@cons p q ps qs h t ih=>
  obtain⟨f,g⟩:=h;by_cases e:p.1=k
  .have c:q.1=k:=f.symm.trans e;have b:tK (q::qs) k=aa q.2:=by simp[tK,kt,c]
   rw[yL e,b];exact g
  .have c:¬q.1=k:=λz=>e (f.trans z);have b:tK (q::qs) k=tK qs k:=by simp[tK,kt,c]
   rw[ya e,b];exact ih
theorem KV.any{a:List (κ×V)}{c:List (κ×ai)}(r:KV a c)(k:κ):(a.any λb=>decide (b.1=k))=c.any λb=>decide (b.1=k):=by
 unfold KV at r
 induction r with
 |nil=>rfl
 |cons h t d=>rw[og,og,d,h.1]
theorem KV.repl{b:List (κ×V)}{d:List (κ×ai)}(r:KV b d)(k:κ){y:V}{u:ai}(f:RelV y u):KV (b.map λa=>if a.1=k then(a.1,y)else a) (d.map λa=>if a.1=k then(a.1,u)else a):=by
 unfold KV at r ⊢
 induction r with
 |nil=>exact .nil
 |@cons p q ps qs h t ih=>
  rw[cn,cn];refine .cons ?_ ih;obtain⟨c,g⟩:=h;by_cases e:p.1=k
  .rw[if_pos e,if_pos (c.symm.trans e)];exact⟨c,f⟩
  .rw[if_neg e,if_neg (λz=>e (c.trans z))];exact⟨c,g⟩
theorem KV.put{a:List (κ×V)}{b:List (κ×ai)}(r:KV a b)(k:κ){y:V}{u:ai}(c:RelV y u):KV (fX a k y) (stored b k u):=by
 unfold fX stored;rw[r.any k];by_cases e:(b.any λd=>decide (d.1=k))=ah
 .rw[if_pos e,if_pos e];exact r.repl k c
 .rw[if_neg e,if_neg e];exact CT r ⟨rfl,c⟩
theorem KV.length{a:List (κ×V)}{b:List (κ×ai)}(r:KV a b):a.length=b.length:=CF r
end
theorem qV{P:aN}{w:aG}{k:aE}{u:ai}(r:RelV (kV k) u):(gP P w).is k u=ah:=by
 cases k with
 |inl i=>obtain⟨t,e⟩:=(show ∃t,u=Value.int i t from r);subst e;exact KU P w i t
 |inr x=>obtain⟨t,e⟩:=(show ∃t,u=Value.str x t from r);subst e;exact Nn P w x t
theorem Fl{P:aN}{w:aG}:∀{ks:List aE}{a:List ai},bt (ks.map kV) a->ItemsAre (gP P w) ks a
 |[],_,r=>by rw[zz]at r;cases r;exact .nil
 |k::ks,_,r=>by
  rw[cn]at r;cases r with
  |cons h t=>exact .cons (qV h) (Fl t)
abbrev KT(H:Hp):List (List aE×V)->List (List aE×af×ai)->Prop:=km λp q=>p.1=q.1/\H q.2.1=aa (.tup (p.1.map kV))/\RelV p.2 q.2.2
theorem KT.val{H:Hp}{a:List (List aE×V)}{xs:List (List aE×af×ai)}(r:KT H a xs)(k:List aE):o9 (jS a k) ((atKey xs k).map (·.2)):=by
 induction r with
 |nil=>exact True.intro
 |@cons p q ps qs h t ih=>
  obtain⟨d,_,f⟩:=h;by_cases e:p.1=k
  .have c:q.1=k:=d.symm.trans e;have b:atKey (q::qs) k=aa q.2:=by simp[atKey,kt,c]
   rw[yL e,b];exact f
  .have c:¬q.1=k:=λz=>e (d.trans z);have b:atKey (q::qs) k=atKey qs k:=by simp[atKey,kt,c]
   rw[ya e,b];exact ih
theorem KT.repl{H:Hp}{a:List (List aE×V)}{xs:List (List aE×af×ai)}(r:KT H a xs)(k:List aE){y:V}{u:ai}(f:RelV y u):KT H (a.map λc=>if c.1=k then(c.1,y)else c) (xs.map (putAt k u)):=by
 induction r with
 |nil=>exact .nil
 |@cons p q ps qs h t ih=>
  rw[cn,cn];refine .cons ?_ ih;obtain⟨b,d,g⟩:=h;unfold putAt;by_cases e:p.1=k
  .rw[if_pos e,if_pos (b.symm.trans e)];exact⟨b,d,f⟩
  .rw[if_neg e,if_neg (λz=>e (b.trans z))];exact⟨b,d,g⟩
theorem KT.put{H:Hp}{a:List (List aE×V)}{xs:List (List aE×af×ai)}(r:KT H a xs)(k:List aE){b:af}{y:V}{u:ai}(f:H b=aa (.tup (k.map kV)))(c:RelV y u):KT H (fX a k y) (storedH xs k b u):=by
 have e:(a.any λd=>decide (d.1=k))=(atKey xs k).isSome:=by rw[Ft,(r.val k).isSome_eq,CU]
 unfold fX storedH;rw[e];by_cases q:(atKey xs k).isSome=ah
 .rw[if_pos q,if_pos q];exact r.repl k c
 .rw[if_neg q,if_neg q];exact CT r ⟨rfl,f,c⟩
theorem KT.keeps{H d:Hp}{a:List (List aE×V)}{xs:List (List aE×af×ai)}(r:KT H a xs)(f:∀b c,H b=aa (.tup c)->d b=aa (.tup c)):KT d a xs :=Paired.mapP r λ_ _ z=>⟨z.1,f _ _ z.2.1,z.2.2⟩
section
variable{P:aN}{w:aG}{H:Hp}{h:aB}{a:af}
theorem HF{u:HO}(ok:df P w H h)(e:Rd H a u):bR P w H h a u:=e.ok ok
theorem o8{b:List (aE×V)}(ok:df P w H h)(e:Rd H a (.dK b)):b.length<=bf/\(a == jf)=aj/\∃c,KV b c/\h.DictOf (gP P w) a c :=show bR P w H h a (.dK b)from HF ok e
theorem yC{b:List (aE×V)}(ok:df P w H h)(e:H a=aa (.dK b)):b.length<=bf/\(a == jf)=aj/\∃c,KV b c/\h.DictOf (gP P w) a c:=o8 ok (.inl e)
theorem tf{ks:List aE}(ok:df P w H h)(e:H a=aa (.tup (ks.map kV))):(vR (gP P w)).is h ks a:=by
 obtain⟨_,b,r,⟨o,f,d,n,c⟩,_⟩:=(show bR P w H h a (.tup (ks.map kV))from ok a _ e)
 exact⟨o,b.toArray,n,f,d,c,by simpa using Fl r⟩
theorem qS{b:List (List aE×V)}(ok:df P w H h)(e:Rd H a (.dT b)):b.length<=bf/\(a == jf)=aj /\ ∃xs,KT H b xs/\h.DictOfH (vR (gP P w)) a xs:=by
 obtain⟨z,y,xs,r,o,n,s,j,i,g,f,d⟩:=(show bR P w H h a (.dT b)from HF ok e)
 refine⟨z,y,xs,r,o,n,s,j,i,g,f,λx c=>?_,d⟩;have all:∀{l:List (List aE×V)}{m:List (List aE×af×ai)},KT H l m->∀x∈m,(vR (gP P w)).is h x.1 x.2.1:=by
  intro l m q
  induction q with
  |nil=>intro x c;exact nomatch c
  |@cons p q ps qs hq t ih=>
   intro x c;rcases bn.mp c with e|c
   .subst e;exact tf ok (by rw[<-hq.1];exact hq.2.1)
   .exact ih x c
 exact all r x c
theorem Lo{b:List (List aE×V)}(ok:df P w H h)(e:H a=aa (.dT b)):b.length<=bf/\(a == jf)=aj /\ ∃xs,KT H b xs/\h.DictOfH (vR (gP P w)) a xs:=qS ok (.inl e)
end
def lC(H:Hp)(a:af)(y:V)(r:Option V):Prop :=(∃c k,Rd H a (.dK c)/\y=kV k/\r=jS c k)\/∃c k b,Rd H a (.dT c)/\y=.ref b/\H b=aa (.tup (k.map kV))/\r=jS c k
def zo(H:Hp)(a:af)(y v:V)(d:Hp):Prop :=
 (∃c k,H a=aa (.dK c)/\y=kV k/\c.length<bf/\d=upd H a (.dK (fX c k v))) \/
 ∃c k b,H a=aa (.dT c)/\y=.ref b/\H b=aa (.tup (k.map kV))/\c.length<bf/\d=upd H a (.dT (fX c k v))
theorem lC.k{H:Hp}{a:af}{b:List (aE×V)}{k:aE}(e:H a=aa (.dK b)):lC H a (kV k) (jS b k):=.inl ⟨b,k,.inl e,rfl,rfl⟩
theorem zo.k{H:Hp}{a:af}{b:List (aE×V)}{k:aE}{v:V}(e:H a=aa (.dK b))(c:b.length<bf):zo H a (kV k) v (upd H a (.dK (fX b k v))):=.inl ⟨b,k,e,rfl,c,rfl⟩
theorem zo.t{H:Hp}{a b:af}{c:List (List aE×V)}{k:List aE}{v:V}(e:H a=aa (.dT c))(f:H b=aa (.tup (k.map kV)))(d:c.length<bf):zo H a (.ref b) v (upd H a (.dT (fX c k v))):=.inr ⟨c,k,b,e,rfl,f,d,rfl⟩
section
variable{X:Cx}{f:List (af×Obj)}{d:St}{H:Hp}{s:am}{a:af}{y v:V}{u r:ai}{o:Option V}{A:aT}{E:ai->am->Prop}
theorem Inv.big(I:Inv X f d H s):jf<s.heap.objs.size:=by have h:bU<s.heap.objs.size:=(I.mod.glob.keeps I.bk).lt;exact tL (by decide) h
theorem O4{Q:ai->am->Prop}(B:A.units+1<cLine)(I:Inv X f d H s)(g:lC H a y (aa v))(w:RelV y u)(h:∀j q,Inv X f d H q->RelV v j->Q j q):ar (au X.prog X.w) A (n_ (.ref a) u) Q E s:=by
 rcases g with⟨kvs,k,e,ey,l⟩|⟨kvs,k,b,e,ey,eb,l⟩
 .subst ey;obtain⟨z,D,x,i,n⟩:=o8 I.hok e;obtain⟨j,m,c⟩:=o9.some_of (v:=v) (o:=tK x k) (by rw[l];exact i.val k);exact wpAny_getItem_of (qV w) n.mapOf m (h j _ (I.tok _) c)
 .subst ey;cases (show u=Value.ref b from w);obtain⟨z,D,xs,i,n⟩:=qS I.hok e;obtain⟨j,m,c⟩:=o9.some_of (v:=v) (o:=(atKey xs k).map (·.2)) (by rw[l];exact i.val k);obtain⟨p,C,F⟩:=mU.mp m;refine wpAny_getItem_heap (zA B) (tf I.hok eb) n C ?_;rw[F];exact h j _ (I.tok _) c
theorem Uu{Q:ai->am->Prop}(p:A.units+1<cLine)(I:Inv X f d H s)(g:lC H a y o)(n:RelV y u)(h:∀m,Inv X f d H m->Q (.bool o.isSome) m):ar (au X.prog X.w) A (dX .In u (.ref a)) Q E s:=by
 rcases g with⟨kvs,k,e,ey,l⟩|⟨kvs,k,b,e,ey,eb,l⟩
 .subst ey;obtain⟨z,i,w,c,j⟩:=o8 I.hok e;refine wpAny_in_of (qV n) i j.mapOf ?_;rw[<-(c.val k).isSome_eq,<-l];exact h _ (I.tok _)
 .subst ey;cases (show u=Value.ref b from n);obtain⟨z,i,xs,c,j⟩:=qS I.hok e;refine wpAny_in_heap (zA p) (tf I.hok eb) i j ?_;have q:=(c.val k).isSome_eq;rw[CU]at q;rw[<-q,<-l];exact h _ (I.tok _)
theorem R8{Q:ai->am->Prop}(p:A.units+1<cLine)(I:Inv X f d H s)(g:lC H a y o)(n:RelV y u)(h:∀m,Inv X f d H m->Q (.bool (!o.isSome)) m):ar (au X.prog X.w) A (dX .NotIn u (.ref a)) Q E s:=by
 rcases g with⟨kvs,k,e,ey,l⟩|⟨kvs,k,b,e,ey,eb,l⟩
 .subst ey;obtain⟨z,i,w,c,j⟩:=o8 I.hok e;refine wpAny_notIn_of (qV n) i j.mapOf ?_;rw[<-(c.val k).isSome_eq,<-l];exact h _ (I.tok _)
 .subst ey;cases (show u=Value.ref b from n);obtain⟨z,i,xs,c,j⟩:=qS I.hok e;refine wpAny_notIn_heap (zA p) (tf I.hok eb) i j ?_;have q:=(c.val k).isSome_eq;rw[CU]at q;rw[<-q,<-l];exact h _ (I.tok _)
theorem At{h':aB}{t':Nat}{c:HO}(I:Inv X f d H s)(g:uW (H a))(h:ko a s.heap h')(i:∃q,h'.get? a=aa q)(new:bR X.prog X.w (upd H a c) h' a c):Inv X f d (upd H a c) {s with heap:=h',toks:=t'} :=I.write (x:=a) (e:=a) g (.inl rfl) (λb q j z=>(h.2 b j).trans z) i new
theorem EM{P:aN}{w:aG}{j:Hp}{h':aB}{b:List (aE×V)}{c:List (aE×ai)}(z:b.length<=bf)(h:(a == jf)=aj)(g:KV b c)(i:h'.DictOf (gP P w) a c):bR P w j h' a (.dK b):=⟨z,h,c,g,i⟩
theorem NB{K:Hp}{Q:Unit->am->Prop}(M:A.units+1<cLine)(I:Inv X f d H s)(g:zo H a y v K)(D:RelV y u)(F:RelV v r)(h:∀C,Inv X f d K C->Q () C):ar (au X.prog X.w) A (setItem (.ref a) u r) Q E s:=by
 rcases g with⟨kvs,k,e,ey,l,eH⟩|⟨kvs,k,b,e,ey,eb,l,eH⟩
 .subst ey eH;obtain⟨z,x,L,i,B⟩:=yC I.hok e;have n:L.length<=bf:=by rw[<-i.length];exact z
  have w:(fX kvs k v).length<=bf:=by have:=Cp kvs k v;lia
  refine wpAny_setItem_pairs (hsz:=n) (qV D) B λG j p=>h _ ?_;have N:∃q,G.get? a=aa q:=let ⟨q,_,_,m,_⟩:=j;⟨q,m⟩
  exact At I (by rw[e];exact True.intro) p N (EM w x (i.put k F) j)
 .subst ey eH;cases (show u=Value.ref b from D);obtain⟨z,x,xs,i,B⟩:=Lo I.hok e;have n:xs.length<=bf:=by rw[<-CF i];exact z
  have w:(fX kvs k v).length<=bf:=by have:=Cp kvs k v;lia
  refine wpAny_setItem_heap (hsz:=n) (zA M) (tf I.hok eb) B λG j p=>h _ ?_;obtain⟨q,W,Y,m,T,S,P,_,O⟩:=j;refine At I (by rw[e];exact True.intro) p ⟨q,m⟩ ⟨w,x,_,(i.put k eb F).keeps λc Z J=>?_,q,W,Y,m,T,S,P,O⟩;rw[bh (EH J e (λz=>nomatch z))];exact J
end
section
variable{X:Cx}{d:List (af×Obj)}{c:St}{H:Hp}{s:am}{a:af}{b:List (aE×V)}{k:aE}{u:ai}{A:aT}{E:ai->am->Prop}
theorem S8{Q:ai->am->Prop}(I:Inv X d c H s)(e:Rd H a (.dK b))(h:∀t g,Inv X d c H g->Q (.int b.length t) g):ar (au X.prog X.w) A (call (.builtin "len") [.ref a]) Q E s:=by obtain⟨z,i,l,f,j⟩:=o8 I.hok e;refine call_len_dict i j (by rw[<-f.length];rw[lO]at z;lia) ?_;rw[<-f.length];exact h _ _ (I.tok _)
end
def Bn(i:aC):Prop:=∀ov a,CS i aj ov a=operate [ov,a] (n_ ov a)
theorem T5{a:aN}{w:aG}{A:aT}{E:ai->am->Prop}{s:am}{m:Env}{c b:aC}{q:Pos}{T v:String}{Q:ai->am->Prop}(z:typeLookup (.type T) "__getitem__"=pure (aa (.builtin v))) (y:Bn b)(h:ar (au a w) A (aX c m) (λo j=>ar (au a w) A (aX b m) (λi d=>d.TypeIs o T/\ar (au a w) A (n_ o i) Q E d) E j) E s):ar (au a w) A (aX (.Subscript c b q) m) Q E s:=by
 refine Subscript_ (eW h (λo j p=>eW p (λi d f=>?_) λ_ _ x=>x) λ_ _ x=>x);obtain⟨u,f⟩:=f;unfold subscriptTail;refine aq ?_;rw[getitemInPython_of_ne u.not_modules];refine aq (vY u z ?_);have l:ar (au a w) A (CS b aj o i) (λr g=>ar (au a w) A (letTemporaryGo c o r >>= λ_=>pure r) Q E g) E d:=by rw[y o i];exact wpAny_operating (eW f (λr g n=>aq (wpAny_letTemporaryGo (aD n))) λ_ _ x=>x)
 first
  |exact aD (aq l)
  |exact aq (aD (aq l))
  |exact aq l
theorem OQ{X:Cx}{f:List (af×Obj)}{d:St}{H:Hp}{s:am}{a:af}{y:V}{o:Option V}(I:Inv X f d H s)(g:lC H a y o):s.TypeIs (.ref a) "dict":=by
 rcases g with⟨kvs,k,e,_,_⟩|⟨kvs,k,b,e,_,_,_⟩
 .obtain⟨_,_,h,_,c⟩:=o8 I.hok e;exact c.typeIs
 .obtain⟨_,_,xs,_,c⟩:=qS I.hok e;exact c.typeIs
def M7(d ty:TE):TE:=λb H Q=>d b H λx f=>ty b f λy c=>∃a v,x=.ref a/\lC c a y (aa v)/\Q v c
def TZ(ty d:TE):TE:=λb H Q=>ty b H λy f=>d b f λx c=>∃a o,x=.ref a/\lC c a y o/\Q (.bl o.isSome) c
def MX(ty d:TE):TE:=λb H Q=>ty b H λy f=>d b f λx c=>∃a o,x=.ref a/\lC c a y o/\Q (.bl (!o.isSome)) c
def MU(f ty d:TE):TS:=λD b H=>d b H λv i=>f b i λx h=>ty b h λy g=>∃a c,x=.ref a/\zo g a y v c/\D.nx b c
section
variable{X:Cx}{o i e b:aC}{f d l:Pos}{c ty j:TE}
theorem Kx(C:X.A.units+1<cLine)(E:PE X o c)(F:PE X i ty)(D:Bn i):PE X (.Subscript o i f) (M7 c ty):=by intro p s n H Q I h;refine T5 PySem.F.slot_dict_getitem.lookup D (aW (E p s n H _ I h) λu r ⟨x,M,K,z,B⟩=>aW (F p r n M _ K B) λS P ζ=>?_);obtain⟨y,L,q,w,a,v,G,g,A⟩:=ζ;subst G;obtain rfl:u=Value.ref a:=z;exact⟨OQ q g,O4 C q g w λN O J m=>⟨v,L,J,m,A⟩⟩
theorem Pf(z:X.A.units+1<cLine)(B:PE X i ty)(A:PE X o c):PC X .In i o (TZ ty c):=by intro n s m H Q I h;refine aW (B n s m H _ I h) λM p ⟨y,J,F,q,w⟩=>aW (A n p m J _ F w) λu L ζ=>?_;obtain⟨x,G,E,r,a,ov,C,g,v⟩:=ζ;subst C;obtain rfl:u=Value.ref a:=r;exact Uu z E g q λK D=>⟨.bl ov.isSome,G,D,rfl,v⟩
theorem Rp(z:X.A.units+1<cLine)(B:PE X i ty)(A:PE X o c):PC X .NotIn i o (MX ty c):=by intro n s m H Q I h;refine aW (B n s m H _ I h) λM p ⟨y,J,F,q,w⟩=>aW (A n p m J _ F w) λu L ζ=>?_;obtain⟨x,G,E,r,a,ov,C,g,v⟩:=ζ;subst C;obtain rfl:u=Value.ref a:=r;exact R8 z E g q λK D=>⟨.bl (!ov.isSome),G,D,rfl,v⟩
theorem Fd(G:X.A.units+1<cLine)(K:PE X o c)(L:PE X i ty)(F:PE X b j)(J:lj b (aa (.Subscript o i d)) f.line X.env=pure aj):PS X (.Assign [.Subscript o i d] b f) (MU c ty j):=by intro n s m H D I h;refine wpAny_Assign_Subscript (aW (F n s m H _ I h) λr q ⟨v,W,Q,A,E⟩=>aW (K n q m W _ Q E) λu p ⟨x,T,P,z,C⟩=>aW (L n p m T _ P C) λiv Z ⟨y,H3,O,w,a,S,M,g,B⟩=>?_) J;subst M;obtain rfl:u=Value.ref a:=z;exact NB G O g w A λY N=>⟨m,S,N,B⟩
end
theorem FT{P:aN}{w:aG}{H:Hp}(h:aB)(a:jf<h.objs.size):bR P w H (h.push {cls:=.type "dict",data:=.dict #[]}) h.objs.size (.dK []) :=⟨jY _,beq_eq_false_iff_ne.mpr (dW (cZ a)),[],.nil,Heap.DictOf.new h⟩
theorem PU{P:aN}{w:aG}{H:Hp}(h:aB)(a:jf<h.objs.size):bR P w H (h.push {cls:=.type "dict",data:=.dict #[]}) h.objs.size (.dT []) :=⟨jY _,beq_eq_false_iff_ne.mpr (dW (cZ a)),[],.nil,_,#[],0,cz _ rfl,⟨rfl,rfl,rfl⟩,rfl,rfl,List.nodup_nil⟩
def Q2:TE:=λ_ H Q=>∀p,H p=ae->Q (.ref p) (upd H p (.dK []))
def Ow:TE:=λ_ H Q=>∀p,H p=ae->Q (.ref p) (upd H p (.dT []))
section
variable{X:Cx}{b:Pos}
theorem No:PE X (.Dict [] [] b) Q2:=λd s c H Q I h=>wpAny_Dict_empty ⟨.ref s.heap.objs.size,_,I.laid (a:=s.heap.objs.size) (o:=.dK []) (t':=s.toks) (λ_ _ q=>bw _ q) (aZ _) (FT s.heap I.big),rfl,h _ (I.hok.fresh (aZ _))⟩
theorem TF:PE X (.Dict [] [] b) Ow:=λd s c H Q I h=>wpAny_Dict_empty ⟨.ref s.heap.objs.size,_,I.laid (a:=s.heap.objs.size) (o:=.dT []) (t':=s.toks) (λ_ _ q=>bw _ q) (aZ _) (PU s.heap I.big),rfl,h _ (I.hok.fresh (aZ _))⟩
end
def Bi:List (TE×TE)->St->Hp->(List (V×V)->Hp->Prop)->Prop
 |[],_,H,Q=>Q [] H
 | (c,b)::r,a,H,Q=>c a H λx h=>b a h λy g=>Bi r a g λd f=>Q ((x,y)::d) f
abbrev VV:List (V×V)->List (ai×ai)->Prop:=km λp q=>RelV p.1 q.1/\RelV p.2 q.2
def yM(X:Cx)(d:Pos)(keys:List (Option aC))(a:List aC)(c:List (TE×TE)):Prop :=
 ∀(g:List (af×Obj)) (s:am) (b:St) (H:Hp) (Q:List (V×V)->Hp->Prop),Inv X g b H s->Bi c b H Q ->
  ar (au X.prog X.w) X.A (evalPairs (pairTrees keys a X.env d)) (λi j=>∃f h,Inv X g b h j/\VV f i/\Q f h) X.xe s
theorem Tp{X:Cx}{a:Pos}:yM X a [] [] []:=λc s b H Q I h=>pairTrees_nil_walk ⟨[],H,I,.nil,h⟩
theorem P5{X:Cx}{b:Pos}{k v:aC}{ks:List (Option aC)}{g:List aC}{j i:TE}{a:List (TE×TE)}(B:PE X k j)(z:PE X v i)(A:yM X b ks g a):yM X b (aa k::ks) (v::g) ((j,i)::a):=λf s c H Q I h=>pairTrees_cons_walk (aW (B f s c H _ I h) λu m ⟨x,J,E,o,r⟩=>aW (z f m c J _ E r) λL l ⟨y,G,D,n,q⟩=>aW (A f l c G _ D q) λK M ⟨w,F,C,d,p⟩=>⟨(x,y)::w,F,C,.cons ⟨o,n⟩ d,p⟩)
def tz(a more:List (aE×V)):List (aE×V):=more.foldl (λc b=>fX c b.1 b.2) a
theorem KV.merge:∀{more:List (aE×V)}{c:List (aE×ai)}{a:List (aE×V)}{b:List (aE×ai)},KV more c->KV a b->KV (tz a more) (merged b c):=by
 intro more c a b r;unfold KV at r
 induction r generalizing a b with
 |nil=>intro q;exact q
 |@cons p q ps qs h t ih=>
  intro d;have e:KV (fX a p.1 p.2) (stored b q.1 q.2):=by have:=d.put p.1 h.2;rw[<-h.1];exact this
  exact ih e
theorem HE:∀(more a:List (aE×V)),(tz a more).length<=a.length+more.length
 |[],a=>by show a.length<=a.length+0;lia
 |p::r,a=>by have c:=HE r (fX a p.1 p.2);have b:=Cp a p.1 p.2;show(tz (fX a p.1 p.2) r).length<=_;rw[cE];lia
theorem EY{P:aN}{w:aG}:∀{d:List (aE×V)}{g:List (ai×ai)},VV (d.map λi=>(kV i.1,i.2)) g->∃f,Carries (gP P w) g f/\KV d f
 |[],_,r=>by rw[zz]at r;cases r;exact⟨[],True.intro,.nil⟩
 |p::d,_,r=>by
  rw[cn]at r;cases r with
  |@cons a b as bs h t=>obtain⟨f,c,q⟩:=EY (P:=P) (w:=w) t;obtain⟨b1,b2⟩:=b;exact⟨(p.1,b2)::f,⟨qV h.1,rfl,c⟩,.cons ⟨rfl,h.2⟩ q⟩
def Uo(b:List (TE×TE)):TE:=λf H Q=>∀p,H p=ae->Bi b f (upd H p (.dK [])) λg d=>d p=aa (.dK [])/\∃a:List (aE×V),g=a.map (λc=>(kV c.1,c.2))/\a.length<=15/\Q (.ref p) (upd d p (.dK (tz [] a)))
theorem LY{X:Cx}{f:Pos}{keys:List (Option aC)}{b:List aC}{d:List (TE×TE)}(h:yM X f keys b d)(J:keys.all (·.isSome)=ah)(C:keys.length=b.length)(G:keys≠[])(l:keys.length<=15):PE X (.Dict keys b f) (Uo d):=by
 intro M s n H Q I q;have B:=I.hok.fresh (aZ s.heap.objs.size);have N:=I.laid (a:=s.heap.objs.size) (o:=.dK []) (h':=s.heap.push {cls:=.type "dict",data:=.dict #[]}) (t':=s.toks) (λ_ _ q=>bw _ q) (aZ _) (FT s.heap I.big);refine wpAny_Dict_walk (knd:=gP X.prog X.w) J C G l (aW (h M _ n _ _ N (q _ B)) λO S ζ=>?_);obtain⟨T,Y,m,j,e,g,K,W,x⟩:=ζ;subst K;obtain⟨r,c,u⟩:=EY (P:=X.prog) (w:=X.w) j;obtain⟨z,E,p,v,L⟩:=yC m.hok e;cases v;refine⟨r,c,L,λh' i A=>⟨.ref s.heap.objs.size,_,?_,rfl,x⟩⟩;have y:(tz [] g).length<=bf:=by have F:=HE g [];rw[mT]at F;rw[lO];lia
 have D:∃q,h'.get? s.heap.objs.size=aa q:=let ⟨q,_,_,hq,_⟩:=i;⟨q,hq⟩
 exact At m (by rw[e];exact True.intro) A D (EM y E (u.merge .nil) i)
structure M1(X:Cx)(o:aC)(m:Str)(apos:Pos)(e:aC)(cpos:Pos):Prop where
 base:kr o m X.env (aX o X.env)=aX o X.env
 few:((c7 cpos (aU [e] X.env)).all (λx=>!x.1)&&(pi cpos (pq [] X.env)).all (λx=>x.1.isSome)&&decide (([e]:List aC).length+([]:List jD).length+(if([]:List jD).isEmpty then 0 else 1)<30))=ah
 line:(apos.endLine == cpos.line)=ah
 trees:c7 cpos (aU [e] X.env)=[(aj,aX e X.env)]
structure M2(X:Cx)(o:aC)(m:Str)(apos:Pos)(e f:aC)(cpos:Pos):Prop where
 base:kr o m X.env (aX o X.env)=aX o X.env
 few:((c7 cpos (aU [e,f] X.env)).all (λx=>!x.1)&&(pi cpos (pq [] X.env)).all (λx=>x.1.isSome)&&decide (([e,f]:List aC).length+([]:List jD).length+(if([]:List jD).isEmpty then 0 else 1)<30))=ah
 line:(apos.endLine == cpos.line)=ah
 trees:c7 cpos (aU [e,f] X.env)=[(aj,aX e X.env),(aj,aX f X.env)]
def Fj(H:Hp)(a:af):Prop:=(∃b,Rd H a (.dK b))\/∃b,Rd H a (.dT b)
theorem Qx{X:Cx}{l:List (af×Obj)}{j:St}{H:Hp}{s:am}{a:af}(I:Inv X l j H s)(d:Fj H a):s.TypeIs (.ref a) "dict"/\(∀b,Value.ref a=.ref b->∃c,s.heap.get? b=aa c/\c.dict=ae)/\(a == jf)=aj:=by
 rcases d with⟨kvs,e⟩|⟨kvs,e⟩
 .obtain⟨_,g,m,_,f⟩:=o8 I.hok e;refine⟨f.typeIs,λb q=>?_,g⟩;cases q;obtain⟨c,_,_,i,h,_⟩:=f;exact⟨c,i,h.2.1⟩
 .obtain⟨_,g,xs,_,f⟩:=qS I.hok e;refine⟨f.typeIs,λb q=>?_,g⟩;cases q;obtain⟨c,_,_,i,h,_⟩:=f;exact⟨c,i,h.2.1⟩
section
variable{X:Cx}{f:List (af×Obj)}{c:St}{H:Hp}{s:am}{a:af}{y d:V}{u r:ai}{o:Option V}{A:aT}{E:ai->am->Prop}
theorem MO{Q:ai->am->Prop}(v:A.units+1<cLine)(I:Inv X f c H s)(g:lC H a y o)(q:RelV y u)(rd:RelV d r)(h:∀n p,Inv X f c H p->RelV (o.getD d) n->Q n p):ar (au X.prog X.w) A (call (.builtin "dict.get") [.ref a,u,r]) Q E s:=by
 rcases g with⟨kvs,k,e,ey,l⟩|⟨kvs,k,b,e,ey,eb,l⟩
 .subst ey;obtain⟨z,m,w,i,j⟩:=o8 I.hok e;refine call_meetsIn Jt j.typeIs PySem.F.entry_dict_get (PySem.F.args_dict_get_3 _ _ _) (meets_dict_get_default (gP X.prog X.w) a (qV q) m r) ⟨_,j.mapOf,h _ _ (I.tok _) ?_⟩;rw[l];exact(i.val k).getD rd
 .subst ey;cases (show u=Value.ref b from q);obtain⟨z,m,xs,i,j⟩:=qS I.hok e;refine call_meetsIn Jt j.typeIs PySem.F.entry_dict_get (PySem.F.args_dict_get_3 _ _ _) (meetsH_dict_get_default (vR (gP X.prog X.w)) a b m r) ⟨zA v,k,xs,tf I.hok eb,j,h _ _ (I.tok _) ?_⟩;rw[l];exact(i.val k).getD rd
end
def RY(f ty tx:TE):TE:=λb H Q=>f b H λx d=>∃a,x=.ref a/\Fj d a/\ty b d λy g=>tx b g λz c=>∃o,lC c a y o/\Q (o.getD z) c
section
variable{X:Cx}{o e f:aC}{c b:Pos}{i ty tx:TE}
theorem Nx(G:X.A.units+1<cLine)(J:PE X o i)(L:PE X e ty)(K:PE X f tx)(m:M2 X o "get" c e f b):PE X (.Call (.Attribute o "get" c) [e,f] [] b) (RY i ty tx):=by intro n s j H Q I h;refine wpAny_Call_method m.base m.few m.line Ju Jt PySem.F.type_dict_get (aW (J n s j H _ I h) λu w ζ=>?_);obtain⟨x,W,p,C,a,M,d,F⟩:=ζ;subst M;obtain rfl:u=Value.ref a:=C;obtain⟨r,q,_⟩:=Qx p d;refine⟨r,q,?_⟩;rw[m.trees];refine Jr rfl (Js (CJ (aW (L n w j W _ p F) λiv v ⟨y,T,P,B,E⟩=>CJ (aW (K n v j T _ P E) λfv s3 ⟨z,S,O,A,ov,g,D⟩=>Jg ?_))));exact MO G O g B A λY Z N l=>⟨_,S,N,l,D⟩
end
end L2
namespace Att
open PySem PySem.W PySem.Calls PyProof.Rows
theorem S9{P:Params}{h:aB}:∀(c:List Int) (d:List ai),WellAll P h d (c.map WData.int)->IntsAre d c:=by
 intro c
 induction c with
 |nil=>
  intro d w;rw[zz]at w;cases w;exact .nil
 |cons n c f=>
  intro d w;rw[cn]at w;cases w with
  |cons a b=>
   cases a;exact .cons _ _ (f _ b)
theorem Us{l:OpenLaw}{n:Nat}(x:l.most=aa n){P:Params}{h:aB}{args:List WData}{c:List ai}(j:l.row.toRowW.claim.pre args=ah) (u:WellAll P h c args):∃a m b,c=[Value.ref a]/\args=[WData.list (b.map WData.int)]/\h.get? a=aa {cls:=.type "list",data:=.seq m.toArray}/\IntsAre m b/\b.length<=n:=by
 have i:WShape.hasAll [] args [.list .int]=ah:=(pre_splitW j).1;have o:l.pre.holds [] {args:=args}=ah:=(pre_splitW j).2;obtain⟨d,r,rfl,A,z⟩:=hasAllW_cons i;obtain rfl:=hasAllW_nil z;obtain⟨xs,rfl,y⟩:=hasW_list A;obtain⟨b,rfl⟩:=items_int y;have C:b.length<=n:=by
  unfold OpenLaw.pre at o;have g:(WTm.not (.lt (.lit (.int (n:Int))) (.len (.arg 0)))).holds [] {args:=[.list (b.map .int)]}=ah:=by have g:=(holds_andW o).1;rw[x]at g;exact g
  have f:=condW_of g (w_not (w_lt w_lit (w_len_list (w_arg rfl))));rw[cN]at f;refine Nat.le_of_not_lt λq=>?_;have v:(n:Int)<((b.length:Nat):Int):=∅
  first
   | (rw[decide_eq_true v]at f;exact absurd f (by decide))
   | (simp at f;lia)
 cases u with
 |cons s p=>
  cases p;cases s with
  |list w B=>exact⟨_,_,b,rfl,rfl,w,S9 b _ B,C⟩
theorem Qj(l:OpenLaw)(args:List WData):l.row.toRowW.claim.post args (.bool ah) args=ah :=
 postW_of (r:=l.row.toRowW) (X:=(ah == ah))
  (show WShape.has [] (.bool ah) .bool=ah by first|rfl|decide|simp[WShape.has,WShape.arms,WShape.armsAll])
  (show(WTm.eq .res (.lit (.bool ah))).value [] {args:=args,res:=aa (.bool ah),after:=args}=aa (.bool (ah == ah))from w_eq_bool (w_res rfl) w_lit) rfl
theorem attach_call{l:OpenLaw}{n:Nat}{q:aN}{g:List Str}{XP:(Str->Option ai)->aB->Prop}{C:aG->aB->Prop}{d:DefRec}(L:l.most=aa n) (F:d.params.defaults=[])(call:∀(w:aG) (c b:am) (s x:Str->Option ai) (j:af) (o:Obj) (v u h:ai) (a:af) (i:List ai) (p:List Int),Ground q g [] XP w c s x b.heap->C w b.heap -> b.heap.get? j=aa o->o.data=.func (docDef d.name d.params d.body d.scope v u h)->b.heap.CodeRec u d.name->s d.name=aa (.ref j) -> b.heap.get? a=aa {cls:=.type "list",data:=.seq i.toArray}->IntsAre i p->p.length<=n->b.gens=#[] -> mO (au l.prog w) tN (.call (.ref j) ⟨[.ref a],[]⟩) (λr m=>r=.ok (.ret (.bool ah))/\OldK b.heap m.heap/\m.os=b.os/\n5 m.gens) b):WalkO q g XP C l.row.toRowW d [] (λf i=>PySem.call f i):=by intro w c b s x G Y j o v u h dV kV K P X A D O B y as E z I H N;obtain rfl:dV=.none:=Dflts.none A F;obtain rfl:kV=.none:=Dflts.noKw A;obtain⟨a,i,p,rfl,rfl,Z,D8,W⟩:=Us L E H;refine enter_call (q_ (call w c b s x j o v u h a i p G Y K (fd_plain P) X D Z D8 W O) λr m J=>?_);obtain⟨rfl,T,S,Q⟩:=J;exact⟨.inl ⟨.bool ah,.bool ah,[],rfl,λ_=>rfl,.bool ah,Qj l _,λ_=>⟨List.Pairwise.nil,λ_ M=>(nomatch M)⟩⟩,T,S,Q⟩
end Att
namespace L2
theorem Am{a:List ai}{b:List Int}(h:IntsAre a b):bt (b.map V.int) a:=by
 induction h with
 |nil=>exact .nil
 |cons n t _ g=>exact .cons ⟨t,rfl⟩ g
def B0(H:Hp):Prop:=∀b,H b=ae\/(∃o xs,H b=aa (.frz o (.lst xs)))\/∃q,H b=aa (.tbl q)
def j8(K:ay):Hp:=λb=>match qZ K "least_ending" with
 |some (_,P)=>if b=P then aa (.tbl "least_ending.<locals>.<lambda>")else ae
 |none=>ae
theorem qD{K:ay}{b:af}{u:HO}(h:j8 K b=aa u):u=.tbl "least_ending.<locals>.<lambda>"/\∃c,qZ K "least_ending"=aa (c,b):=by
 unfold j8 at h;split at h
 .rename_i c P e;split at h
  .rename_i a;subst a;cases h;exact⟨rfl,c,e⟩
  .cases h
 .cases h
theorem Fo{K:ay}{c P:af}(h:qZ K "least_ending"=aa (c,P)):j8 K P=aa (.tbl "least_ending.<locals>.<lambda>"):=by unfold j8;rw[h];exact if_pos rfl
def ES(K:ay)(h:aB):Prop:=∀c P,qZ K "least_ending"=aa (c,P)->PySem.W.codeHdIn K c P=ah/\K.lookup P=ae/\h.get? P=aa {cls:=.none,data:=.fields #[]}
theorem P7{P:aN}{w:aG}{K:ay}{L mb:Str->Option ai}{CX:gA}{k:Nat}{fa a:af}{fd:gh}{x:Str}{sp:Sp}{f:am}{G:List ai}{M:List Int}(KX:K.In f.heap) (uh:f.heap.Ns bU L) (j:f.heap.Ns qY mb) (rL:∀x:Str,x≠"__name__"->mb x=fk x) (O:f.heap.NoLimit) (hbm:∃E C,L "__builtins__"=aa (.ref E)/\E≠qY/\f.heap.get? E=aa C/\C.cls=.type "module"/\C.dict=aa qY/\C.data=.plain) (B:ES K f.heap) (hg:f.gens=#[])(y:f.heap.get? a=aa {cls:=.type "list",data:=.seq G.toArray}) (hi:IntsAre G M) (hl:M.length<=bf) (hr:eT k tN)(F:∀p:aB,K.In p->p.Ns bU L->jP P w K L p CX k fa fd [x] sp) (Va:∀(s:am) (u:ai),BindsTo s fd ⟨[u],[]⟩ [(x,u)])(jI:∀H:Hp,B0 H->b_ K H a (M.map V.int)->sp [.ref a] H (λv _=>v=.bl ah) λ_ _ _=>False)(hCX:∀H e l,CX [] H f (λ_ _ _=>False) e l->False):mO (au P w) tN (.call (.ref fa) ⟨[.ref a],[]⟩) (λr l=>r=.ok (.ret (.bool ah))/\OldK f.heap l.heap/\l.os=f.os/\n5 l.gens) f:=by
 have rv:=Am hi;have N:=hi.length;have D:∀H:Hp,B0 H->b_ K H a (M.map V.int)->df P w H f.heap->(∀b,H b≠ae->b=a\/∃c,qZ K "least_ending"=aa (c,b))->(H a≠ae->K.lookup a=ae)->xq K H ->
   mO (au P w) tN (.call (.ref fa) ⟨[.ref a],[]⟩) (λr l=>r=.ok (.ret (.bool ah))/\OldK f.heap l.heap/\l.os=f.os/\n5 l.gens) f:=by
  intro H hO hS I Y hK hTH;have g:∀{b:af}{o:Obj},f.heap.get? b=aa o->H b=ae->(nL f.heap H).get? b=aa o:=λe n=>OV e n;have noA:∀{b:af}{o:Obj}{S:Array tO}{T:Nat},f.heap.get? b=aa o->o.data=.dict S T->H b=ae:=λ{b o S T} e d=>by
   cases q:H b with
   |none=>rfl
   |some u=>
    rcases Y b (by rw[q];simp)with i|⟨c,i⟩
    .subst i;rw[y]at e;cases e;have d':Data.seq G.toArray _=Data.dict S T:=d;cases d'
    .rw[(B c b i).2.2]at e;cases e;cases d
  have A:∀{b:af}{m:Str->Option ai},f.heap.Ns b m->(nL f.heap H).Ns b m:=λ{b m} ⟨o,S,T,e,d,r⟩=>⟨o,S,T,g e (noA e d),d,r⟩
  have Q:K.In (nL f.heap H):=λb o e=>g (KX b o e) (by
   cases q:H b with
   |none=>rfl
   |some u=>
    rcases Y b (by rw[q];simp)with i|⟨c,i⟩
    .subst i;rw[hK (by rw[q];simp)]at e;cases e
    .rw[(B c b i).2.1]at e;cases e)
  have hM:Mod K L (nL f.heap H):=⟨Q,A uh,⟨mb,A j,rL⟩,(let ⟨mc,h1,h2⟩:=O;⟨mc,A h1,h2⟩),by
   obtain⟨E,C,b1,b2,X,b4,b5,b6⟩:=hbm;refine⟨E,C,b1,b2,g X ?_,b4,b5,b6⟩;cases q:H E with
   |none=>rfl
   |some u=>
    rcases Y E (by rw[q];simp)with i|⟨c,i⟩
    .subst i;rw[y]at X;cases X;simp at b4
    .rw[(B c E i).2.2]at X;cases X;simp at b4⟩
  have e0:sA P w K L (nL f.heap H) tN [] f H:=⟨rfl,hM,λb o e=>UT e,oh (Kt _ _),trivial,λb j=>absurd (show b∈([]:List af)from j) (by simp),I,.of_eq hg,hTH⟩
  refine q_ ((F _ Q (A uh)).run tN [] f H ⟨[.ref a],[]⟩ [.ref a] [.ref a] _ _ hr e0 (Va f (.ref a)) (.cons rfl .nil) (jI H hO hS)) λr l h=>?_;cases r with
  |error e=>exact(hCX H e l h).elim
  |ok fl=>
   cases fl with
   |next=>exact im h
   |brk=>exact im h
   |cont=>exact im h
   |ret u=>
    obtain⟨v,H',os,W,un,Kb,r',q⟩:=h;have q':v=.bl ah:=q;subst q';obtain rfl:u=Value.bool ah:=r';refine⟨rfl,⟨λb o e=>?_,λb o e=>un.there b o e (by simp)⟩,os,W⟩;cases q:H b with
    |none=>exact .inl (un.keep b o e q (by intro z;exact absurd (show b∈([]:List af)from z) (by simp)) (by simp))
    |some u=>
     rcases hO b with z|⟨C,xs,z⟩|⟨qn,z⟩
     .rw[q]at z;cases z
     .have z2:=un.frzs b C _ z;obtain⟨J,_⟩:=I b _ z;obtain⟨e2,_⟩:=Kb b _ z2;rw[e]at J;cases J;exact .inl e2
     .rcases Y b (by rw[q];simp)with i|⟨c,i⟩
      .subst i;obtain⟨ps,J,_⟩:=I b _ z;rw[y]at J;cases J
      .obtain⟨k1,k2,k3⟩:=B c b i;rw[k3]at e;cases e;obtain⟨oc,Z,_,_,_,_,_,_,_,f1,f2,f3,f4,_⟩:=PySem.W.codeHd_of_K KX k1;obtain⟨ps,J,_⟩:=Kb b _ (un.tbls b _ z);exact .inr (.inl ⟨⟨c,oc,Z,f1,f2,f3,f4⟩,rfl,#[],ps,rfl,by rw[J];simp⟩)
 cases hk:K.lookup a with
 |some o=>
  have e:=KX a o hk;rw[y]at e;cases e;have tH:∀b u,j8 K b=aa u->bR P w (j8 K) f.heap b u:=λb u z=>by
   obtain⟨rfl,c,e⟩:=qD z;exact⟨#[],(B c b e).2.2,trivial,λpos cv h=>by cases h⟩
  refine D (j8 K) (λb=>?_) (.inr ⟨_,G.toArray,_,hk,rfl,rfl,rfl,by rw[cM,N];exact hl,by simpa using rv⟩) tH (λb z=>?_) (λz=>?_) λx hx c P e=>?_
  .cases q:j8 K b with
   |none=>exact .inl rfl
   |some u=>exact .inr (.inr ⟨_,congrArg aa (qD q).1⟩)
  .cases q:j8 K b with
   |none=>exact absurd q z
   |some u=>exact .inr (qD q).2
  .cases q:j8 K a with
   |none=>exact absurd q z
   |some u=>
    obtain⟨_,c,i⟩:=qD q;rw[(B c a i).2.2]at y;cases y
  .obtain rfl:x = "least_ending":=by simpa[Ck]using hx
   exact Fo e
 |none=>
  have ta:∀c P,qZ K "least_ending"=aa (c,P)->P≠a:=λc P e z=>by subst z;rw[(B c P e).2.2]at y;cases y
  refine D (λb=>if b=a then aa (.frz {cls:=.type "list",data:=.seq G.toArray} (.lst (M.map V.int)))else j8 K b) (λb=>?_) (.inl (.inr ⟨{cls:=.type "list",data:=.seq G.toArray},if_pos rfl⟩)) (λb u z=>?_) (λb z=>?_) (λ_=>hk) λx hx c P e=>?_
  .by_cases j:b=a
   .exact .inr (.inl ⟨_,_,if_pos j⟩)
   .cases q:j8 K b with
    |none=>exact .inl ((if_neg j).trans q)
    |some u=>exact .inr (.inr ⟨_,(if_neg j).trans (q.trans (congrArg aa (qD q).1))⟩)
  .by_cases j:b=a
   .have z':=(if_pos j).symm.trans z;cases z';subst j;exact⟨y,by rw[cN];exact hl,G,_,rv,y⟩
   .obtain⟨rfl,c,e⟩:=qD ((if_neg j).symm.trans z);exact⟨#[],(B c b e).2.2,trivial,λpos cv h=>by cases h⟩
  .by_cases j:b=a
   .exact .inl j
   .cases q:j8 K b with
    |none=>exact absurd ((if_neg j).trans q) z
    |some u=>exact .inr (qD q).2
  .obtain rfl:x = "least_ending":=by simpa[Ck]using hx
   exact(if_neg (ta c P e)).trans (Fo e)
theorem VM{l:CV}{n k:Nat}{q:aN}{c:List Str}{XP:(Str->Option ai)->aB->Prop}{E:aG->aB->Prop}{d:DefRec}{K:Params->ay}{CX:aG->gA}{sp:aG->Sp}{x:Str}(O:l.most=aa n) (r:n<=bf) (L:d.params.defaults=[]) (N:eT k tN)(C:∀(w:aG) (h:aB),E w h->(K w.params).In h/\ES (K w.params) h)(F:∀(w:aG) (g:Str->Option ai) (m:af) (h:aB),(K w.params).In h->h.Ns bU g->g d.name=aa (.ref m) -> ∃z:gh,(∀(s:am) (u:ai),BindsTo s z ⟨[u],[]⟩ [(x,u)]) /\ ∀b:aB,(K w.params).In b->b.Ns bU g->jP l.prog w (K w.params) g b (CX w) k m z [x] (sp w))(M:∀(w:aG) (H:Hp) (a:af) (j:List Int),j.length<=n->B0 H->b_ (K w.params) H a (j.map V.int)->sp w [.ref a] H (λv _=>v=.bl ah) λ_ _ _=>False)(y:∀(w:aG) (H:Hp) (s:am) (e:ai) (p:am),CX w [] H s (λ_ _ _=>False) e p->False):PySem.W.WalkO q c XP E l.row.toRowW d [] (λf A=>PySem.call f A):=by refine Att.attach_call O L λw B i g mb m o pm cd X a A j G Y ho hd bA J Z D8 D P=>?_;have I:=(C w _ Y).1;obtain⟨z,Q,W⟩:=F w g m _ I G.T.g J;exact P7 I G.T.g G.T.b G.T.builtins G.T.nolimit G.T.bmain (C w _ Y).2 P Z D8 (cX D r) N W Q (λH T S=>M w H a j D T S) λH e p=>y w H i e p
def j_(s:a8):Arguments:=match s with
 |.FunctionDef _ a _ _ _ _ _ _ _ _=>a
 |_=>{posonlyargs:=[],args:=[],vararg:=ae,kwonlyargs:=[],kw_defaults:=[],kwarg:=ae,defaults:=[]}
def gD(s:a8):List a8:=match s with
 |.FunctionDef _ _ b _ _ _ _ _ _ _=>b
 |_=>[]
def a_(s:a8):d9:=match s with
 |.FunctionDef _ _ _ _ _ _ a _ _ _=>a
 |_=>{kind:=.function,names:=[],isGenerator:=aj,isCoroutine:=aj}
abbrev A0:gA:=λ_ _ _ _ _ _=>False
abbrev E0:XK:=λ_ _ _=>False
structure qr(K:ay)(x qual:Str)(st:a8)(f:af)(fd:gh):Prop where
 ex:∃(oc:ai) (od:Option af) (kV doc pm:ai) (an:Option af) (aQ ct:ai) (osl:Array (Option ai)),
  fd=jh x qual (j_ st) (gD st) (a_ st) .none kV doc pm an aQ ct/\K.lookup f=aa ⟨oc,od,.func fd,osl⟩/\vV K aQ qual=ah
 kp:n9 K (.ref f)=ah
section
variable{P:aN}{w:aG}{K:ay}{b:Str->Option ai}{a:aB}
theorem qr.binds{x c:Str}{g:a8}{f:af}{p:gh}{j:List Str}(F:qr K x c g f p)(h:∀(kV d l:ai) (n:Option af) (o m:ai) (i:List ai),i.length=j.length->gF (jh x c (j_ g) (gD g) (a_ g) .none kV d l n o m) ⟨i,[]⟩=pure (j.zip i)):Binds K p j []:=by obtain⟨oc,r,kV,d,l,n,o,m,q,rfl,s,u⟩:=F.ex;exact .all (h kV d l n o m)
theorem HJ{x d:Str}{g:a8}{f:af}{oc:ai}{p o:Option af}{i:Array (Option ai)}{kV h m j n:ai}(l:K.lookup f=aa ⟨oc,p,.func (jh x d (j_ g) (gD g) (a_ g) .none kV h m o j n),i⟩)(c:vV K j d=ah) (k:n9 K (.ref f)=ah):qr K x d g f (jh x d (j_ g) (gD g) (a_ g) .none kV h m o j n):=⟨⟨oc,p,kV,h,m,o,j,n,i,rfl,l,c⟩,k⟩
end
theorem RP{n:Nat}(h:n<=1000):n<bf:=vZ h (by decide)
section
variable{X:Cx}
theorem pv(i:Nat){x:Str}{a:Pos}(d:X.N[i]?=aa x:=by rfl)(b:fh X.env.scope x:=by first|exact Or.inl rfl|exact Or.inr (Or.inl rfl)|exact Or.inr (Or.inr rfl))(c:ad x:=by decide)(f:(x==("__classdict__":Str))=aj:=by decide):PE X (.Name x a) (y0 i):=gC d b c f
theorem Nj:d4 X (.builtin "len") (λxs H Q=>∃a b,xs=[V.ref a]/\H a=aa (.dK b)/\Q (.int b.length) H):=by
 intro l s g H xs i Q I r h;obtain⟨a,b,rfl,d,q⟩:=h;obtain⟨u,rfl,c⟩:=vals1 r;cases c;exact S8 I (.inl d) λt j f=>⟨.int b.length,H,f,⟨t,rfl⟩,q⟩
end
theorem ql{A B:Prop}(h:B):if aj=ah then A else B:=by rw[if_neg eX];exact h
theorem qE{A B:Prop}(h:A):if ah=ah then A else B:=by rw[if_pos rfl];exact h
def Same(H a:Hp):Prop:=∀b o,H b=aa o->a b=aa o
theorem Same.refl(H:Hp):Same H H:=λ_ _ h=>h
theorem Same.trans{H f d:Hp}(a:Same H f)(b:Same f d):Same H d:=λc o h=>b c o (a c o h)
theorem Same.free{H a:Hp}(e:Same H a){l:af}(h:a l=Option.none):H l=Option.none:=by
 cases q:H l with
 |none=>rfl
 |some o=>
  rw[e l o q]at h;cases h
end L2
set_option maxHeartbeats 4000000
namespace L2
def iF(a:Env):List (Str×gY)->List (Str×af)->List (Str×af)
 |[],b=>b
 | (n,k)::r,b=>if k == .free then iF a r ((n,(a.cells.lookup n).getD 0)::b)else iF a r b
theorem Tr{d:Env}{y:Str}{c:af}(b:List (Str×gY))(f:List (Str×af))(l:∀x∈b,x.2=.free->∃c,d.cells.lookup x.1=aa c)(h:(iF d b f).lookup y=aa c):f.lookup y=aa c\/d.cells.lookup y=aa c:=by
 induction b generalizing f with
 |nil=>exact .inl h
 |cons a r i=>
  obtain⟨n,k⟩:=a;unfold iF at h;have j:∀x∈r,x.2=.free->∃c,d.cells.lookup x.1=aa c:=λx m=>l x (eJ _ m);split at h
  .rename_i o;obtain⟨s,g⟩:=l (n,k) (fK ..) (~~~o);rcases i _ j h with q|q
   .rw[lr]at q;split at q
    .rename_i p;have e:y=n:=by simpa using p
     subst e;rw[g]at q;exact .inr (by rw[g];exact q)
    .exact .inl q
   .exact .inr q
  .exact i _ j h
theorem HC{a:Type}{n:Str}{v:a}{l:List (Str×a)}:((n,v)::l).lookup n=aa v:=by rw[lr];simp
theorem G0{a:Type}{n y:Str}{v:a}{l:List (Str×a)}(h:∃c,l.lookup y=aa c):∃c,((n,v)::l).lookup y=aa c:=by
 rw[lr];split
 .exact⟨_,rfl⟩
 .exact h
theorem BH{d:Env}{y:Str}:∀(a:List (Str×gY)) (b:List (Str×af)),(∃c,b.lookup y=aa c)->∃c,(iF d a b).lookup y=aa c
 |[],b,h=>h
 | (n,k)::r,b,h=>by
  unfold iF;split
  .exact BH r _ (G0 h)
  .exact BH r _ h
theorem Ai{g:Env}{y:Str}:∀(a:List (Str×gY)) (i:List (Str×af)),(∃x∈a,x.1=y/\x.2=.free)->∃c,(iF g a i).lookup y=aa c
 |[],i,⟨_,h,_⟩=>by simp at h
 | (n,k)::r,i,⟨x,b,f,d⟩=>by
  unfold iF;rcases bn.mp b with e|b
  .subst e;simp only at f d;subst f d;simp only[beq_self_eq_true,if_true];exact BH r _ ⟨_,HC⟩
  .split
   .exact Ai r _ ⟨x,b,f,d⟩
   .exact Ai r _ ⟨x,b,f,d⟩
theorem BW{b:Env}:∀(a:List (Str×gY)) (g:List (Str×af)),(∀x∈a,x.2=.free->∃c,b.cells.lookup x.1=aa c) -> (forIn (m:=Sem) a g λx r=>match x with | (d,f)=>if(f == NameKind.free)=ah then do let c <-cellOf b d;pure (ForInStep.yield ((d,c)::r))else pure (ForInStep.yield r))=pure (iF b a g)
 |[],g,_=>rfl
 | (n,k)::r,g,h=>by
  have j:∀x∈r,x.2=.free->∃c,b.cells.lookup x.1=aa c:=λx o=>h x (eJ _ o);rw[List.forIn_cons];unfold iF;by_cases i:(k == NameKind.free)=ah
  .obtain⟨c,l⟩:=h (n,k) (fK ..) (~~~i);simp only[i,if_true];have e:cellOf b n=pure c:=by unfold cellOf;rw[l]
   rw[e];simp only[pure_bind];rw[BW r _ j,l];rfl
  .simp only[i,if_false,pure_bind];exact BW r _ j
theorem TW{a:d9}{b:Env}(h:∀x∈a.names,x.2=.free->∃c,b.cells.lookup x.1=aa c):closureFor a b=pure (iF b a.names []):=by unfold closureFor;have q:=BW a.names [] h;simp only[bind_pure_comp]at q ⊢;rw[q];rfl
theorem y8{n c:Nat}(b:n+1<=c)(a:c<n):False:=∅
theorem Ar:∀(c:List (Str×gY)) (n:Nat) (a b:List (Str×af)),f8 n c (a++b)=f8 n c a++b
 |[],_,_,_=>rfl
 | (x,k)::r,n,a,b=>by
  unfold f8;split
  .exact Ar r (n+1) ((x,n)::a) b
  .exact Ar r n a b
theorem xC{y:Str}{c:af}:∀(b:List (Str×gY)) (n:Nat) (a:List (Str×af)),(y,c)∈f8 n b a->(y,c)∈a\/(y,.cell)∈b
 |[],_,_,h=>.inl h
 | (x,k)::r,n,a,h=>by
  unfold f8 at h;split at h
  .rename_i d;rcases xC r _ _ h with z|z
   .rcases bn.mp z with z|z
    .cases z;have e:k=.cell:=by simpa using d
     subst e;exact .inr (fK ..)
    .exact .inl z
   .exact .inr (eJ _ z)
  .rcases xC r _ _ h with z|z
   .exact .inl z
   .exact .inr (eJ _ z)
theorem Ci{y:Str}:∀(b:List (Str×gY)) (n:Nat) (a:List (Str×af)),(∃c,a.lookup y=aa c)->∃c,(f8 n b a).lookup y=aa c
 |[],_,_,h=>h
 | (x,k)::r,n,a,h=>by
  unfold f8;split
  .exact Ci r _ _ (G0 h)
  .exact Ci r _ _ h
theorem zn{y:Str}:∀(b:List (Str×gY)) (n:Nat) (a:List (Str×af)),(y,.cell)∈b->∃c,(f8 n b a).lookup y=aa c
 | (x,k)::r,n,a,h=>by
  unfold f8;rcases bn.mp h with e|h
  .cases e;exact Ci r _ _ ⟨_,HC⟩
  .split
   .exact zn r _ _ h
   .exact zn r _ _ h
def mq(X:Cx)(a:d9)(C:af):List (Str×af):=f8 (C+1) a.names (iF X.env a.names [])
theorem Bz(X:Cx)(a:d9)(C:af):mq X a C=f8 (C+1) a.names []++iF X.env a.names []:=Ar a.names (C+1) [] _
theorem Pr{M:Model}{A:aT}{E:ai->am->Prop}{s:am}{a:d9}{b:af}{j:List (Str×af)}{c:Str}{f:Env}{Q:Env->am->Prop}(l:Q (newEnv a s.heap.objs.size b (f8 (s.heap.objs.size+1) a.names j) c ae .none (aa f) qY) {s with heap:=pushCells (s.heap.push {cls:=.type "dict",data:=.dict #[]}) a.names}):ar M A (newFunctionEnv a b j [] c ae .none (aa f)) Q E s:=by
 simp only[newFunctionEnv,Option.isSome_some,if_true];refine aq (wpAny_alloc ?_);refine aq (wpAny_layCells _ (λi d h=>by cases g:d == NameKind.cell <;> simp[g]) _ _ _ _ ?_);rw[show({s with heap:=s.heap.push {cls:=.type "dict",data:=.dict #[]}}:am).heap.objs.size=s.heap.objs.size+1 from ri ..];refine aq ?_;rw[List.forIn_nil];exact aD (aD l)
theorem FO{s:am}{a:List (Str×gY)}{y:Str}{c:af}(h:(y,c)∈f8 (s.heap.objs.size+1) a []):(pushCells (s.heap.push {cls:=.type "dict",data:=.dict #[]}) a).IsCell c ae/\s.heap.objs.size+1<=c/\∀z,(z,c)∈f8 (s.heap.objs.size+1) a []->y=z:=by have ok:=cellsFrom_ok a (s.heap.push {cls:=.type "dict",data:=.dict #[]}) (s.heap.objs.size+1) [] ⟨λ_ _ d=>(nomatch d),List.Pairwise.nil⟩ (by rw[ri];exact aZ _);rw[ri]at ok;exact⟨(ok.empty y c h).1,(ok.empty y c h).2,λz b=>name_of_addr ok.apart h b⟩
def cD(X:Cx)(a:d9)(b:List Str)(C:af)(s₀:am)(H₀:Hp)(ex:List af)(pn:List (af×Obj)):Cx where
 prog:=X.prog
 w:=X.w
 K:=X.K
 mg:=X.mg
 base:=X.base
 A:=X.A
 N:=b
 s₀:=s₀
 H₀:=H₀
 env:=compEnvC a (mq X a C) C X.env
 outer:=X.stack
 stack:=X.stack
 ex:=ex
 fn:=λy=>a.names.lookup y == aa .cell
 calm:=X.calm
 pn:=X.pn++pn
 xe:=λ_ _=>False
def gL(b:St)(a:List Nat):St:=a.map λi=>(b[i]?).join
structure jr(X:Cx)(scope:d9)(x:Str)(N':List Str)(cap:List Nat):Prop where
 kind:scope.kind=.function
 cells:∀y∈scope.names,y.2=.cell->scope.names.lookup y.1=aa .cell
 names:∀y∈scope.names,y.2=.local->scope.names.lookup y.1=aa .local
 loc:scope.names.lookup x=aa .local\/scope.names.lookup x=aa .cell
 free:∀y∈scope.names,y.2=.free->X.env.kindOf y.1=aa .cell\/X.env.kindOf y.1=aa .free
 nd:N'.Nodup
 hd:N'.head?=aa x
 len:N'.length=cap.length+1
 caps:∀i j y,N'[i+1]?=aa y->cap[i]?=aa j->(X.N[j]?=aa y/\scope.names.lookup y=aa .free)\/(X.N.length<=j/\scope.names.lookup y=aa .local)
theorem Qs{a:List (Str×gY)}{y:Str}{k:gY}(h:a.lookup y=aa k):∃x∈a,x.1=y/\x.2=k:=⟨(y,k),lR h,rfl,rfl⟩
theorem Bc{a:Env}{x:Str}:∀{b:List (Str×gY)}{k:gY}, (b.map λ(n,k)=>if(k == NameKind.free&&a.scope.kind == .function&&a.kindOf n == aa .cell)then(n,NameKind.cell)else(n,k)).lookup x=aa k -> ∃f,b.lookup x=aa f/\(k=f\/(f=.free/\k=.cell))
 |[],_,h=>by simp at h
 | (n,c)::r,k,h=>by
  change CW x ((if(c == NameKind.free&&a.scope.kind == .function&&a.kindOf n == aa .cell)=ah then(n,NameKind.cell)else(n,c))::_)=_ at h;rw[lr];by_cases d:(c == NameKind.free&&a.scope.kind == .function&&a.kindOf n == aa .cell)=ah
  .rw[if_pos d,lr]at h;split at h
   .rename_i g;cases h;have:c=.free:=by simp at d;exact d.1.1
    exact⟨c,rfl,.inr ⟨this,rfl⟩⟩
   .exact Bc h
  .rw[if_neg d,lr]at h;split at h
   .rename_i g;cases h;exact⟨c,rfl,.inl rfl⟩
   .exact Bc h
theorem Cn{a:Env}{x:Str}:∀{b:List (Str×gY)},b.lookup x=aa .free -> let q:=(b.map λ(n,k)=>if(k == NameKind.free&&a.scope.kind == .function&&a.kindOf n == aa .cell)then(n,NameKind.cell)else(n,k)).lookup x
  q=aa .cell\/q=aa .free
 |[],h=>by simp at h
 | (n,c)::r,h=>by
  show CW x ((if(c == NameKind.free&&a.scope.kind == .function&&a.kindOf n == aa .cell)=ah then(n,NameKind.cell)else(n,c))::_)=_\/CW x ((if(c == NameKind.free&&a.scope.kind == .function&&a.kindOf n == aa .cell)=ah then(n,NameKind.cell)else(n,c))::_)=_;rw[lr]at h;by_cases f:(c == NameKind.free&&a.scope.kind == .function&&a.kindOf n == aa .cell)=ah
  .rw[if_pos f,lr];cases d:x == n with
   |true=>exact .inl rfl
   |false=>rw[d]at h;exact Cn h
  .rw[if_neg f,lr];cases d:x == n with
   |true=>rw[d]at h;cases h;exact .inr rfl
   |false=>rw[d]at h;exact Cn h
theorem Bd{a:Env}{x:Str}:∀{b:List (Str×gY)},b.lookup x=aa .cell -> (b.map λ(n,k)=>if(k == NameKind.free&&a.scope.kind == .function&&a.kindOf n == aa .cell)then(n,NameKind.cell)else(n,k)).lookup x=aa .cell
 |[],h=>by simp at h
 | (n,d)::r,h=>by
  show CW x ((if(d == NameKind.free&&a.scope.kind == .function&&a.kindOf n == aa .cell)=ah then(n,NameKind.cell)else(n,d))::_)=_;rw[lr]at h;by_cases f:(d == NameKind.free&&a.scope.kind == .function&&a.kindOf n == aa .cell)=ah
  .rw[if_pos f,lr];cases c:x == n with
   |true=>rfl
   |false=>rw[c]at h;exact Bd h
  .rw[if_neg f,lr];cases c:x == n with
   |true=>rw[c]at h;cases h;rfl
   |false=>rw[c]at h;exact Bd h
section
variable{X:Cx}{A:List (af×Obj)}{w:St}{H:Hp}{s:am}{f:d9}{x:Str}{D:List Str}{g:List Nat}
theorem Inv.freeHas(I:Inv X A w H s)(B:jr X f x D g):∀y∈f.names,y.2=.free->∃c,X.env.cells.lookup y.1=aa c:=λy a e=>I.ok.has y.1 (B.free y a e)
theorem Inv.clIn(I:Inv X A w H s)(B:jr X f x D g){y:Str}{c:af}(h:(iF X.env f.names []).lookup y=aa c):X.env.cells.lookup y=aa c:=by
 rcases Tr f.names [] (I.freeHas B) h with q|q
 .simp at q
 .exact q
theorem Inv.cbIn(I:Inv X A w H s)(B:jr X f x D g){C:af}{y:Str}{c:af}(h:(mq X f C).lookup y=aa c):((y,c)∈f8 (C+1) f.names []/\f.names.lookup y=aa .cell)\/((iF X.env f.names []).lookup y=aa c/\X.env.cells.lookup y=aa c):=by
 rw[Bz,Jv]at h;cases e:(f8 (C+1) f.names []).lookup y with
 |none=>rw[e]at h;exact .inr ⟨h,I.clIn B h⟩
 |some a=>
  rw[e]at h;cases h;have m:=lR e;rcases xC _ _ _ m with z|z
  .cases z
  .exact .inl ⟨m,B.cells _ z rfl⟩
theorem Inv.cbOld(I:Inv X A w H s)(B:jr X f x D g){C:af}{y:Str}{c:af}(h:(iF X.env f.names []).lookup y=aa c)(a:f.names.lookup y=aa .free):(mq X f C).lookup y=aa c:=by
 rw[Bz,Jv];cases e:(f8 (C+1) f.names []).lookup y with
 |none=>exact h
 |some b=>
  rcases xC _ _ _ (lR e)with z|z
  .cases z
  .have:=B.cells _ z rfl;rw[a]at this;cases this
theorem Inv.block{fp:List af}{E:aB}{m:Str->Option ai}{t':Nat}(hh:E=pushCells (s.heap.push {cls:=.type "dict",data:=.dict #[]}) f.names)(I:Inv X A w H s)(B:jr X f x D g)(W:∀b∈fp,lN X A H b)(hfo:∀b∈fp,∃o,s.heap.get? b=aa o)(uh:E.Ns s.heap.objs.size m)(F:∀b o,s.heap.get? b=aa o->E.get? b=aa o):Inv (cD X f D s.heap.objs.size s H fp A) [] (ae::gL w g) H {s with heap:=E,toks:=t'}:=by
 have N:∀x c,X.env.cells.lookup x=aa c->c<s.heap.objs.size:=λx c e=>(I.cell x c e).elim λv q=>q.lt;have C:∀{y:Str}{c:af},(y,c)∈f8 (s.heap.objs.size+1) f.names []->E.IsCell c ae/\s.heap.objs.size+1<=c/\∀z,(z,c)∈f8 (s.heap.objs.size+1) f.names []->y=z:=λh=>by rw[hh];exact FO h
 have lk:∀y k,(compEnvC f (mq X f s.heap.objs.size) s.heap.objs.size X.env).kindOf y=aa k->∃O,f.names.lookup y=aa O/\(k=O\/(O=.free/\k=.cell)):=λy k h=>Bc h;have J:∀y,f.names.lookup y=aa .free->∃c,(iF X.env f.names []).lookup y=aa c:=λy h=>Ai f.names [] (Qs h);have nfs:∀b∈fF X.stack,b≠s.heap.objs.size:=λb G e=>by
  rcases bn.mp (I.stkSub b G)with z|z
  .exact absurd I.lt (by rw[<-z,e];exact fj _)
  .exact I.nofs (oh e.symm) z
 refine⟨⟨I.ok.mod,B.kind,I.ok.glob,I.ok.blt,aZ _,λy z c h1 h2=>?_,λy Q=>?_,λy c h rM=>?_,I.ok.hd,I.ok.frames,.inl rfl,λb G=>?_,λb o e=>I.bs b o e,cX I.ok.bsz I.sz,λb o e G=>?_,λb G hf=>?_,I.stack,(λb G=>I.stkFree b G),I.tab⟩,rfl,I.bare,Un.kept F,⟨m,uh,λi y v e1 S e3=>?_⟩,λy c h=>?_,I.hok.fresh (aZ _),λy c h=>?_,λp hp=>?_,I.hok.kept F,?_⟩
 .-- inj
  rcases I.cbIn B h1 with⟨a1,a2⟩|⟨a1,a2⟩ <;> rcases I.cbIn B h2 with⟨b1,b2⟩|⟨b1,b2⟩
  .exact(C a1).2.2 z b1
  .exact(y8 (C a1).2.1 (N _ _ b2)).elim
  .exact(y8 (C b1).2.1 (N _ _ a2)).elim
  .exact I.ok.inj y z c a2 b2
 .-- has
  show ∃c,(mq X f s.heap.objs.size).lookup y=aa c;have m_:f.names.lookup y=aa .free->∃c,(mq X f s.heap.objs.size).lookup y=aa c:=λq=>(J y q).imp λc hc=>I.cbOld B hc q;rcases Q with Q|Q
  .obtain⟨O,q,z|⟨z,_⟩⟩:=lk y _ Q
   .subst z;exact zn _ _ _ (lR q)
   .subst z;exact m_ q
  .obtain⟨O,q,z|⟨_,z⟩⟩:=lk y _ Q
   .subst z;exact m_ q
   .cases z
 .-- cab
  have hk:f.names.lookup y=aa .cell:=by simpa using(show(f.names.lookup y == aa .cell)=ah from h)
  show s.heap.objs.size<=c;rcases I.cbIn B rM with⟨a1,a2⟩|⟨a1,a2⟩
  .have:=(C a1).2.1;lia
  .obtain⟨c',P⟩:=zn (n:=s.heap.objs.size+1) (a:=[]) _ (lR hk);have e:(mq X f s.heap.objs.size).lookup y=aa c':=by rw[Bz,Jv,P];rfl
   have S:(mq X f s.heap.objs.size).lookup y=aa c:=rM;rw[e]at S;cases S;have:=(C (lR P)).2.1;lia
 .-- exf
  obtain⟨f0,f1,f2,f3,f4,f5⟩:=W b G;obtain⟨o,L⟩:=hfo b G;refine⟨λe=>absurd (bC L) (by rw[e];exact fj _),λy c h=>?_⟩;rcases I.cbIn B h with⟨a1,a2⟩|⟨a1,a2⟩
  .rintro rfl;exact y8 (C a1).2.1 (bC L)
  .exact f4 y c a2
 .-- noex
  obtain⟨f0,f1,f2,f3,f4,f5⟩:=W b G;rcases f3 with z|z
  .exact I.ok.noex b o e z
  .exact absurd (gE (bC e) (cX I.ok.bsz z)) (fj _)
 .-- exfs
  obtain⟨f0,f1,f2,f3,f4,f5⟩:=W b G;rcases bn.mp (I.stkSub b hf)with z|z
  .exact f1 z
  .exact f2 z
 .-- loc
  cases i with
  |zero=>simp at S
  |succ i=>
   have K:(gL w g)[i]?=aa (aa v):=by simpa using S
   unfold gL at K;rw[gZ]at K;cases Z:g[i]? with
   |none=>rw[Z]at K;cases K
   |some j=>
    rw[Z]at K;have T:(w[j]?).join=aa v:=dO K;have e5:w[j]?=aa (aa v):=by
     cases hq:w[j]? with
     |none=>rw[hq]at T;cases T
     |some o=>rw[hq]at T;exact congrArg aa T
    obtain⟨b1,b2⟩:=(B.caps i j y e1 Z).elim id λz=>by have:=(c_.mp e5).1;rw[I.len]at this;exact absurd this (Nat.not_lt.mpr z.1)
    obtain⟨mm,hn,hl⟩:=I.loc;have wq:=B.free _ (lR b2) rfl;have Y:fh X.env.scope y:=by
     rcases wq with z|z
     .exact .inr (.inl z)
     .exact .inr (.inr z)
    obtain⟨u,r,l⟩:=hl j y v b1 e5 Y;refine⟨u,r,.inr ⟨Cn b2,?_⟩⟩;rcases l with⟨l,_⟩|⟨_,c,hc,zY⟩
    .rcases wq with z|z
     .rw[l]at z;cases z
     .rw[l]at z;cases z
    .obtain⟨c',P⟩:=J y b2;have e6:=I.clIn B P;rw[hc]at e6;cases e6;obtain⟨M,L,hd⟩:=zY;exact⟨c,I.cbOld B P b2,M,F c M L,hd⟩
 .rcases I.cbIn B h with⟨a1,a2⟩|⟨a1,a2⟩
  .exact⟨ae,(C a1).1⟩
  .obtain⟨v,M,L,hd⟩:=I.cell y c a2;exact⟨v,M,F c M L,hd⟩
 .rcases I.cbIn B h with⟨a1,a2⟩|⟨a1,a2⟩
  .exact I.hok.fresh (cX (zB _) (C a1).2.1)
  .exact I.freeC y c a2
 .have dZ:p∈X.pn++A:=by simpa[cD]using hp
  obtain⟨e,n,ne,nf,d⟩:=I.pin p dZ;refine⟨F _ _ e,n,cZ (bC e),λhf=>?_,d⟩;rcases bn.mp (I.stkSub p.1 hf)with z|z
  .exact ne z
  .exact nf z
 .show(ae::gL w g).length=D.length;rw[B.len];simp[gL]
end
def qH(X:Cx)(b:List aC)(t:TT):Prop :=
 ∀(d:List (af×Obj)) (s:am) (a:St) (H:Hp) (Q:Bool->Hp->Prop),Inv X d a H s->t a H Q ->
  ar (au X.prog X.w) X.A (forIn b ah λc r=>if r=ah then do let ok <-n6 c X.env (aX c X.env);pure (ForInStep.yield ok)else pure (ForInStep.yield r)) (TP X d a Q) X.xe s
theorem Nt{P:aN}{w:aG}{A:aT}{R:Result->am->Prop}{s:am}{m q i:aC}{l:List aC}{g:d9}{p:Pos}{u C:ai}{d:Env}(J:Nat->am->Prop)(n:∀k o,J k o->ar (au P w) A (mK u) (λr B=>match r with
   |none=>R (.ok .next) B
   |some v=>ar (au P w) A (CI q u v) (λ_ G=>ar (au P w) A (assign q d v) (λ_ F=>ar (au P w) A (forIn l ah λc r=>if r=ah then do let ok <-n6 c d (aX c d);pure (ForInStep.yield ok)else pure (ForInStep.yield r)) (λb z=>if b=ah then ar (au P w) A (aX m d) (λy E=>ar (au P w) A (call (.builtin "list.append") [C,y]) (λ_ D=>∃j,j<k/\J j D) (λ_ _=>False) E) (λ_ _=>False) z else ∃j,j<k/\J j z) (λ_ _=>False) F) (λ_ _=>False) G) (λ_ _=>False) B) (λ_ _=>False) o) (k:Nat) (h:J k s) :
  mO (au P w) A (.compLoop (.ListComp m [⟨q,i,l,0⟩] g p) 0 u C d) R s:=by
 refine codeAny_loop rfl J (λj o K=>?_) k h;show ar _ A (Sem.onRaise (compTurn (.ListComp m [⟨q,i,l,0⟩] g p) 0 u C d) (λx=>do noteFrame x d;theTreesLotGoes x)) _ _ o;refine wpAny_noted ?_;rw[compTurn_list];have no:∀(Q:ai->am->Prop) (a:ai) (b:am),False->Q a b:=λ_ _ _ f=>f.elim;refine aq (wpAny_standAt (aq (eW (n j o K) (λr B I=>?_) (no _))));cases r with
 |none=>exact aD I
 |some v=>
  refine aq (eW I (λ_ G O=>aq (eW O (λ_ F N=>aq (eW N (λb z H=>?_) (no _))) (no _))) (no _));cases b with
  |true=>exact aq (aq (eW H (λy E M=>aq (eW M (λ_ D L=>aD (aD ⟨rfl,L⟩)) (no _))) (no _)))
  |false=>exact aD ⟨rfl,H⟩
def MV:TT:=λ_ H Q=>Q ah H
theorem Oa{X:Cx}:qH X [] MV:=λ_ _ _ H _ I h=>wpAny_tests_nil ⟨H,I,h⟩
theorem IV{X:Cx}{c:aC}{t:TT}(h:PT X c t):qH X [c] t:=λd s a H Q I b=>wpAny_tests_one (h d s a H Q I b)
def Cu(q:TI)(h:V->Hp->St->Prop)(k:Nat)(r:TT)(s:TE)(d:List Nat):TE:=λg H Q=>q g H λJ p=>∀l,p l=ae->∃W:Nat->Nat->List V->Hp->Prop,(∃m,W 0 m [] (upd p l (.lst [])))/\∀i m a H,W i m a H ->
 (J.stop i H/\Q (.ref l) H)\/(J.go i H/\∀v j,J.yld i H v j->∃f,f.length=k+1/\h v j f/\r (f++(gL g d).drop k) j λb o=>if b=ah then s (f++(gL g d).drop k) o λy n=>n l=aa (.lst a)/\a.length<bf/\∃c,c<m/\W (i+1) c (a++[y]) (upd n l (.lst (a++[y]))) else ∃c,c<m/\W (i+1) c a o)
def IU:V->Hp->St->Prop:=λv _ a=>a=[aa v]
abbrev Ct(b:TI)(c:TT)(d:TE)(a:List Nat):TE:=Cu b IU 0 c d a
section
variable{X:Cx}{m:List (af×Obj)}{w:St}{H:Hp}{s:am}{g:d9}{x:Str}{j:List Str}{l:List Nat}
theorem Inv.unblock{r:List af}{p:Hp}{y:St}{s':am}{h:aB}(I:Inv X m w H s)(D:∀b∈r,lN X m H b)(a:Inv (cD X g j s.heap.objs.size s H r m) [] y p s') (sb:ko s.heap.objs.size s'.heap h):Inv X m w p {s' with heap:=h}:=by
 have k:∀b o,b≠s.heap.objs.size->s'.heap.get? b=aa o->h.get? b=aa o:=λb o f e=>(sb.2 b f).trans e;have A:∀b o,s.heap.get? b=aa o->b≠s.heap.objs.size:=λb o e=>cZ (bC e);have un:Un (fF X.stack) r H p s.heap h:=by
  refine⟨λb o e n f d=>k b o (A b o e) (a.base.keep b o e n f d),λb o e n f d=>?_,λb o e n d=>a.base.free b o e n d,λb o e d=>?_,a.base.tups,a.base.frzs,a.base.tbls⟩
  .obtain⟨E,q⟩:=a.base.slot b o e n f d;exact⟨E,k b _ (A b o e) q⟩
  .obtain⟨C,q⟩:=a.base.there b o e d;exact⟨C,k b C (A b o e) q⟩
 have B:df X.prog X.w p h:=λb u e=>by
  have i:p s.heap.objs.size=ae:=a.free;refine(a.hok b u e).stay (λc v F q=>k c v ?_ q) (λ_ q=>q) λ_ _ q=>q;rintro rfl;rcases F with z|z
  .rw[<-z,i]at e;cases e
  .rw[i]at z;cases z
 refine I.call' (s':={s' with heap:=h}) (ch:=r) a.os un B a.bare λb f=>?_;obtain⟨K,J,f2,f3,f4,G⟩:=D b f;exact⟨f3,J,f4,G⟩
theorem HN{elt G tg:aC}{pos pos':Pos}{ifs:List aC}{wi:TI}{tgf:V->Hp->St->Prop}{k:Nat}{ts:TT}{te:TE}{use:Option (ai->Sem Unit)}{Q:ai->am->Prop}{Qp:VK}(B:jr X g x j l)(hk:k<=l.length)(hc:X.calm=ah)(hi:PI X tg G wi)(eY:∀C F K ex pn,PG (cD X g j C F K ex pn) tg λv O H Q=>∃Y,Y.length=k+1/\O.length=j.length/\tgf v H Y/\Q (Y++O.drop (k+1)) H)(ht:∀C F K ex pn,qH (cD X g j C F K ex pn) ifs ts) (he:∀C F K ex pn,PE (cD X g j C F K ex pn) elt te) (hs:∀x,mL G X.env x=pure x) (I:Inv X m w H s) (h:Cu wi tgf k ts te l w H Qp)(fin:∀{A s6:am}{P H5:Hp}{L σ5 a f},Inv X m w P A->(∀b∈L,lN X m P b)->Inv (cD X g j A.heap.objs.size A P L m) [] σ5 H5 s6->Qp (.ref a) H5->compPost (au X.prog X.w) X.A X.xe use Q (.ref a) A.heap.objs.size (.ok f) s6):ar (au X.prog X.w) X.A (comprehension (.ListComp elt [⟨tg,G,ifs,0⟩] g pos) g X.env pos' (newList []) aj (aX G X.env) use) Q X.xe s:=by
 refine wpAny_comprehension_free (use:=use) rfl hs (TW (I.freeHas B)) B.kind B.names (aW (hi m s w H _ I h) λv s1 h1=>aW h1 λitv E h2=>?_);obtain⟨it,L,tn,J,H2,e,I2,T,bd,f2,h2⟩:=h2;subst e;refine lq ?_;have I3:Inv X m w (upd H2 E.heap.objs.size (.lst [])) {E with heap:=E.heap.push {cls:=.type "list",data:=.seq ([]:List ai).toArray},toks:=E.toks}:=I2.lnew (its:=[]) (t':=E.toks) .nil (jY _);obtain⟨W,⟨m0,w0⟩,turn⟩:=h2 E.heap.objs.size I2.fresh;generalize pT:({E with heap:=E.heap.push {cls:=.type "list",data:=.seq ([]:List ai).toArray},toks:=E.toks}:am)=A at I3;have hs3':({E with heap:=E.heap.push {cls:=.type "list",data:=.seq ([]:List ai).toArray}}:am)=A:=pT;generalize hH3:upd H2 E.heap.objs.size (.lst [])=P at I3 w0;have nl:∀b∈L,b≠E.heap.objs.size:=λb D e=>by obtain⟨o,ho,_⟩:=T.obj _ _ bd b D;exact absurd (bC ho) (by rw[e];exact fj _)
 have k3:∀b o,E.heap.get? b=aa o->A.heap.get? b=aa o:=λb o e=>by rw[<-pT];exact bw _ e
 have f3:∀b∈L,lN X m P b:=λb D=>⟨by rw[<-hH3,bh (nl b D)];exact(f2 b D).1,(f2 b D).2⟩
 have bG:tn 0 A.heap:=T.keep _ _ _ bd λb _ o e=>k3 b o e;have fo3:∀b∈L,∃o,A.heap.get? b=aa o:=λb D=>(T.obj _ _ bG b D).imp λo q=>q.1;refine Pr ?_;generalize hh:pushCells (A.heap.push {cls:=.type "dict",data:=.dict #[]}) g.names=h₁;have old:∀b o,A.heap.get? b=aa o->h₁.get? b=aa o:=λb o e=>hh ▸ pushCells_keeps _ _ b o (bw _ e);have uh:h₁.Ns A.heap.objs.size (λ_=>ae):=hh ▸ (Heap.Ns.new A.heap (.type "dict")).keeps (pushCells_keeps _ _);have I4:=Inv.block (t':=A.toks) hh.symm I3 B f3 fo3 uh old;have bV:tn 0 h₁:=T.keep _ _ _ bG λb _ o e=>old b o e;have M:∀{H':Hp},(∀b∈L,H' b=ae)->∀b∈L,lN (cD X g j A.heap.objs.size A P L m) [] H' b:=λhn b D=>by
  obtain⟨f0,f1,f2',f3',f4,f5⟩:=f3 b D;refine⟨hn b D,λe=>?_,λhf=>?_,.inl D,λy c h=>?_,λp hp=>f5 p (by simpa[cD]using hp)⟩
  .obtain⟨o,ho⟩:=fo3 b D;exact absurd (bC ho) (by rw[show b=A.heap.objs.size from e];exact fj _)
  .rcases bn.mp (I3.stkSub b hf)with z|z
   .exact f1 z
   .exact f2' z
  .rcases I3.cbIn B h with⟨a1,a2⟩|⟨a1,a2⟩
   .rintro rfl;obtain⟨o,ho⟩:=fo3 _ D;exact y8 (FO a1).2.1 (bC ho)
   .exact f4 y c a2
 have Z:mO (au X.prog X.w) X.A (.compLoop (.ListComp elt [⟨tg,G,ifs,0⟩] g pos) 0 (.ref it) (.ref E.heap.objs.size) (compEnvC g (mq X g A.heap.objs.size) A.heap.objs.size X.env))
   (compPost (au X.prog X.w) X.A X.xe use Q (.ref E.heap.objs.size) A.heap.objs.size) {A with heap:=h₁,toks:=A.toks}:=by
  refine Nt (λn s'=>∃i S O H',(∃pre:St,pre.length=k+1/\O=pre++(gL w l).drop k)/\Inv (cD X g j A.heap.objs.size A P L m) [] O H' s'/\tn i s'.heap/\(∀b∈L,H' b=ae)/\W i n S H') ?_ m0
   ⟨0,[],_,P,⟨(ae::gL w l).take (k+1),by simp[gL];lia,by rw[<-List.drop_succ_cons (a:=ae)];exact(oj _ _).symm⟩,I4,bV,λb D=>(f3 b D).1,w0⟩
  rintro n s5 ⟨i,S,σ5,H5,⟨pre,wu,rfl⟩,I5,cu,fr5,w5⟩;rcases turn i n S H5 w5 with⟨stop,q⟩|⟨go,step⟩
  .refine eW (T.done (cD X g j A.heap.objs.size A P L m) rfl rfl rfl hc i [] s5 _ H5 (λ_ _=>False) I5 (M fr5) cu stop) (λr s6 ⟨hr,I6⟩=>?_) (λ_ _ f=>f.elim);subst hr;exact fin I3 f3 I6 q
  .refine eW (T.item (cD X g j A.heap.objs.size A P L m) rfl rfl rfl hc i [] s5 _ H5 (λ_ _=>False) I5 (M fr5) cu go) (λr s6 ⟨u,hr,h6⟩=>?_) (λ_ _ f=>f.elim);subst hr;refine eW h6 (λ_ s7 ⟨v,H7,I7,r7,y7,st7,fr7⟩=>?_) (λ_ _ f=>f.elim);have I7':=I7.pinned (M fr7) (T.obj _ _ st7);have back:∀{N:St}{H8:Hp}{s8:am},Inv (cD X g j A.heap.objs.size A P L m) ([]++vz L s7.heap) N H8 s8->tn (i+1) s8.heap/\(∀b∈L,H8 b=ae):=λ{N H8 s8} I8=>⟨T.keep _ _ _ st7 λb D o e=>(I8.pin (b,o) (lm _ (lm _ (yN D e)))).1,λb D=>by obtain⟨o,e,d⟩:=T.obj _ _ st7 b D;exact(I8.pin (b,o) (lm _ (lm _ (yN D e)))).2.1⟩
   obtain⟨Y,fq,htg,step⟩:=step v H7 y7;refine aW (eY _ _ _ _ _ _ s7 _ H7 v u (λN H8=>N=Y++(gL w l).drop k/\H8=H7) I7' r7 ⟨Y,fq,I7'.len,htg,by rw[UW ∅,List.drop_eq_nil_of_le ∅];rfl,rfl⟩) λ_ s8 ζ=>?_;obtain⟨N,H8,I8,e8,e8'⟩:=ζ;subst e8 e8';refine aW (ht _ _ _ _ _ _ s8 _ _ _ I8 step) λb s9 ζ=>?_;obtain⟨H9,I9,q9⟩:=ζ;cases b with
   |false=>
    obtain⟨m',hm,w9⟩:=(show ∃m',m'<n/\W (i+1) m' S H9 from q9)
    exact⟨m',hm,i+1,S,_,H9,⟨Y,fq,rfl⟩,I9.unpinned,(back I9).1,(back I9).2,w9⟩
   |true=>refine aW (he _ _ _ _ _ _ s9 _ H9 _ I9 q9) λu10 s10 ζ=>?_;obtain⟨y,H10,I10,r10,hl10,hz10,m',hm,w10⟩:=ζ;refine aW (G2 _ s10 _ H10 (.ref E.heap.objs.size) [y] _ [u10] (λz H11=>H11=upd H10 E.heap.objs.size (.lst (S++[y]))) I10 rfl (.cons r10 .nil) ⟨_,S,y,rfl,rfl,hl10,hz10,rfl⟩) λ_ s11 ζ=>?_;obtain⟨_,H11,I11,_,e11⟩:=ζ;subst e11;exact⟨m',hm,i+1,S++[y],_,_,⟨Y,fq,rfl⟩,I11.unpinned,(back I11).1,(back I11).2,w10⟩
 exact codeAny_compStart_list Z (T.self _ 0 _ _ _ bV Z)
theorem EQ{y:Pos}(B:jr X g x j l):∀C b c i f,PG (cD X g j C b c i f) (.Name x y) λv d H Q=>∃n,n.length=0+1/\d.length=j.length/\IU v H n/\Q (n++d.drop (0+1)) H:=by
 intro C b c i f m s d H v u Q I r h;obtain⟨n,_,A,z,q⟩:=h;cases (show n=[aa v] from z);have D:Loc (cD X g j C b c i f).env.scope x:=B.loc.elim (λh=>.inl (lookup_relabel_local h)) (λh=>.inr (Bd h));have o:(cD X g j C b c i f).fn x=ah\/(cD X g j C b c i f).env.scope.names.lookup x=aa .local:=B.loc.elim (λh=>.inr (lookup_relabel_local h)) (λh=>.inl (by show(g.names.lookup x == aa .cell)=ah;rw[h];rfl));have p:(cD X g j C b c i f).N[0]?=aa x:=by show j[0]?=aa x;rw[<-List.head?_eq_getElem?];exact B.hd
 refine zm B.nd p D o m s d H v u Q I r ?_;show Q (d.set 0 (aa v)) H;cases d with
 |nil=>rw[mT,B.len]at A;lia
 |cons a r=>exact q
theorem Gw{f b:aC}{p pos:Pos}{d:List aC}{wi:TI}{ts:TT}{te:TE}(B:jr X g x j l)(D:X.calm=ah)(z:PI X (.Name x p) b wi)(v:∀C a c o i,qH (cD X g j C a c o i) d ts) (A:∀C a c o i,PE (cD X g j C a c o i) f te) (y:∀x,mL b X.env x=pure x:=by intro _;rfl):PE X (.ListComp f [⟨.Name x p,b,d,0⟩] g pos) (Ct wi ts te l):=by intro m s w H Q I h;rw[eval_ListComp];exact HN (use:=ae) B (jY _) D z (EQ B) v A y I h λE f3 r q=>by obtain⟨u,n,_⟩:=r.loc;exact⟨u,n,λF sb=>⟨.ref _,_,E.unblock f3 r sb,rfl,q⟩⟩
end
def Walk(J:It)(xs:List V)(R:Hp->Prop):Prop :=
 ∀H,R H->∀i,(∀x,xs[i]?=aa x->J.go i H/\∀y a,J.yld i H y a->a=H/\y=x)/\(i=xs.length->J.stop i H)
theorem Qg{K:ay}{a:af}{xs:List V}:Walk (AA K a) xs (λH=>b_ K H a xs):=λH h i=>⟨λx b=>⟨⟨xs,x,h,b⟩,λy d z=>⟨z.1,by have:=z.2 xs h;rw[b]at this;exact(dO this).symm⟩⟩,λc=>⟨xs,h,oh c.symm⟩⟩
theorem Lg{K:ay}{a:af}{xs:List V}:Walk (BI K a) xs (λH=>cL K H a xs):=λH h i=>⟨λx b=>⟨⟨xs,x,h,b⟩,λy d z=>⟨z.1,by have:=z.2 xs h;rw[b]at this;exact(dO this).symm⟩⟩,λc=>⟨xs,h,oh c.symm⟩⟩
def sG(a:Int)(n:Nat):List V:=(cr n).map λi=>V.int (a+(i:Nat))
theorem AK(a:Int)(n:Nat):(sG a n).length=n:=by simp[sG]
theorem Od{b:Int}{n:Nat}:Walk (yn b n) (sG b n) (λ_=>True):=λH _ i=>by
 refine⟨λx a=>?_,λc=>by rw[AK]at c;exact oh c.symm⟩;have d:i<n:=by have:=(c_.mp a).1;rw[AK]at this;exact this
 refine⟨d,λy g z=>⟨z.1,?_⟩⟩;unfold sG at a;rw[gZ,zC d]at a;have f:V.int (b+(i:Nat))=x:=dO a;rw[z.2,<-f]
def sg(c:Nat):V:=.str ⟨#[c]⟩
def vJ(z:Str):It:=⟨λi _=>i<z.cps.size,λi H x a=>a=H/\∃c,z.cps[i]?=aa c/\x=sg c,λi _=>i=z.cps.size⟩
theorem Q1{z:Str}:Walk (vJ z) (z.cps.toList.map sg) (λ_=>True):=λH _ i=>by
 refine⟨λx a=>?_,λd=>by show i=z.cps.size;simpa using d⟩;rw[gZ]at a;cases e:z.cps.toList[i]? with
 |none=>rw[e]at a;cases a
 |some c=>
  rw[e]at a;have f:i<z.cps.size:=by have:=(c_.mp e).1;simpa using this
  refine⟨f,λy h w=>⟨w.1,?_⟩⟩;obtain⟨g,b,rfl⟩:=w.2;have:z.cps[i]?=aa c:=by simpa using e
  rw[this]at b;cases b;exact(dO a)
section
variable{X:Cx}{a:aC}
theorem Sq{P:aN}{w:aG}{K:ay}{z:Str}{d:af}{f:Nat->aB->Prop} (S:∀i h,f i h->∃o n r,h.get? d=aa o/\o.cls=.type n/\o.data=.fields r /\ ["enumerate","zip","dict_itemiterator","dict_reverseitemiterator","odict_iterator","itertools.zip_longest","itertools.pairwise"].contains n=aj)(Vc:∀(A:aT) (i:Nat) (s:am) (Q:ai->am->Prop) (E:ai->am->Prop),f i s.heap->Q (.ref d) s->ar (au P w) A (n8 (.ref d)) Q E s)(C:∀A:aT,A.handled=ae->Walks P w A d [d] [d] z.cps.size (SignAt z) f):sC P w K a (vJ z) [d] d f where
 mem:=by simp
 obj:=λi h g b j=>by
  have e:b=d:=by simpa using j
  subst e;obtain⟨o,n,r,J,_,G,_⟩:=S i h g;exact⟨o,J,λv q=>by rw[G]at q;cases q⟩
 keep:=λi h m g k=>by exact(C ({}:aT) rfl).frame i h m g k
 item:=by intro X D x F B i T s O H E I p g y;subst D x F;obtain⟨N,M,f2,f3,f4,L⟩:=p d (by simp);refine(C X.A (I.ok.hd B)).item i s _ _ y g λv m l Z W k=>?_;have I1:Inv X T O H {s with heap:=m,toks:=l}:=I.turned (t':=l) (λb o j e=>k b o (~~~j) e) N M f3 f4 L;obtain⟨o,n,r,J,h2,G,h4⟩:=S _ _ W;obtain⟨c,u,e1,rfl⟩:=Z;exact⟨_,rfl,uI (s:={s with heap:=m,toks:=l}) J h2 G h4 ⟨sg c,H,I1,⟨u,rfl⟩,⟨rfl,c,e1,rfl⟩,W,λb j=>(p b j).1⟩⟩
 done:=by intro X D x F B i T s O H E I p g y;subst D x F;obtain⟨N,M,f2,f3,f4,L⟩:=p d (by simp);have Y:i=z.cps.size:=y;subst Y;exact(C X.A (I.ok.hd B)).done s _ _ g λm l k=>⟨rfl,I.turned (t':=l) (λb o j e=>k b o (~~~j) e) N M f3 f4 L⟩
 self:=Vc
theorem Hx{J:It}{xs:List V}{R:Hp->Prop}{g:TG}{l:TS}{D:lG}{b:St}{H:Hp}(B:Walk J xs R)(c:Nat->St->Hp->Prop)(C:c 0 b H)(w:∀i b H,i<=xs.length->c i b H->R H)(v:∀i x b H,xs[i]?=aa x->c i b H->g x b H λf j=>l {D with nx:=c (i+1),ct:=c (i+1),bk:=D.nx} f j) (A:∀b H,c xs.length b H->D.nx b H):∃W:Nat->Nat->St->Hp->Prop,(∃m,W 0 m b H)/\∀i m b H,W i m b H -> (J.stop i H/\D.nx b H)\/(J.go i H/\∃N:St->Hp->Prop,(∀h d,N h d->∃n,n<m/\W (i+1) n h d)/\∀x d,J.yld i H x d->g x b d λf j=>l {D with nx:=N,ct:=N,bk:=D.nx} f j):=by
 refine⟨λi m b H=>m=xs.length-i/\i<=xs.length/\c i b H,⟨xs.length,by simp,jY _,C⟩,?_⟩;rintro i m b H ⟨rfl,z,p⟩;have q:=B H (w i b H z p) i;by_cases r:i<xs.length
 .have o:xs[i]?=aa xs[i]:=by simp[r]
  obtain⟨E,s⟩:=q.1 xs[i] o;refine .inr ⟨E,c (i+1),λh d u=>⟨xs.length-(i+1),∅,rfl,r,u⟩,λx d y=>?_⟩;obtain⟨rfl,rfl⟩:=s x d y;exact v i _ b _ o p
 .have e:i=xs.length:=∅
  subst e;exact .inl ⟨q.2 rfl,A b H p⟩
theorem T9{b:Type}(l:List b)(f:b->Bool)(d:Nat->Bool)(c:∀i x,l[i]?=aa x->d i=f x):(cr l.length).all d=l.all f:=by
 induction l generalizing d with
 |nil=>rfl
 |cons x r g=>rw[cE,CY,tI,CZ,tI,c 0 x rfl];congr 1;exact g _ λi y h=>c (i+1) y (~~~h)
theorem Uw{bs:List Bool}{b:List ai}(r:bt (bs.map V.bl) b){i:Nat}{v:ai}(h:b.toArray[i]?=aa v):v=.bool (bs.getD i aj):=by
 have d:=r.length;rw[cN]at d;have g:i<b.length:=by have:=(mV.mp h).1;simpa using this
 have e:(bs.map V.bl)[i]?=aa (.bl (bs.getD i aj)):=by rw[gZ,eM ∅];simp[List.getD,eM (show i<bs.length by lia)]
 obtain⟨u,c,f⟩:=r.get e;have:b[i]?=aa v:=by simpa using h
 rw[this]at c;cases c;exact f
theorem uC{A:aT}(h:A.handled=ae):A.in1.handled=ae:=h
theorem Ic(j:X.calm=ah):d4 X (.builtin "all") (λxs H Q=>∃(p:af) (bs:List Bool),xs=[.ref p]/\b_ X.K H p (bs.map V.bl)/\Q (.bl (bs.all id)) H):=by
 intro M s n H xs O Q I r h;obtain⟨p,bs,rfl,E,q⟩:=h;obtain⟨u,rfl,y⟩:=vals1 r;cases y;obtain⟨d,l,f,S⟩:=I.list E;have m:=l.length;rw[cN]at m;refine call_all_walk (Jw f.isList ?_);have L:p≠s.heap.objs.size:=by obtain⟨o,g,_⟩:=f.isList;exact cZ (bC g)
 refine⟨s.heap.objs.size,_,_,_,_,_,λi=>bs.getD i aj,rfl,Walks.list (uC (I.ok.hd j)) s.heap.objs.size p L d.toArray,⟨⟨_,cz _ rfl,rfl,rfl⟩,?_⟩,λi v P W Y D K=>?_,λT w k=>?_⟩
 .obtain⟨o,g,j,G⟩:=f.isList;exact⟨o,bw _ g,j,G⟩
 .rw[Uw l D];exact pe K
 .have e:(cr d.toArray.size).all (λi=>bs.getD i aj)=bs.all id:=by
   rw[cM,<-m];exact T9 bs id _ λi x C=>by simp[List.getD,C]
  rw[e];have N:Inv X M n H {s with heap:=s.heap.push {cls:=.type "list_iterator",data:=.fields #[.ref p,.int 0 0]},toks:=s.toks}:=I.kept (t':=s.toks) λb o e=>bw _ e;exact⟨.bl _,H,Inv.turned (t':=w) N (it:=s.heap.objs.size) (λb o J e=>k b o (~~~J) e) I.fresh (tE I.lt) (.inr I.sz) (λx c e z=>by obtain⟨v,A⟩:=I.cell x c e;exact absurd A.lt (by rw[z];exact fj _)) (λB F z=>absurd (bC (I.pin B F).1) (by rw[z];exact fj _)),rfl,q⟩
end
section
variable{X:Cx}
def mw(z:Str)(a b:Option Int):Str:=⟨((z.cps.toList.drop (HT.sIx z.length 0 a)).take (HT.sIx z.length z.length b-HT.sIx z.length 0 a)).toArray⟩
theorem RA(a b:Nat):sliceRange (a:Int) (b:Int) 1=(cr (b-a)).map λk=>a+k:=by
 unfold sliceRange;have e:(if(1:Int) > 0 then(if(a:Int)<(b:Int)then((b:Int)-a+1-1) / 1 else 0)else(if(a:Int) > b then((a:Int)-b-1-1) / (-1)else 0)).toNat=b-a:=by
  rw[if_pos (by decide)];split
  .rw[Int.ediv_one];lia
  .have:b-a=0:=∅
   rw[this];rfl
 show(cr (if(1:Int) > 0 then(if(a:Int)<(b:Int)then((b:Int)-a+1-1) / 1 else 0)else(if(a:Int) > b then((a:Int)-b-1-1) / (-1)else 0)).toNat).map _=_;rw[e];refine ji λk _=>?_;lia
theorem Md(a b:Option Int)(n:Nat):Builtin.Str.strSliceIndices a b 1 n=(cr (HT.sIx n n b-HT.sIx n 0 a)).map λk=>HT.sIx n 0 a+k:=by
 rw[<-RA];have p:(1:Int) > 0:=by decide
 cases a <;> cases b <;> (unfold Builtin.Str.strSliceIndices HT.sIx;simp only[p,if_true];congr 1 <;> (try split) <;> lia)
theorem NI{b:Type}(l:List b)(a k:Nat):((cr k).map λj=>a+j).filterMap (λi=>l[i]?)=(l.drop a).take k:=by
 induction k with
 |zero=>simp
 |succ k c=>
  rw[v3,pt,List.filterMap_append,c,List.take_succ];congr 1;simp[mJ];cases l[a+k]? <;> rfl
theorem NF(z:Str)(t:Tok)(l u:Option (Int×Tok)):∃m,sliceMade z t l u ae=m/\(m=.val (.str z t)/\mw z (l.map (·.1)) (u.map (·.1))=z\/m=.str (mw z (l.map (·.1)) (u.map (·.1)))):=by
 refine⟨_,rfl,?_⟩;unfold sliceMade slicePicked;have e:=Md (l.map (·.1)) (u.map (·.1)) z.length;simp only[Option.map_none,Jp];rw[e];have d:=NI z.cps.toList (HT.sIx z.length 0 (l.map (·.1))) (HT.sIx z.length z.length (u.map (·.1))-HT.sIx z.length 0 (l.map (·.1)));have b:(((cr (HT.sIx z.length z.length (u.map (·.1))-HT.sIx z.length 0 (l.map (·.1)))).map λk=>HT.sIx z.length 0 (l.map (·.1))+k).filterMap (z.cps[·]?)).toArray=(mw z (l.map (·.1)) (u.map (·.1))).cps:=by unfold mw;rw[<-d];simp
 split
 .rename_i h;left;refine⟨rfl,?_⟩;simp only[beq_self_eq_true,Bool.true_and,cN,Jx,beq_iff_eq]at h;have g:HT.sIx z.length z.length (u.map (·.1))<=z.length:=HT.sIx_le _ _ (aZ _) _;have f:z.cps.toList.length=z.length:=by simp[Str.length]
  have a:HT.sIx z.length 0 (l.map (·.1))=0\/z.length=0:=∅
  unfold mw;rw[h];rcases a with a|a
  .rw[a,C0,pA ∅]
  .have:z.cps.toList=[]:=pB ∅;rw[this];cases z;rename_i c;simp at this;subst this;simp
 .right;rw[show(⟨(((cr (HT.sIx z.length z.length (u.map (·.1))-HT.sIx z.length 0 (l.map (·.1)))).map λk=>HT.sIx z.length 0 (l.map (·.1))+k).filterMap (z.cps[·]?)).toArray⟩:Str)=mw z (l.map (·.1)) (u.map (·.1))from by rw[b]]
def GP:V->Option Int->Option Int->Hp->VK->Prop:=λx a b H Q=>∃z,x=.str z/\z.length<=bf/\Q (.str (mw z a b)) H
theorem TJ(z:Str)(a b:Option Int):(mw z a b).length<=z.length:=by unfold mw Str.length;simp;lia
theorem part_of{v:ai}{o:Option Int}(p:lT v o):∃q:Option (Int×Tok),v=partValue q/\q.map (·.1)=o:=by
 cases p with
 |none=>exact⟨ae,rfl,rfl⟩
 |int i t=>exact⟨aa (i,t),rfl,rfl⟩
theorem Vo:lD X GP:=by
 intro y s n H x v p o r w a Q I b g d c h;obtain⟨z,rfl,f,q⟩:=h;obtain⟨t,rfl⟩:=b;obtain⟨l,rfl,rfl⟩:=part_of d;obtain⟨u,rfl,rfl⟩:=part_of c;refine⟨"str",_,F.slot_str_getitem.lookup,typeIs_str s z t,?_⟩;obtain⟨m,j,i⟩:=NF z t l u;refine getItem_meets (typeIs_str s z t) (by decide) F.slot_str_getitem F.entry_str_getitem (F.args_str_getitem_2 _ _) (meets_str_getitem_slice z t a l u ae (by decide)) ⟨g,?_⟩;rw[j];rcases i with⟨rfl,e⟩|rfl
 .exact⟨.str z,H,I,⟨t,rfl⟩,by rw[e]at q;exact q⟩
 .exact⟨cX (TJ z _ _) f,⟨.str _,H,I.tok _,⟨_,rfl⟩,q⟩⟩
def i7(K:ay)(H:Hp)(d:Nat)(x y:V)(k:Bool):Prop :=
 ∀(X:Cx),X.K=K->∀(b:List (af×Obj)) (a:St) (s:am) (u v:ai) (A:aT),Inv X b a H s->RelV x u->RelV y v->A.units+d<cLine->vX A s u v k
theorem Mh{K:ay}{H:Hp}{d:Nat}{x y:V}(f:gQ x=ah)(c:gQ y=ah):i7 K H d x y (fS x y):=λ_ _ _ _ _ _ _ _ _ b a _=>Gi b a f c
def gB(e:Nat->Bool)(n m:Nat):Bool:=(cr (min n m)).all e&&n == m
theorem IR{A:aT}:A.in1.units=A.units+1:=rfl
theorem Bj{H:Hp}{d:Nat}{a b:af}{xs c:List V}{e:Nat->Bool}{E:List (af×Obj)}{o:St}{s:am}{A:aT}(I:Inv X E o H s)(M:b_ X.K H a xs)(L:b_ X.K H b c)(K:∀(j:Nat) x y,xs[j]?=aa x->c[j]?=aa y->i7 X.K H d x y (e j)) (Q:A.units+(d+1)<cLine):SeqAt.RcAt A s (.ref a) (.ref b) (gB e xs.length c.length)/\SeqAt.RcNeAt A s (.ref a) (.ref b) (!gB e xs.length c.length):=by
 obtain⟨g,q,n,_⟩:=I.list M;obtain⟨i,p,f,_⟩:=I.list L;have F:=q.length;have S:=p.length;have z:∀j (C:j<g.toArray.size) (B:j<i.toArray.size),vX A.in1 s g.toArray[j] i.toArray[j] (e j):=λj C B=>by
  have O:j<g.length:=by simpa using C
  have P:j<i.length:=by simpa using B
  have l:xs[j]?=aa xs[j]:=eM ∅;have D:c[j]?=aa c[j]:=eM ∅;obtain⟨u,w,J⟩:=q.get l;obtain⟨v,r,G⟩:=p.get D;have N:g[j]=u:=by rw[eM O]at w;exact dO w
  have f2:i[j]=v:=by rw[eM P]at r;exact dO r
  have:=K j xs[j] c[j] l D X rfl E o s u v A.in1 I J G (by rw[IR];lia);simpa[N,f2]using this
 by_cases h:xs.length=c.length
 .have m:g.toArray.size=i.toArray.size:=by simp;lia
  have l:gB e xs.length c.length=(cr g.toArray.size).all e:=by unfold gB;rw[h,Nat.min_self,beq_self_eq_true,Bool.and_true,cM,<-F,h]
  rw[l];exact⟨.lists n.isList f.isList m ∅ z,.lists n.isList f.isList m ∅ z⟩
 .have l:gB e xs.length c.length=aj:=by
   unfold gB;rw[beq_false_of_ne h,C3]
  have m:(g.toArray.size != i.toArray.size)=ah:=by simp;lia
  rw[l];exact⟨.lists_lengths n.isList f.isList m ∅,.lists_lengths n.isList f.isList m ∅⟩
theorem Co{H:Hp}{d:Nat}{a b:af}{xs c:List V}{e:Nat->Bool}{C:List (af×Obj)}{l:St}{s:am}{A:aT}(I:Inv X C l H s)(K:cL X.K H a xs)(J:cL X.K H b c)(G:∀(j:Nat) x y,xs[j]?=aa x->c[j]?=aa y->i7 X.K H d x y (e j)) (P:A.units+(d+1)<cLine):SeqAt.RcAt A s (.ref a) (.ref b) (gB e xs.length c.length)/\SeqAt.RcNeAt A s (.ref a) (.ref b) (!gB e xs.length c.length):=by
 obtain⟨g,n,q,_⟩:=I.tuple K;obtain⟨f,m,h,_⟩:=I.tuple J;have D:=n.length;have L:=m.length;have r:∀j (z:j<g.toArray.size) (w:j<f.toArray.size),vX A.in1 s g.toArray[j] f.toArray[j] (e j):=λj z w=>by
  have N:j<g.length:=by simpa using z
  have O:j<f.length:=by simpa using w
  have i:xs[j]?=aa xs[j]:=eM ∅;have B:c[j]?=aa c[j]:=eM ∅;obtain⟨u,p,F⟩:=n.get i;obtain⟨v,o,E⟩:=m.get B;have M:g[j]=u:=by rw[eM N]at p;exact dO p
  have f2:f[j]=v:=by rw[eM O]at o;exact dO o
  have:=G j xs[j] c[j] i B X rfl C l s u v A.in1 I F E (by rw[IR];lia);simpa[M,f2]using this
 have i:gB e xs.length c.length=((cr (min g.toArray.size f.toArray.size)).all e&&g.toArray.size == f.toArray.size):=by unfold gB;rw[cM,cM,<-D,<-L]
 rw[i];exact⟨.tuples q h ∅ r,.tuples q h ∅ r⟩
theorem KG{K:ay}{H:Hp}{d:Nat}{a b:af}{xs c:List V}{e:Nat->Bool}(m:b_ K H a xs)(l:b_ K H b c)(o:a≠b)(i:∀(j:Nat) x y,xs[j]?=aa x->c[j]?=aa y->i7 K H d x y (e j)):i7 K H (d+1) (.ref a) (.ref b) (gB e xs.length c.length):=λX n q p s u v A I g f h=>by
 subst n;cases g;cases f;exact .of_refs o (Bj I m l i h).1
theorem M_{K:ay}{H:Hp}{d:Nat}{a b:af}{xs c:List V}{e:Nat->Bool}(m:cL K H a xs)(l:cL K H b c)(o:a≠b)(i:∀(j:Nat) x y,xs[j]?=aa x->c[j]?=aa y->i7 K H d x y (e j)):i7 K H (d+1) (.ref a) (.ref b) (gB e xs.length c.length):=λX n q p s u v A I g f h=>by
 subst n;cases g;cases f;exact .of_refs o (Co I m l i h).1
theorem EU{K:ay}{H:Hp}{d:Nat}{a:af}:i7 K H d (.ref a) (.ref a) ah:=λX h i f s u v A I c b g=>by
 cases c;cases b;exact .same _
def uU(K:ay)(f:Bool):R2:=λx y H Q=>∃a b xs c d e,x=.ref a/\y=.ref b/\((b_ K H a xs/\b_ K H b c)\/(cL K H a xs/\cL K H b c))/\d<=8 /\
 (∀(j:Nat) x y,xs[j]?=aa x->c[j]?=aa y->i7 K H d x y (e j))/\Q (.bl (if f then !gB e xs.length c.length else gB e xs.length c.length)) H
theorem La(m:X.A.units+64<cLine):bT X (dX .Eq) (uU X.K aj):=by
 intro o s j H x y v u Q I g f h;obtain⟨a,b,xs,l,d,e,rfl,rfl,i,n,c,q⟩:=h;cases g;cases f;rcases i with⟨h1,h2⟩|⟨h1,h2⟩
 .exact(Bj I h1 h2 c ∅).1 _ _ _ _ ⟨.bl _,H,I,rfl,q⟩
 .exact(Co I h1 h2 c ∅).1 _ _ _ _ ⟨.bl _,H,I,rfl,q⟩
theorem Rg(m:X.A.units+64<cLine):bT X (dX .NotEq) (uU X.K ah):=by
 intro o s j H x y v u Q I g f h;obtain⟨a,b,xs,l,d,e,rfl,rfl,i,n,c,q⟩:=h;cases g;cases f;rcases i with⟨h1,h2⟩|⟨h1,h2⟩
 .exact(Bj I h1 h2 c ∅).2 _ _ _ _ ⟨.bl _,H,I,rfl,q⟩
 .exact(Co I h1 h2 c ∅).2 _ _ _ _ ⟨.bl _,H,I,rfl,q⟩
def NX(K:ay):V->List V->Hp->VK->Prop:=λx a H Q=>∃(p:af) (xs:List V) (y:V),x=.ref p/\a=[y]/\H p=aa (.lst xs)/\gQ y=ah/\xs.all gQ=ah/\Q (.int ((xs.countP λz=>fS z y:Nat):Int)) H
theorem SY{y:V}{xs:List V}{a:List ai}(r:bt xs a)(f:xs.all gQ=ah):a.countP (ki y)=xs.countP λz=>fS z y:=by
 unfold bt at r
 induction r with
 |nil=>rfl
 |cons r _ g=>rw[tI,g7]at f;rw[List.countP_cons,List.countP_cons,xN r f.1,g f.2]
theorem Nq:zk X "list.count" (NX X.K):=by
 intro B s l H x m v o Q I c d h;obtain⟨p,xs,y,rfl,rfl,i,j,b,q⟩:=h;cases c;obtain⟨u,rfl,f⟩:=d.one;obtain⟨z,a,n,r,A,e⟩:=I.lstM i;refine rh F.slot_list_count ⟨_,e,rfl⟩ F.entry_list_count (F.args_list_count_2 _ _) (SeqAt.list_countAt p a.toArray n ae #[] u (ki y)) ⟨e,λw g=>xA f j r b w (~~~g),?_⟩;exact⟨.int _,H,I.tok _,⟨_,by rw[v4,SY r b]⟩,q⟩
def P4:V->List V->Hp->VK->Prop:=λx a H Q=>∃(p:af) (xs:List V) (y:V) (j:Nat),x=.ref p/\a=[y]/\H p=aa (.lst xs)/\gQ y=ah/\xs.all gQ=ah/\j<xs.length /\
 (∀z,xs[j]?=aa z->fS z y=ah)/\(∀(i:Nat) z,i<j->xs[i]?=aa z->fS z y=aj)/\Q (.int j) H
theorem QU:zk X "list.index" P4:=by
 intro ag s S H x T v W Q I A B h;obtain⟨p,xs,y,j,rfl,rfl,J,N,l,hj,M,L,q⟩:=h;cases A;obtain⟨u,rfl,C⟩:=B.one;obtain⟨z,a,n,r,Z,e⟩:=I.lstM J;have Y:=uX;have c:∀(i:Nat) (g:i<a.toArray.size),∃w,xs[i]?=aa w/\ki y a.toArray[i]=fS w y:=λi g=>by
  have K:i<a.length:=by simpa using g
  have o:xs[i]?=aa xs[i]:=eM ∅;obtain⟨w,b,D⟩:=r.get o;have P:a[i]=w:=by rw[eM K]at b;exact dO b
  refine⟨_,o,?_⟩;have O:gQ xs[i]=ah:=tP.mp l _ (v6 _);rw[<-xN D O];simp[P]
 refine rh F.slot_list_index ⟨_,e,rfl⟩ F.entry_list_index (F.args_list_index_2 _ _) (SeqAt.list_indexAt p a.toArray n ae #[] u (ki y) j (by simp;lia) ∅ ?_ ?_) ⟨e,λw E=>xA C N r l w (~~~E),?_⟩
 .obtain⟨w,b,d⟩:=c j (by simp;lia);rw[d];exact M w b
 .intro m G f;obtain⟨w,b,d⟩:=c m G;rw[d];exact L m w f b
 .exact⟨.int _,H,I.tok _,⟨_,rfl⟩,q⟩
end
abbrev Tx:=List Nat
def tS(l:Tx):Str:=⟨l.toArray⟩
def tV(l:Tx):V:=.str (tS l)
def cR(a:List Tx):List V:=a.map tV
theorem jw(l:Tx):(tS l).cps.toList=l:=by simp[tS]
theorem kT(l:Tx):(tS l).length=l.length:=by simp[tS,Str.length]
theorem sN(z:Str):tS z.cps.toList=z:=by cases z;simp[tS]
theorem xV{a b:Tx}(h:tS a=tS b):a=b:=by rw[<-jw a,h,jw]
theorem BY(a:List Tx):(cR a).length=a.length:=cN _
def dU(a b:Tx):Bool:=decide (a<=b)
def cb(ls:List Tx):List Tx:=ls.mergeSort dU
theorem F_(a b c:Tx)(f:dU a b=ah)(d:dU b c=ah):dU a c=ah:=by simp only[dU,decide_eq_true_eq]at *;exact List.le_trans f d
theorem ND(a b:Tx):(dU a b||dU b a)=ah:=by simp only[dU,C5,decide_eq_true_eq];exact List.le_total a b
theorem Rn{a b:Tx}(d:dU a b=ah)(c:dU b a=ah):a=b:=by simp only[dU,decide_eq_true_eq]at *;exact List.le_antisymm d c
theorem nB(a:List Tx):(cb a).Perm a:=zD _ _
theorem yS(ls:List Tx):(cb ls).Pairwise (λa b=>dU a b=ah):=Jy F_ ND _
theorem RJ(a:List Tx):(cb a).length=a.length:=(nB a).length_eq
theorem yP{c d:List Tx}(g:d.Perm c)(f:d.Pairwise (λa b=>dU a b=ah)):d=cb c :=Jz (le:=λa b=>dU a b=ah) (λ_ _ _ _ i h=>Rn i h) f (yS c) (g.trans (nB c).symm)
theorem HM{c:List Tx}(d:c.Pairwise (λa b=>dU a b=ah)):cb c=c:=(yP (tQ c) d).symm
theorem L5{a b:List Tx}(c:a.Perm b):cb a=cb b:=yP ((nB a).trans c) (yS a)
theorem F7:∀(p:Str) (l:List Str),risingS p l=ah->(p::l).Pairwise (λa b=>dU a.cps.toList b.cps.toList=ah)
 |p,[],_=>List.pairwise_singleton _ _
 |p,x::r,h=>by
  have d:(!ltCps x.cps.toList p.cps.toList&&risingS x r)=ah:=h;rw[g7,ltCps_eq]at d;have q:=F7 x r d.2;have f:dU p.cps.toList x.cps.toList=ah:=by simp only[dU,decide_eq_true_eq];intro g;simp[g]at d
  refine List.pairwise_cons.mpr ⟨λy c=>?_,q⟩;rcases bn.mp c with rfl|c
  .exact f
  .exact F_ _ _ _ f (List.rel_of_pairwise_cons q c)
theorem Ud{c:List Str}(h:sortedS c=ah):(c.map λz=>z.cps.toList).Pairwise (λa b=>dU a b=ah):=by
 rw[tR];cases c with
 |nil=>exact List.Pairwise.nil
 |cons x r=>exact F7 x r h
theorem uB{a:List Tx}{b:List ai}(r:bt (cR a) b):c8 b (a.map tS):=by
 induction a generalizing b with
 |nil=>cases r;exact .nil
 |cons l a g=>
  cases r with
  |cons e r=>obtain⟨t,rfl⟩:=e;exact .cons _ t (g r)
theorem Qz{b:List Str}{a:List ai}(h:c8 a b):bt (cR (b.map λz=>z.cps.toList)) a:=by
 induction h with
 |nil=>exact .nil
 |cons y t _ g=>exact .cons ⟨t,by rw[sN]⟩ g
section
variable{X:Cx}
theorem OD(z:Tx)(n:Nat):Txt.mul (tS z) (n:Int)=tS (bE n z).flatten:=by
 unfold Txt.mul;cases n with
 |zero=>simp[tS,kq]
 |succ n=>
  rw[if_neg ∅];split
  .rename_i h;simp only[C5,beq_iff_eq]at h;rcases h with h|h
   .have:n=0:=∅
    subst this;simp
   .rw[kT]at h;have:z=[]:=pB h;subst this;simp
  .unfold tS;congr 1;have b:∀(k:Nat) (a:Array Nat),(bE k z.toArray).foldl (·++·) a=a++(bE k z).flatten.toArray:=by
    intro k
    induction k with
    |zero=>intro a;simp
    |succ k c=>intro a;rw[pr,jX,c,pr,tJ];simp[Array.append_assoc]
   have e:=b (n+1) #[];simp only[lS];simpa using e
theorem QK:bT X (il .Mult) (λx y H Q=>∃(z:Tx) (n:Nat),x=tV z/\y=.int n/\n<=100/\z.length<=100/\Q (tV (bE n z).flatten) H):=by
 intro w s j H x y v u Q I c b h;obtain⟨z,n,rfl,rfl,f,d,q⟩:=h;obtain⟨t,rfl⟩:=c;obtain⟨m,rfl⟩:=b;refine SB.mul ?_ λl k=>?_
 .have o:z.length*n<=10000:=cX (tT d f) (by decide);refine⟨by rw[Bool.or_eq_false_iff];constructor <;> (apply decide_eq_false;lia),λi _=>?_,λi _=>?_⟩
  .rw[kT];intro g;have r:(2^63-1:Int) / n ≥ (2^63-1) / 100:=by
    have a:(0:Int)<n:=∅
    apply (Int.le_ediv_iff_mul_le a).mpr;have:((2^63-1:Int) / 100)*n<=((2^63-1) / 100)*100:=Int.mul_le_mul_of_nonneg_left ∅ (by decide);refine Int.le_trans this (by decide)
   have p:((2^63-1:Int) / 100) > 1000:=by decide
   lia
  .rw[kT,lS];unfold Builtin.Str.tooLong;apply decide_eq_false;have:10000<bf:=by rw[lO];decide
   lia
 .rw[OD];exact⟨tV _,H,I.tok _,⟨_,rfl⟩,q⟩
end
theorem OJ(t:cp)(j:Nat):(t.put j).1.led=t.led/\(t.put j).1.plain=t.plain:=⟨rfl,rfl⟩
theorem KQ(t:cp)(n:Nat):(t.orStandIn n).led=t.led/\((t.orStandIn n).plain=t.plain\/(t.orStandIn n).plain=aj):=by
 unfold SetTable.orStandIn;split
 .exact⟨rfl,.inl rfl⟩
 .exact⟨rfl,.inr rfl⟩
theorem Ma(t:cp)(c:Array (Int×ai))(h:Int)(x:ai):(layNew t c h x).2.1.led=t.led/\((layNew t c h x).2.1.plain=t.plain\/(layNew t c h x).2.1.plain=aj):=by
 unfold layNew;split
 .rename_i a b _;have f:=OJ t a;have d:=KQ (t.put a).1 (rj c (t.put a).2 (h,x)).size;exact⟨d.1.trans f.1,by rw[<-f.2];exact d.2⟩
 .exact⟨rfl,.inr rfl⟩
theorem Qr(t:cp)(c:Array (Int×ai))(a:Nat)(d:t.plain=aj):(tU t c a).2.1.led=t.led/\(tU t c a).2.1.plain=aj:=by
 unfold tU;split
 .rename_i t' b e;have q:t'.led=t.led/\t'.plain=t.plain:=by
   unfold SetTable.relaid C7 at e;cases q:C8 (JA a-1) (c.map (·.1))with
   |none=>rw[q]at e;cases e
   |some f=>rw[q]at e;cases e;exact⟨rfl,rfl⟩
  dsimp only;split
  .exact⟨q.1,q.2.trans d⟩
  .exact⟨rfl,rfl⟩
 .exact⟨rfl,rfl⟩
def eF(w:aG):Bool:=w.params.followText "set-order"
structure lh(P:aN)(w:aG)(h:aB)(a:af)(ks:List Str):Prop where
 ex:∃(es:Array (Int×ai)) (ep:Nat) (t:cp) (ss:List Str),h.get? a=aa {cls:=.type "set",dict:=ae,data:=.set es ep t}/\c8 (es.toList.map (·.2)) ss/\ss.Perm ks/\ElemsOf (gG P w) es.toList /\
  es.size<4090/\t.fits es.size=ah/\t.led=(!eF w)/\(ks≠[]->t.plain=aj)
theorem lh.at{P:aN}{w:aG}{h h':aB}{a:af}{ks:List Str}(S:lh P w h a ks)(k:∀o,h.get? a=aa o->h'.get? a=aa o):lh P w h' a ks:=by obtain⟨es,ep,t,ss,e,r⟩:=S.ex;exact⟨es,ep,t,ss,k _ e,r⟩
theorem Hs:∀{a:List ai}{b:List Str},c8 a b->∀x,x∈b↔∃t,Value.str x t∈a
 |_,_,.nil,x=>by simp
 |_,_,.cons y t h,x=>by
  rw[bn,Hs h x];constructor
  .rintro(rfl|⟨t',q⟩)
   .exact⟨t,fK ..⟩
   .exact⟨t',eJ _ q⟩
  .rintro⟨t',q⟩;rcases bn.mp q with q|q
   .cases q;exact .inl rfl
   .exact .inr ⟨t',q⟩
theorem AQ:∀{a b:List ai},a.Perm b->∀{c:List Str},c8 b c->∃d,c8 a d/\d.Perm c:=by intro a b p c h;refine⟨a.map strOf,strsAre_map a λv f=>h.all v (p.mem_iff.mp f),?_⟩;have:=p.map strOf;rwa[h.strs]at this
section
variable{P:aN}{w:aG}{A:aT}{E:ai->am->Prop}{s:am}
def kc(ks:List Str)(x:Str):List Str:=if x∈ks then ks else ks++[x]
theorem lh.put{h:aB}{a:af}{c es':Array (Int×ai)}{b:Nat}{t t':cp}(e:h.get? a=aa {cls:=.type "set",dict:=ae,data:=.set c b t}):(h.update a (Obj.putSet es' t')).get? a=aa {cls:=.type "set",dict:=ae,data:=.set es' (b+1) t'}:=by have:=pC (Obj.putSet es' t') e (by rw[putSet_of es' t' rfl];rfl);rw[putSet_of es' t' rfl]at this;exact this
theorem Ml{a:af}{ks:List Str}{x:Str}{g:Tok}{Q:Bool->am->Prop}(S:lh P w s.heap a ks)(hn:ks.length<4000)(h:∀l b,ko a s.heap l->lh P w l a (kc ks x)->Q b {s with heap:=l}):ar (au P w) A (C9 a (.str x g) ((gG P w).hash x)) Q E s:=by
 obtain⟨m,ep,t,ss,O,T,hp,B,hsz,hf,l6,dv⟩:=S.ex;have v:∀y t',(gG P w).is x (.str y t')=decide (y=x):=λy t'=>by
  show qX x (.str y t')=_;rw[mM];simp[qX]
  try exact eq_comm
 have lv:(gG P w).is x (.str x g)=ah:=by rw[v];simp
 have hb:m.size<scanBound:=tL hsz (by decide);unfold C9 setAddHashedIn;refine jW (aq (lU O rfl hf ?_));dsimp only;rw[byScan_of (knd:=gG P w) (x:=.str x g) rfl hb B];simp only[if_true];unfold setAddByScan;refine aq (aq (mW (aq (wpAny_setScan_of lv O rfl hf B ?_))));have p:x∈ks↔∃e∈m.toList,(gG P w).is x e.2=ah:=by
  rw[<-hp.mem_iff,Hs T x];constructor
  .rintro⟨t',q⟩;obtain⟨e,G,ee⟩:=b8.mp q;exact⟨e,G,by rw[ee,v];simp⟩
  .rintro⟨e,G,q⟩;obtain⟨y,t',ey⟩:=T.all e.2 (b8.mpr ⟨e,G,rfl⟩);rw[ey,v]at q;have:y=x:=of_decide_eq_true q;subst this;exact⟨t',b8.mpr ⟨e,G,ey⟩⟩
 have klen:ks.length=m.size:=by
  have X:=hp.length_eq;have W:ss.length=m.size:=by rw[<-T.strs];simp
  lia
 cases hr:List.findIdx? (λe=>(gG P w).is x e.2) m.toList with
 |some j=>dsimp only;obtain⟨hj,hpj,_⟩:=UX.mp hr;have N:x∈ks:=p.mpr ⟨_,v6 hj,hpj⟩;refine aD (aD ?_);exact h s.heap _ (JB a s.heap) (by unfold kc;rw[if_pos N];exact S)
 |none=>
  dsimp only;have N:¬x∈ks:=λhm=>by obtain⟨e,G,q⟩:=p.mp hm;have:=List.findIdx?_eq_none_iff.mp hr e G;rw[q]at this;exact Bool.noConfusion this
  have H:∀(b:Bool) {i:am}{Q':Unit->am->Prop},Q' () i->ar (au P w) A (match b with|ah=>rule "set.scan.the-table-gave-way" |aj=>pure ()) Q' E i :=
   λb i Q' hq=>by cases b <;> first|exact aD hq|exact mW hq
  have D:=layNew_perm t m ((gG P w).hash x) (.str x g);have J:=layNew_fits t m ((gG P w).hash x) (.str x g);have Z:=Ma t m ((gG P w).hash x) (.str x g);generalize hL:layNew t m ((gG P w).hash x) (.str x g)=L at D J Z ⊢;obtain⟨c,t1,f,gave⟩:=L;dsimp only at D J Z ⊢;rw[tW]at D;have u:ElemsOf (gG P w) c.toList:=(B.push lv rfl).perm D;have Ea:c.size=m.size+1:=by have:=D.length_eq;simpa using this
  have hS1:∃F,c8 (c.toList.map (·.2)) F/\F.Perm (kc ks x):=by
   have p1:=D.map (λe:Int×ai=>e.2);rw[pt]at p1;have q1:c8 (m.toList.map (·.2)++[Value.str x g]) (ss++[x]):=by
    have gen:∀{vs:List ai}{Y:List Str},c8 vs Y->c8 (vs++[Value.str x g]) (Y++[x]):=by
     intro vs Y hh
     induction hh with
     |nil=>exact .cons x g .nil
     |cons y t _ ih=>exact .cons y t ih
    exact gen T
   obtain⟨F,M,K⟩:=AQ p1 q1;refine⟨F,M,K.trans ?_⟩;unfold kc;rw[if_neg N];exact hp.append_right _
  obtain⟨F,M,K⟩:=hS1;have cH:kc ks x≠[]:=by unfold kc;rw[if_neg N];simp
  have o:∀d:cp,d.fits c.size=ah->d.led=(!eF w)->d.plain=aj->ar (au P w) A (do
    storeSet a c d
    if(!f&&d.tooFull)=ah then do
      (match (tU d c (ol c.size)).2.2 with|ah=>rule "set.scan.the-table-gave-way" |aj=>pure ())
      storeSet a (tU d c (ol c.size)).1 (tU d c (ol c.size)).2.1
      pure (aa ah)
     else pure (aa ah)) (λr s'=>∃l,r=aa ah/\s'={s with heap:=l}/\ko a s.heap l/\lh P w l a (kc ks x)) E s:=by
   intro d hf2 g_ eC;refine aq (C_ O rfl ?_ (Da (tL (show c.size<4090 by lia) (by decide))));have o1:=lh.put (es':=c) (t':=d) O;have iX:=pD s.heap a (Obj.putSet c d);split
   .have I:=relayAll_perm d c (ol c.size);have z:=relayAll_fits d c (ol c.size);have n:=Qr d c (ol c.size) eC;generalize hRl:tU d c (ol c.size)=Rl at I z n ⊢;obtain⟨C,t3,gave2⟩:=Rl;dsimp only at I z n ⊢;have hsz2:C.size=c.size:=by have:=I.length_eq;simpa using this
    refine aq (H _ ?_);refine aq (C_ o1 rfl ?_ (Da (tL (show C.size<4090 by lia) (by decide))));obtain⟨ss2,u1,u2⟩:=AQ (I.map (λe:Int×ai=>e.2)) M;refine aD ⟨_,rfl,rfl,iX.trans (pD _ a _),⟨C,_,t3,ss2,lh.put o1,u1,u2.trans K,u.perm I,∅,z,n.1.trans g_,λ_=>n.2⟩⟩
   .exact aD ⟨_,rfl,rfl,iX,⟨c,_,d,F,o1,M,K,u,∅,hf2,g_,λ_=>eC⟩⟩
  have J7:t1.led=(!eF w):=Z.1.trans l6;refine aq (H _ ?_);split
  .refine aq ?_;rw[hashByValue_scannable 8 (x:=.str x g) rfl];refine aD ?_;have hk:plainKind (.str x g)=aj:=rfl;rw[hk];simp only[fo,if_false];refine aW (o {t1 with plain:=aj} (SetTable.fits_plain_off J) J7 rfl) λr s' ζ=>?_;obtain⟨l,X,W,e3,e4⟩:=ζ;subst X W;exact aD (h l _ e3 e4)
  .rename_i Eb;refine aq (aD ?_);simp only[if_true];refine aW (o t1 J J7 (~~~Eb)) λr s' ζ=>?_;obtain⟨l,X,W,e3,e4⟩:=ζ;subst X W;exact aD (h l _ e3 e4)
end
def met(val:Nat->Str)(i:Nat):List Str:=((cr i).map val).foldl kc []
theorem Hr(val:Nat->Str)(i:Nat):met val (i+1)=kc (met val i) (val i):=by unfold met;rw[v3,pt,JC];rfl
theorem Gn(val:Nat->Str){i:Nat}:∀{j:Nat},i<=j->(met val i).length<=(met val j).length
 |0,h=>by rw[show i=0 by lia];exact aZ _
 |j+1,h=>by
  by_cases e:i=j+1
  .subst e;exact aZ _
  .refine cX (Gn val (j:=j) ∅) ?_;rw[Hr];unfold kc;split
   .exact aZ _
   .simp
section
variable{P:aN}{w:aG}{A:aT}{R:Result->am->Prop}{I:af}{c a:List af}{G:Array GenState->Array GenState->Prop}{n:Nat}{d:Nat->ai->Prop}{St:Nat->am->Prop}
theorem FV(W:WalksS P w A.in1 I c a G n d St)(S:af)(C:S∉c){J:Nat->aB->Prop}(K:∀i h j,J i h->(∀b o,b∉a->h.get? b=aa o->j.get? b=aa o)->J i j)(M:∀(i:Nat) (v:ai) (s:am) (E:ai->am->Prop) (Q:Bool->am->Prop),i<n->d i v->J i s.heap->(∀j r b,s.toks<=r->ko S s.heap j->J (i+1) j->Q b {s with heap:=j,toks:=r})->ar (au P w) A.in1 (setAdd S v) Q E s):∀(k i:Nat) (s:am),n-i=k->i<=n->St i s->J i s.heap -> (∀f,Moved (S::a) G s f->J n f.heap->R (.ok (.ret .none)) f)->mO (au P w) A (.builtin "set.update.loop" ⟨[.ref S,.ref I],[]⟩) R s:=by
 have X:S∉a:=λh=>C (W.sub _ h);have F:∀b∈a,b∈S::a:=λb g=>eJ _ g;intro k
 induction k with
 |zero=>
  intro i s O T z x y;obtain rfl:i=n:=∅
  refine v8 UY ?_;rw[zE JD _];show ar _ A.in1 (mK (.ref I) >>= _) _ _ s;refine aq (W.done s _ _ z λf p=>?_);show ar _ A.in1 (ret Value.none) _ _ f;exact aD (y f (p.mono F) (K _ _ _ x λb o g e=>p.heap b o g e))
 |succ k N=>
  intro i s O T z x y;have B:i<n:=∅
  refine v8 UY ?_;rw[zE JD _];show ar _ A.in1 (mK (.ref I) >>= _) _ _ s;refine aq (W.item i s _ _ B z λv f Y l p=>?_);show ar _ A.in1 (holding [v] (setAdd S v) >>= _) _ _ f;refine aq (jW (M i v f _ _ B Y (K _ _ _ x λb o g e=>p.heap b o g e) λj r b D H L=>?_));refine aD ⟨Db JD _,N (i+1) _ ∅ B (W.frame _ f _ _ l D λb g o e=>?_) L λu m q=>?_⟩
  .rw[H.2 b (λh:b=S=>C (by rw[<-h];exact g))];exact e
  .refine y u (Moved.trans W.gtrans ((p.mono F).then_heap D λb o g e=>?_) m) q;rw[H.2 b (λh:b=S=>g (by rw[h];exact fK))];exact e
end
section
variable{P:aN}{w:aG}{A:aT}{E:ai->am->Prop}{s:am}
theorem Ol(a:ai){Q:ai->am->Prop} (h:lh P w (s.heap.push {cls:=.type "set",dict:=ae,data:=.set #[] 0 (.fresh 0 0 (!eF w))}) s.heap.objs.size [] -> Q (.ref s.heap.objs.size) {s with heap:=s.heap.push {cls:=.type "set",dict:=ae,data:=.set #[] 0 (.fresh 0 0 (!eF w))}}):mO (au P w) A (.call (.builtin "set.__new__") ⟨[.type "set",a],[]⟩) (wants Q E) s:=by
 refine codeAny_of_tree ?_;show ar _ A.in1 (do JE "set.__new__" ⟨[.type "set",a],[]⟩;again (.builtin "set.__new__" ⟨[.type "set",a],[]⟩)) _ _ s;refine aq (rm (PySem.F.newCall_set_1 a) (aD ⟨Db F.plain_set_new _,v8 F.entry_set_new ?_⟩));rw[zE F.plain_set_new _];unfold Builtin.«set.__new__» Builtin.Frozenset.newClass;have f:=sub_set_self;obtain⟨j,g,d,c,i⟩:=s;dsimp only
 wp_walk
 refine tX (aD ?_);dsimp only;simp only[newObj];refine aq (wpAny_alloc (aD ?_));refine aD (h ⟨#[],0,_,[],cz _ rfl,.nil,tQ _,λe b=>by simp at b,by decide,rfl,rfl,λh=>absurd rfl h⟩)
end
end L2
set_option maxHeartbeats 8000000
namespace L2
theorem KJ:entryFor table "set.__iter__"=aa Builtin.«frozenset.__iter__»:=entryFor_alias (id':="frozenset.__iter__") (by kernel_rfl) rfl (by decide +kernel) (by kernel_rfl)
theorem FI:Slot "set_iterator" "__next__" "set_iterator.__next__" :=
 .of (owner:="set_iterator") (n:="__next__") (by rw[typeLookup_type,builtinLookup_eq_fast];kernel_rfl) (by decide +kernel) (by decide +kernel) (by decide +kernel) (by first|exact .inl (by decide +kernel)|exact .inr (by decide +kernel)) (by rw[isSubtype_type];kernel_rfl)
theorem Oz:entryFor table "set_iterator.__next__"=aa Builtin.«set_iterator.__next__»:=entryFor_of_fast (by kernel_rfl)
theorem PQ(a:ai):argsOk "set_iterator.__next__" ⟨[a],[]⟩:=by unfold argsOk;kernel_rfl
theorem En:Slot "set_iterator" "__iter__" "set_iterator.__iter__" :=
 .of (owner:="set_iterator") (n:="__iter__") (by rw[typeLookup_type,builtinLookup_eq_fast];kernel_rfl) (by decide +kernel) (by decide +kernel) (by decide +kernel) (by first|exact .inl (by decide +kernel)|exact .inr (by decide +kernel)) (by rw[isSubtype_type];kernel_rfl)
theorem PP:entryFor table "set_iterator.__iter__"=aa Builtin.«dict_keyiterator.__iter__»:=entryFor_alias (id':="dict_keyiterator.__iter__") (by kernel_rfl) rfl (by decide +kernel) (by kernel_rfl)
theorem Km(a:ai):argsOk "set_iterator.__iter__" ⟨[a],[]⟩:=by unfold argsOk;kernel_rfl
def jq(first:ai)(i:Nat)(a:af)(n b:Nat):Obj:={cls:=.type "set_iterator",data:=.fields #[first,.int i 0,.ref a,.int n 0,.int b 0]}
section
variable{P:aN}{w:aG}{A:aT}{E:ai->am->Prop}{s:am}
theorem xj{I a:af}{first:ai}{i n d:Nat}{Q:ai->am->Prop}(h:s.heap.get? I=aa (jq first i a n d))(c:Q (.ref I) s):ar (au P w) A (n8 (.ref I)) Q E s:=by
 have b:s.TypeIs (.ref I) "set_iterator":=⟨_,h,rfl⟩
 refine JF b En (mQ En b PP ?_ (Km _));show ar _ _ (ret (.ref I)) _ _ s;exact aD ⟨_,rfl,"set_iterator",_,b,FI.lookup,c⟩
theorem qw{I a:af}{first:ai}{i:Nat}{f:Array (Int×ai)}{g:Nat}{t:cp}{Q:Option ai->am->Prop}(n:s.heap.get? a=aa {cls:=.type "set",dict:=ae,data:=.set f g t})(m:t.fits f.size=ah)(l:s.heap.get? I=aa (jq first i a f.size g))(h:ar (au P w) A.in1 (if let .int slot _:=first then do
    match <-om a slot.toNat (i:Int).toNat (g:Int).toNat with
    |some (x,next)=>do
     lV (.ref I) 0 (dY next)
     lV (.ref I) 1 (dY ((i:Int)+1))
     ret x
    |none=>do lV (.ref I) 2 .none;raiseNew (<-newExc (.type "StopIteration") [])
   else do
    let aa places <-seqItems? first|lW "internal:set_iterator"
    match places[(i:Int).toNat]? with
    |some (.int d _)=>do
     let x <-setNextDrawn a d.toNat (g:Int).toNat
     lV (.ref I) 1 (dY ((i:Int)+1))
     ret x
    |some _=>lW "internal:set_iterator"
    |none=>do lV (.ref I) 0 (dY 0);lV (.ref I) 2 .none;raiseNew (<-newExc (.type "StopIteration") []))
   (λc b=>∃r,c=.done (.ret r)/\Q (aa r) b) (λe b=>ar (au P w) A (do if <-zF e (.type "StopIteration")then pure ae else throw e) Q E b) s) :
  ar (au P w) A (mK (.ref I)) Q E s:=by
 have j:s.TypeIs (.ref I) "set_iterator":=⟨_,l,rfl⟩
 unfold mK;refine aq (Dc (zu (name:=vW "__next__") j FI (mQ FI j Oz ?_ (PQ _))));unfold Builtin.«set_iterator.__next__» slotArgs;refine aq (aD ?_);refine aq (wpAny_fieldsOf l rfl ?_);show ar _ _ (setEntries a >>= _) _ _ s;refine aq (wpAny_setEntries_of n rfl m ?_);have u:(((f.size:Nat):Int) != ((f.size:Nat):Int))=aj:=by simp
 rw[u];simp only[fo,if_false];refine eW ?_ (λc b q=>?_) (λe b q=>q) (Q:=λc b=>∃r,c=.done (.ret r)/\Q (aa r) b) (E:=λe b=>ar (au P w) A (do if <-zF e (.type "StopIteration")then pure ae else throw e) Q E b)
 .exact h
 .obtain⟨r,p,o⟩:=q;exact⟨r,p,aD o⟩
end
theorem Ce{a:Type}:∀{l:List a}{i:Nat} (h:i<l.length),(l[i]::l.eraseIdx i).Perm l
 |[],i,h=>by simp at h
 |x::r,0,h=>by simp
 |x::r,i+1,h=>by have q:=Ce (l:=r) (i:=i) (~~~h);simp only[List.getElem_cons_succ,List.eraseIdx_cons_succ];exact(List.Perm.swap x _ _).trans (List.Perm.cons x q)
theorem Ga{f:Type}(next:Nat->Nat):∀(c k:Nat) (a:List f) (b:Array f),c=a.length->(pickOrder.go next c k a b).toList.Perm (b.toList++a)
 |0,k,a,b,h=>by have:a=[]:=pB h.symm;subst this;simp[pickOrder.go]
 |c+1,k,a,b,h=>by
  have d:next k % a.length<a.length:=oq _ ∅
  unfold pickOrder.go;rw[eM d];dsimp only;have g:=Ga next c (k+1) (a.eraseIdx (next k % a.length)) (b.push a[next k % a.length]) (by rw[List.length_eraseIdx,if_pos d];lia)
  refine g.trans ?_;rw[tW,mR];exact JG _ (Ce d)
theorem FU{a:Type}(next:Nat->Nat)(xs:Array a):(v9 next xs).toList.Perm xs.toList:=by
 have:=Ga next xs.size 0 xs.toList #[] (by simp)
 simpa[v9]using this
section
variable{P:aN}{w:aG}{A:aT}{E:ai->am->Prop}{s:am}
theorem Rb{a:Source}{n:Nat}{Q:Nat->am->Prop}(b:n≠0)(h:∀k d,k<n->Q k {s with drawn:=d}):ar (au P w) A (choose a n) Q E s:=λc p hΓ=>by unfold choose;rw[Sem.wp_choose];refine⟨b,?_⟩;exact h _ _ (oq _ (Nat.pos_of_ne_zero b))
theorem FY{c:Type}:∀(n:Nat) (xs:List c) (s:am) (Q:List c->am->Prop),n=xs.length->(∀a d,a.Perm xs->Q a {s with drawn:=d})->ar (au P w) A (drawOrder n xs) Q E s
 |0,[],s,Q,_,h=>by unfold drawOrder;exact aD (h [] s.drawn (tQ _))
 |0,x::xs,s,Q,hn,h=>by simp at hn
 |n+1,[],s,Q,hn,h=>by simp at hn
 |n+1,x::xs,s,Q,hn,h=>by unfold drawOrder;refine aq (Rb (by simp) λk d b=>?_);rw[eM b];dsimp only;refine aq (FY n ((x::xs).eraseIdx k) _ _ (by rw[List.length_eraseIdx,if_pos b];lia) λa g f=>?_);refine aD (h _ g ?_);exact(List.Perm.cons _ f).trans (Ce b)
theorem xt{Q:Option ai->am->Prop}{R:Fin->am->Prop}(f:A.handled=ae)(g:∀c,(∀b o,s.heap.get? b=aa o->c.get? b=aa o)->Q ae {s with heap:=c}):ar (au P w) A.in1 (do raiseNew (<-newExc (.type "StopIteration") [])) R (λe d=>ar (au P w) A (do if <-zF e (.type "StopIteration")then pure ae else throw e) Q E d) s:=by
 refine aq ?_;simp only[newExc,newTuple];refine aq (lq ?_ (by size_fits));refine aq (m:=Dd _ _) (rm (a:=Value.none) (by first|rfl | (simp only[Dd];rfl)) ?_);refine lq ?_ (by size_fits);simp only[raiseNew];refine aq (wpAny_handled ?_);rw[show A.in1.handled=ae from f];refine aq (aD (wpAny_throw ?_));refine aq (De (T:="StopIteration") (b:=ah) ⟨_,cz _ rfl,rfl⟩ isSubtype_stop ?_);exact aD (g _ λb o e=>bw _ (bw _ e))
theorem BK{I a:af}{first d:ai}{i n f:Nat}{Q:Unit->am->Prop}(c:s.heap.get? I=aa (jq first i a n f))(h:∀b,ko I s.heap b->b.get? I=aa (jq d i a n f)->Q () {s with heap:=b}):ar (au P w) A (lV (.ref I) 0 d) Q E s:=by refine pF c rfl (by simp[jq]) (h _ (pD ..) ?_);rw[pC _ c (by rfl)];rfl
theorem AR{I a:af}{first:ai}{i n d:Nat}{Q:Unit->am->Prop}(c:s.heap.get? I=aa (jq first i a n d))(h:∀b,ko I s.heap b->b.get? I=aa (jq first (i+1) a n d)->Q () {s with heap:=b}):ar (au P w) A (lV (.ref I) 1 (dY ((i:Int)+1))) Q E s:=by refine pF c rfl (by simp[jq]) (h _ (pD ..) ?_);rw[pC _ c (by rfl)];rfl
theorem xY{I a:af}{first:ai}{i n d:Nat}{Q:Unit->am->Prop}(c:s.heap.get? I=aa (jq first i a n d))(h:∀b,ko I s.heap b->(∃o,b.get? I=aa o)->Q () {s with heap:=b}):ar (au P w) A (lV (.ref I) 2 .none) Q E s:=by refine pF c rfl (by simp[jq]) (h _ (pD ..) ⟨_,pC _ c (by rfl)⟩)
abbrev qJ(a:Array (Int×ai))(b:Nat)(t:cp):Obj:={cls:=.type "set",dict:=ae,data:=.set a b t}
theorem QQ{I a:af}{d:Array (Int×ai)}{g:Nat}{t:cp}(x:a≠I)(n:t.fits d.size=ah)(f:eF w=ah)(C:A.handled=ae):Walks P w A I [I,a] [I] d.size (λi v=>((v9 (w.params.setOrder a g) d).toList.map (·.2))[i]?=aa v) (λi h=>h.get? I=aa (jq (dY 0) i a d.size g)/\h.get? a=aa (qJ d g t)):=by
 have hsz:(v9 (w.params.setOrder a g) d).size=d.size:=by have:=(FU (w.params.setOrder a g) d).length_eq;simpa using this
 have j:∀(s:am) (i:Nat) (Q:Option (ai×Nat)->am->Prop) (E:ai->am->Prop),s.heap.get? a=aa (qJ d g t) ->
   Q (((v9 (w.params.setOrder a g) d)[i]?).map λe=>(e.2,0)) s->ar (au P w) A.in1 (om a (0:Int).toNat (i:Int).toNat (g:Int).toNat) Q E s:=λs i Q E u B=>by
  unfold om;refine aq (lU u rfl n ?_);unfold zG;refine aq (aq (tX (aD ?_)));show ar _ _ (if eF w=ah then _ else _) _ _ s;rw[if_pos f];simp only[lS,bne_self_eq_false,fo,if_false];unfold setWalk;refine aq (aq (lU u rfl n ?_));unfold zG;refine aq (aq (tX (aD ?_)));show ar _ _ (if eF w=ah then _ else _) _ _ s;rw[if_pos f];refine aq (tX (aD (aD ?_)));exact B
 refine⟨λb f=>by simp at f;simp[f],λi h H c k=>⟨k I (by simp) _ c.1,k a (by simp) _ c.2⟩,λi s Q E G c l=>?_,λs Q E c l=>?_,λi s Q E c l=>xj c.1 l⟩
 .refine qw c.2 n c.1 ?_;refine aq (j s i _ _ c.2 ?_);have y:i<(v9 (w.params.setOrder a g) d).size:=∅
  rw[jj y];dsimp only[pG];refine aq (BK c.1 λq m F=>?_);refine aq (AR (s:={s with heap:=q}) F λp r D=>?_);refine aD ⟨_,rfl,l _ p s.toks ?_ ⟨D,?_⟩ λb o f e=>?_⟩
  .rw[gZ];simp[jj y]
  .exact(r.2 a x).trans ((m.2 a x).trans c.2)
  .exact(r.2 b (~~~f)).trans ((m.2 b (~~~f)).trans e)
 .refine qw c.2 n c.1 ?_;refine aq (j s d.size _ _ c.2 ?_);rw[Array.getElem?_eq_none ∅];dsimp only[Option.map_none];refine aq (xY c.1 λq m _=>?_);exact xt (s:={s with heap:=q}) C λp z=>l p s.toks λb o f e=>z b o ((m.2 b (~~~f)).trans e)
theorem UI{I a T:af}{f:Array (Int×ai)}{K:Nat}{t:cp}{c:List Nat}(cH:a≠I)(Z:T≠I)(D:t.fits f.size=ah)(H:c.Perm (cr f.size))(Y:A.handled=ae):Walks P w A I [I,a,T] [I] f.size (λi v=>(c.filterMap λj=>(f[j]?).map (·.2))[i]?=aa v) (λi h=>h.get? I=aa (jq (.ref T) i a f.size K)/\h.get? a=aa (qJ f K t)/\h.get? T=aa {cls:=.type "tuple",data:=.seq (c.map λ(k:Nat)=>dY k).toArray}):=by
 have B:c.length=f.size:=by simpa using H.length_eq
 have p:∀j∈c,j<f.size:=λj C=>by simpa using H.mem_iff.mp C
 have fm:∀(l:List Nat),(∀j∈l,j<f.size)->∀(i j:Nat),l[i]?=aa j->∃e:Int×ai,f[j]?=aa e/\(l.filterMap λj=>(f[j]?).map (·.2))[i]?=aa e.2:=by
  intro l
  induction l with
  |nil=>intro _ i j h;simp at h
  |cons x r N=>
   intro J i j h;have S:x<f.size:=J x (fK ..);have G:f[x]?=aa f[x]:=jj S;cases i with
   |zero=>simp at h;subst h;exact⟨_,G,by rw[mJ,G];rfl⟩
   |succ i=>obtain⟨e,z,y⟩:=N (λj C=>J j (eJ _ C)) i j (~~~h);exact⟨e,z,by rw[mJ,G];simpa using y⟩
 have g:∀(s:am) (Q:Option (Array ai)->am->Prop) (E:ai->am->Prop),s.heap.get? T=aa {cls:=.type "tuple",data:=.seq (c.map λ(k:Nat)=>dY k).toArray}->Q (aa (c.map λ(k:Nat)=>dY k).toArray) s->ar (au P w) A.in1 (seqItems? (.ref T)) Q E s:=λs Q E W X=>by exact Df W rfl X
 refine⟨λb m=>by simp at m;simp[m],λi h h' d k=>⟨k I (by simp) _ d.1,k a (by simp) _ d.2.1,k T (by simp) _ d.2.2⟩,λi s Q E hi d q=>?_,λs Q E d q=>?_,λi s Q E d q=>xj d.1 q⟩
 .refine qw d.2.1 D d.1 ?_;refine aq (g s _ _ d.2.2 ?_);have L:i<c.length:=∅
  have u:((c.map λ(k:Nat)=>dY k).toArray)[(i:Int).toNat]?=aa (dY (c[i]:Nat)):=by simp[L]
  dsimp only;rw[u];obtain⟨e,z,y⟩:=fm c p i c[i] (eM L);show ar _ _ (setNextDrawn a _ _ >>= _) _ _ s;refine aq ?_;unfold setNextDrawn;refine aq (lU d.2.1 rfl D ?_);simp only[lS,bne_self_eq_false,fo,if_false];rw[z];refine aD ?_;refine aq (AR d.1 λF n e2=>?_);refine aD ⟨_,rfl,q _ F s.toks y ⟨e2,(n.2 a cH).trans d.2.1,(n.2 T Z).trans d.2.2⟩ λb o m e=>(n.2 b (~~~m)).trans e⟩
 .refine qw d.2.1 D d.1 ?_;refine aq (g s _ _ d.2.2 ?_);have u:((c.map λ(k:Nat)=>dY k).toArray)[(f.size:Int).toNat]?=ae:=by simp[B]
  dsimp only;rw[u];refine aq (BK d.1 λh1 O u=>?_);refine aq (xY (s:={s with heap:=h1}) u λF n _=>?_);exact xt (s:={s with heap:=F}) Y λh3 M=>q h3 s.toks λb o m e=>M b o ((n.2 b (~~~m)).trans ((O.2 b (~~~m)).trans e))
theorem LO(j k:Nat):iT #[j] k=if j<k then 1 else 0:=by
 unfold iT;simp only[cM,cE,mT];unfold tY;simp;split
 .rename_i h;unfold tY;simp
 .unfold tY;simp
theorem Mc{I a:af}{g:Array (Int×ai)}{n:Nat}{t:cp}(K:a≠I)(u:t.fits g.size=ah)(f:eF w=aj)(N:t.led=ah)(m:g.size=1)(S:A.handled=ae):Walks P w A I [I,a] [I] 1 (λi v=>(g.toList.map (·.2))[i]?=aa v) (λi h=>h.get? I=aa (jq (dY (if i=0 then 0 else((t.place.getD 0 0:Nat):Int)+1)) i a g.size n)/\h.get? a=aa (qJ g n t)):=by
 have y:t.place.size=1:=by simp only[SetTable.fits,g7,beq_iff_eq]at u;lia
 obtain⟨j,G⟩:=Array.size_eq_one_iff.mp y;have J:((t.place.getD 0 0:Nat):Int)=(j:Int):=by rw[G];rfl
 obtain⟨e,H⟩:=Array.size_eq_one_iff.mp m;have l:∀(s:am) (d:Nat) (i:Nat) (Q:Option (ai×Nat)->am->Prop) (E:ai->am->Prop),s.heap.get? a=aa (qJ g n t) ->
   Q (if j<d then ae else aa (e.2,j+1)) s->ar (au P w) A.in1 (om a d i n) Q E s:=λs d i Q E T r=>by
  unfold om;refine aq (lU T rfl u ?_);unfold zG;refine aq (aq (tX (aD ?_)));show ar _ _ (if eF w=ah then _ else _) _ _ s;rw[if_neg (by rw[f];decide)];refine zH (λz=>absurd (show(!t.plain&&decide (g.size > 1))=ah from z) (by rw[m];simp)) (λ_=>?_);refine aq ?_;refine eW (Q:=λ_ D=>D=s) (E:=E) ?_ (λ_ D M=>?_) (λ_ _ x=>x)
  .refine zH (λz=>absurd (show(!t.led&&!g.isEmpty)=ah from z) (by rw[N];simp)) (λ_=>aD rfl)
  .subst M;rw[G,LO,H];by_cases L:j<d
   .rw[if_pos L]at r ⊢;exact aD r
   .rw[if_neg L]at r ⊢;exact aD r
 refine⟨λb f=>by simp at f;simp[f],λi h Y c k=>⟨k I (by simp) _ c.1,k a (by simp) _ c.2⟩,λi s Q E X c p=>?_,λs Q E c p=>?_,λi s Q E c p=>xj c.1 p⟩
 .obtain rfl:i=0:=∅
  refine qw c.2 u c.1 ?_;show ar _ _ (om a (0:Int).toNat ((0:Nat):Int).toNat (n:Int).toNat >>= _) _ _ s;simp only[lS,Int.toNat_zero];refine aq (l s 0 0 _ _ c.2 ?_);rw[if_neg (ot j)];dsimp only;refine aq (BK c.1 λm q C=>?_);refine aq (AR (s:={s with heap:=m}) C λB F W=>?_);refine aD ⟨_,rfl,p _ B s.toks ?_ ⟨?_,?_⟩ λb o f e=>?_⟩
  .rw[H];rfl
  .rw[W,if_neg (by decide),J];rfl
  .exact(F.2 a K).trans ((q.2 a K).trans c.2)
  .exact(F.2 b (~~~f)).trans ((q.2 b (~~~f)).trans e)
 .refine qw c.2 u c.1 ?_;rw[if_neg (by decide),J];show ar _ _ (om a ((j:Int)+1).toNat ((1:Nat):Int).toNat (n:Int).toNat >>= _) _ _ s;have C:((j:Int)+1).toNat=j+1:=∅
  rw[C,lS,lS];refine aq (l s (j+1) 1 _ _ c.2 ?_);rw[if_pos (jE j)];dsimp only;refine aq (xY c.1 λm q _=>?_);exact xt (s:={s with heap:=m}) S λB O=>p B s.toks λb o f e=>O b o ((q.2 b (~~~f)).trans e)
theorem yw:∀{a:List ai}{b:List Str} (i:Nat) (v:ai),c8 a b->a[i]?=aa v->∃t,v=.str (b.getD i kq) t
 |_,_,i,v,.nil,h=>by simp at h
 |_,_,0,v,.cons y t _,h=>by simp at h;exact⟨t,by rw[<-h];rfl⟩
 |_,_,i+1,v,.cons y t hr,h=>by simp only[List.getElem?_cons_succ]at h;obtain⟨c,e⟩:=yw i v hr h;exact⟨c,by rw[e];rfl⟩
theorem RB{h:aB}{o:Obj}{l:af}{a:Array ai}(x:h.IsTuple l a):(h.push o).IsTuple l a:=let ⟨ob,e,r⟩:=x;⟨ob,bw _ e,r⟩
set_option maxRecDepth 100000 in
theorem IM{l:af}{a:Array ai}{Q:ai->am->Prop}(hh:A.handled=ae)(B:s.heap.IsList l a\/s.heap.IsTuple l a){J:Nat->aB->Prop}(hJ:∀i h d,J i h->(∀b o,b<=s.heap.objs.size->h.get? b=aa o->d.get? b=aa o)->J i d) (X:J 0 (s.heap.push {cls:=.type "set",dict:=ae,data:=.set #[] 0 (.fresh 0 0 (!eF w))}))(lw:∀(i:Nat) (v:ai) (f:am) (E:ai->am->Prop) (Q:Bool->am->Prop),i<a.size->a[i]?=aa v->J i f.heap->(∀d j b,f.toks<=j->ko s.heap.objs.size f.heap d->J (i+1) d->Q b {f with heap:=d,toks:=j})->ar (au P w) A.in1.in1.in1 (setAdd s.heap.objs.size v) Q E f)(h:∀(d:aB) (j:Nat),J a.size d->(∀b o,b<s.heap.objs.size->s.heap.get? b=aa o->d.get? b=aa o)->Q (.ref s.heap.objs.size) {s with heap:=d,toks:=j}):ar (au P w) A (call (.type "set") [.ref l]) Q E s:=by
 obtain⟨c,tl,hmro⟩:=F.called_set.mro;have O:=F.called_set.made;have pO:=F.called_set.sub;refine zt (codeAny_of_tree ?_);show ar _ _ (callAny (.type "set") _) _ _ _;refine aD ⟨Code.quiet_builtin _ (by decide +kernel),v8 F.entry_type_call ?_⟩;rw[Around.under_plain (weight_type_call_type "set" [.ref l] []) rfl];have h1:=F.called_set.notType;have h2:=F.called_set.canCreate;have hct:=PySem.F.typeCall_set_1 (.ref l)
 repeat any_goals (first|assumption|wp_step)
 refine q_ (Ol (P:=P) (w:=w) (.ref l) (E:=E) (Q:=λm f=>m=.ref s.heap.objs.size/\f={s with heap:=s.heap.push {cls:=.type "set",dict:=ae,data:=.set #[] 0 (.fresh 0 0 (!eF w))}}/\True) λS0=>⟨rfl,rfl,trivial⟩) λr f N=>?_;cases r with
 |error e=>exact N
 |ok fl=>
  cases fl with
  |ret m=>
   obtain⟨rfl,rfl,S0⟩:=N;have hS:=cz (h:=s.heap) (o:=({cls:=.type "set",dict:=ae,data:=.set #[] 0 (.fresh 0 0 (!eF w))}:Obj));have T:(s.heap.push {cls:=.type "set",dict:=ae,data:=.set #[] 0 (.fresh 0 0 (!eF w))}).get? s.heap.objs.size=aa {cls:=.type "set",dict:=ae,data:=.set #[] 0 (.fresh 0 0 (!eF w))}:=cz _ rfl;have hT:Shared.TypeIs {s with heap:=s.heap.push {cls:=.type "set",dict:=ae,data:=.set #[] 0 (.fresh 0 0 (!eF w))}} (.ref s.heap.objs.size) "set":=⟨_,T,rfl⟩
   have hli:=F.called_set.init.lookup;have hbi:=F.called_set.init.bind (.ref s.heap.objs.size)
   repeat any_goals (first|assumption|wp_step)
   refine q_ (codeAny_call_builtin (R:=wants (λr s2=>r=.none/\∃d j,s2={s with heap:=d,toks:=j}/\J a.size d /\ (∀b o,b<s.heap.objs.size->s.heap.get? b=aa o->d.get? b=aa o)) E) F.called_set.init.plain F.entry_set_init (check_set_init_1 hT ?_)) λr2 s2 G=>?_
   .rcases B with B|B
    all_goals
     obtain⟨⟨ocls,K,L,x⟩,n,rM,y,u⟩:=B;simp only at rM u;subst rM;subst u;have D:=bw ({cls:=.type "set",dict:=ae,data:=.set #[] 0 (.fresh 0 0 (!eF w))}:Obj) n;have hsls:=PySem.F.sub_list_set;have hslf:=PySem.F.sub_list_frozenset;have cH:(Value.type "list" == Value.type "dict")=aj:=by decide
     have hsl2:=PySem.F.sub_tuple_set;have hsl3:=PySem.F.sub_tuple_frozenset;have hn2:(Value.type "tuple" == Value.type "dict")=aj:=by decide
     unfold Builtin.«set.__init__» noKeywords Builtin.Frozenset.updateFrom;generalize W:n8=PI
     wp_walk
     subst W
     first|refine Jw ⟨_,D,rfl,y,rfl⟩ (aq (wpAny_runValue ?_))|refine Dg ⟨_,D,rfl,y,rfl⟩ (aq (wpAny_runValue ?_))
     have p:l<s.heap.objs.size:=bC n;have q:A.in1.in1.in1.handled=ae:=by simp[hh]
     have g:(s.heap.push {cls:=.type "set",dict:=ae,data:=.set #[] 0 (.fresh 0 0 (!eF w))}).objs.size=s.heap.objs.size+1:=ri ..;have Kc:l≠(s.heap.push {cls:=.type "set",dict:=ae,data:=.set #[] 0 (.fresh 0 0 (!eF w))}).objs.size:=by rw[g];exact cZ (ku p)
     have Z:s.heap.objs.size∉[(s.heap.push {cls:=.type "set",dict:=ae,data:=.set #[] 0 (.fresh 0 0 (!eF w))}).objs.size,l]:=by rw[g];simp only[bn,gH,gi,or_false,not_or];exact⟨cZ (jE _),tE p⟩
     first|refine FV (J:=J) (Walks.list q _ l Kc a).toS s.heap.objs.size Z ?_ ?_ (a.size-0) 0 _ ∅ (jY _) ⟨⟨_,cz _ rfl,rfl,rfl⟩,Heap.IsList.push ⟨_,D,rfl,y,rfl⟩ _⟩ ?_ ?_|refine FV (J:=J) (Walks.tuple q _ l Kc a).toS s.heap.objs.size Z ?_ ?_ (a.size-0) 0 _ ∅ (jY _) ⟨⟨_,cz _ rfl,rfl,rfl⟩,RB ⟨_,D,rfl,y,rfl⟩⟩ ?_ ?_
     .exact λi h d S k=>hJ i h d S λb o C e=>k b o (by rw[g];simp only[gH];exact cZ (Nat.lt_succ_of_le C)) e
     .exact λi v f E Q hi hv S hq=>lw i v f E Q hi hv S hq
     .exact hJ 0 _ _ X λb o _ e=>bw _ e
     intro s' z M;obtain⟨d,g',d',H,I⟩:=s';obtain rfl:g'=s.gens:=z.gens;obtain rfl:d'=s.drawn:=z.drawn;obtain rfl:I=s.os:=z.os;show ar _ _ _ _ _ _;refine aD ?_;show ar _ _ (ret Value.none) _ _ _;refine aD ⟨rfl,d,H,rfl,M,λb o C e=>z.heap b o ?_ (bw _ (bw _ e))⟩;rw[g];simp only[bn,gH,gi,or_false,not_or];exact⟨cZ C,cZ (ku C)⟩
   .cases r2 with
    |error e=>exact G
    |ok Y=>
     cases Y with
     |ret r=>
      obtain⟨rfl,d,j,rfl,M,rN⟩:=G
      repeat any_goals (first|assumption|wp_step)
      exact h _ _ M rN
     |_=>exact G.elim
  |_=>exact N.elim
theorem Pa{l:af}{a:Array ai}{c:List Str}{Q:ai->am->Prop}(x:A.handled=ae)(r:s.heap.IsList l a\/s.heap.IsTuple l a)(u:c8 a.toList c)(z:(met (λi=>c.getD i kq) a.size).length<4000)(h:∀(d:aB) (j:Nat),lh P w d s.heap.objs.size (met (λi=>c.getD i kq) a.size)->(∀b o,b<s.heap.objs.size->s.heap.get? b=aa o->d.get? b=aa o)->Q (.ref s.heap.objs.size) {s with heap:=d,toks:=j}):ar (au P w) A (call (.type "set") [.ref l]) Q E s:=by
 refine IM x r (J:=λi h=>lh P w h s.heap.objs.size (met (λi=>c.getD i kq) i)) (λi h d S k=>S.at λo e=>k _ o (aZ _) e)
  ⟨#[],0,_,[],cz _ rfl,.nil,tQ _,λe y=>by simp at y,by decide,rfl,rfl,λh=>absurd rfl h⟩ (λi v f E Q B p S q=>?_) h
 obtain⟨t,rfl⟩:=yw i v u (by rw[pH];exact p);unfold setAdd;refine jW ?_;have m:(gG P w).is (c.getD i kq) (.str (c.getD i kq) t)=ah:=by show qX _ (.str _ t)=ah;simp[qX]
 refine aq ((gG P w).pyHash (k:=c.getD i kq) m ?_);refine Ml (s:={f with toks:=f.toks+1}) S (vZ (Gn _ (li B)) z) λd b n g=>?_;rw[<-Hr (λi=>c.getD i kq)]at g;exact q d _ b (zB _) n g
end
theorem Ie{n:Nat}(h:n<=4096):n<bf:=vZ h (by decide)
theorem RQ:typeLookup (.type "set") "__len__"=pure (aa (.builtin "set.__len__")):=F.slot_set_len.lookup
section
variable{P:aN}{w:aG}{A:aT}{E:ai->am->Prop}{s:am}
def sB(w:aG)(h:aB)(a:af)(b:Array (Int×ai)):Prop:=∃(c:Nat) (t:cp),h.get? a=aa {cls:=.type "set",dict:=ae,data:=.set b c t}/\b.size<4090/\t.fits b.size=ah/\t.led=(!eF w)/\(b.size≠0->t.plain=aj)
theorem sB.at{w:aG}{h h':aB}{a:af}{es:Array (Int×ai)}(S:sB w h a es)(k:∀o,h.get? a=aa o->h'.get? a=aa o):sB w h' a es:=by obtain⟨ep,t,e,r⟩:=S;exact⟨ep,t,k _ e,r⟩
theorem lh.e{h:aB}{a:af}{ks:List Str}(S:lh P w h a ks):∃es ss,sB w h a es/\c8 (es.toList.map (·.2)) ss/\ss.Perm ks:=by
 obtain⟨es,ep,t,ss,f,c,b,i,hsz,g,d,m⟩:=S.ex;refine⟨es,ss,⟨ep,t,f,hsz,g,d,λj=>m λz=>j ?_⟩,c,b⟩;have l:=b.length_eq;have n:ss.length=es.size:=by rw[<-c.strs];simp
 rw[z,mT]at l;lia
structure Hc(P:aN)(w:aG)(s s':am)(a I:af)(es:Array (Int×ai))(fp:List af)(n:Nat)(Pv:Nat->ai->Prop)(St:Nat->aB->Prop):Prop where
 wk:∀A:aT,A.handled=ae->Walks P w A I fp [I] n Pv St
 st:St 0 s'.heap
 old:∀b o,s.heap.get? b=aa o->s'.heap.get? b=aa o
 new:s.heap.objs.size<=I
 lt:∀b∈fp,b<s'.heap.objs.size
 rest:s'={s with heap:=s'.heap,drawn:=s'.drawn}
 ord:∀aF:Array ai,ItemsOf Pv aF n->aF.toList.Perm (es.toList.map (·.2))
 len:n<4090
 fps:∀b∈fp,b=a\/s.heap.objs.size<=b
theorem yt{l:List ai}{a:Array ai}{n:Nat}(c:l.length=n)(h:ItemsOf (λi v=>l[i]?=aa v) a n):a.toList=l:=by
 refine pI λi=>?_;by_cases b:i<n
 .have:i<a.size:=by rw[h.1];exact b
  have q:=h.2 i a[i] (jj this);rw[q];simp[this]
 .rw[lX (by rw[fL,h.1];lia),lX ∅]
theorem MD{I a:af}{d:Array (Int×ai)}{j:Nat}{t:cp}(L:a≠I)(r:t.fits d.size=ah)(g:eF w=aj)(n:d.size=0)(F:A.handled=ae):Walks P w A I [I,a] [I] 0 (λi v=>(d.toList.map (·.2))[i]?=aa v) (λi h=>h.get? I=aa (jq (dY 0) 0 a d.size j)/\h.get? a=aa (qJ d j t)):=by
 have u:d=#[]:=Array.eq_empty_of_size_eq_zero n;have l:∀(s:am) (f:Nat) (i:Nat) (Q:Option (ai×Nat)->am->Prop) (E:ai->am->Prop),s.heap.get? a=aa (qJ d j t) ->
   Q ae s->ar (au P w) A.in1 (om a f i j) Q E s:=λs f i Q E G C=>by
  unfold om;refine aq (lU G rfl r ?_);unfold zG;refine aq (aq (tX (aD ?_)));show ar _ _ (if eF w=ah then _ else _) _ _ s;rw[if_neg (by rw[g];decide)];refine zH (λp=>absurd (show(!t.plain&&decide (d.size > 1))=ah from p) (by rw[n];simp)) (λ_=>?_);refine aq ?_;refine eW (Q:=λ_ q=>q=s) (E:=E) ?_ (λ_ q y=>?_) (λ_ _ x=>x)
  .refine zH (λp=>absurd (show(!t.led&&!d.isEmpty)=ah from p) (by rw[u];simp)) (λ_=>aD rfl)
  .subst y;rw[u];have J:∀k:Nat,(#[]:Array (Int×ai))[k]?=ae:=λk=>by simp
   dsimp only;rw[J];exact aD C
 refine⟨λb g=>by simp at g;simp[g],λi h K c k=>⟨k I (by simp) _ c.1,k a (by simp) _ c.2⟩,λi s Q E D c m=>absurd D (ot i),λs Q E c m=>?_,λi s Q E c m=>xj c.1 m⟩;refine qw c.2 r c.1 ?_;show ar _ _ (om a (0:Int).toNat ((0:Nat):Int).toNat (j:Int).toNat >>= _) _ _ s;simp only[lS,Int.toNat_zero];refine aq (l s 0 0 _ _ c.2 ?_);dsimp only;refine aq (xY c.1 λn B _=>?_);exact xt (s:={s with heap:=n}) F λH z=>m H s.toks λb o g e=>z b o ((B.2 b (~~~g)).trans e)
theorem OL{a:af}{g:Array (Int×ai)}{Q:ai->am->Prop}(S:sB w s.heap a g)(h:∀x I C n D St,Hc P w s x a I g C n D St->Q (.ref I) x):ar (au P w) A (n8 (.ref a)) Q E s:=by
 obtain⟨M,t,l,hsz,p,l6,dv⟩:=S;have Y:s.TypeIs (.ref a) "set":=⟨_,l,rfl⟩
 have kU:=bC l;refine JF Y F.slot_set_iter (mQ F.slot_set_iter Y KJ ?_ (F.args_set_iter_1 _));unfold Builtin.«frozenset.__iter__» Builtin.Frozenset.slot0 slotArgs Builtin.Frozenset.addrOf Builtin.Frozenset.sizeOf;refine aq (aD ?_);refine aq (aq (wpAny_setEntries_of l rfl p (aD ?_)));unfold setDrawn;refine aq (aq (lU l rfl p ?_));unfold zG;refine aq (aq (tX (aD ?_)));refine aD ?_;have i:∀(first:ai) (u:am) (C:List af) (n:Nat) (D:Nat->ai->Prop) (St:Nat->aB->Prop),u.heap.get? a=aa {cls:=.type "set",dict:=ae,data:=.set g M t} ->
   Hc P w s {u with heap:=u.heap.push (jq first 0 a g.size M)} a u.heap.objs.size g C n D St ->
   ar (au P w) A.in1 (do
    let e <-setEpoch a
    let f <-newFields "set_iterator" [first,dY 0,Value.ref a,dY (g.size:Nat),dY (e:Nat)]
    ret f) (λi x=>∃v,i=Fin.done (Flow.ret v)/\∃Z r,x.TypeIs v Z/\typeLookup (Value.type Z) (vW "__next__")=pure (aa r)/\Q v x) E u:=λfirst u C n D St ha W=>by
  refine aq (wpAny_setEpoch_of ha rfl p ?_);refine aq (lq ?_);exact aD ⟨_,rfl,"set_iterator",_,⟨_,cz _ rfl,rfl⟩,FI.lookup,h _ _ C n D St W⟩
 refine zH (λK=>?_) (λK=>?_)
 .have H:(!eF w&&(!t.plain&&decide (g.size > 1)))=ah:=K;refine aq (FY g.size (cr g.size) s _ (by simp) λG d J=>?_);refine aq (wpAny_newTuple ?_ (hsz:=by rw[cN,J.length_eq,Jx];exact li (Ie ∅)));refine i _ _ _ _ _ _ (bw _ l) ⟨λO q=>UI (T:=s.heap.objs.size) (cZ (by rw[jZ];exact ku kU)) (cZ (by rw[jZ];exact jE _)) p J q,⟨cz _ rfl,?_,?_⟩,?_,?_,?_,rfl,?_,hsz,?_⟩
  .exact bw _ (bw _ l)
  .exact bw _ (cz _ rfl)
  .exact λb o e=>bw _ (bw _ e)
  .rw[jZ];exact zB _
  .intro b c;simp only[bn,gi,or_false]at c;rw[jZ,jZ];rcases c with rfl|rfl|rfl
   .rw[jZ];exact jE _
   .exact ku (ku kU)
   .exact ku (jE _)
  .intro N m;have e0:(G.filterMap λj=>(g[j]?).map (·.2))=(G.filterMap λj=>g[j]?).map (·.2):=by rw[JH]
   have y:(G.filterMap λj=>g[j]?).Perm g.toList:=by have:=J.filterMap λj=>g[j]?;rwa[filterMap_getElem?_range]at this
   rw[e0]at m;rw[yt (by rw[cN,y.length_eq];simp) m];exact y.map _
  .intro b c;simp only[bn,gi,or_false]at c;rcases c with rfl|rfl|rfl
   .rw[jZ];exact .inr (zB _)
   .exact .inl rfl
   .exact .inr (aZ _)
 .have H:¬(!eF w&&(!t.plain&&decide (g.size > 1)))=ah:=K;refine aq (aD ?_);cases c:eF w with
  |true=>
   refine i _ _ _ _ _ _ l ⟨λO q=>QQ (cZ kU) p c q,⟨cz _ rfl,bw _ l⟩,λb o e=>bw _ e,aZ _,?_,rfl,?_,hsz,λb c=>?_⟩
   .intro b c;simp only[bn,gi,or_false]at c;rw[jZ];rcases c with rfl|rfl
    .exact jE _
    .exact ku kU
   .intro N m;have y:=FU (w.params.setOrder a M) g;rw[yt (by rw[cN,y.length_eq];simp) m];exact y.map _
   .simp only[bn,gi,or_false]at c;exact c.elim (λz=>.inr (oh z.symm)) .inl
  |false=>
   have L:g.size=1\/g.size=0:=by
    by_cases X:g.size=0
    .exact .inr X
    .rw[c,dv X]at H;simp at H;lia
   rcases L with B|B
   .refine i _ _ _ _ _ _ l ⟨λO q=>Mc (cZ kU) p c (by rw[l6,c];rfl) B q,⟨cz _ rfl,bw _ l⟩,λb o e=>bw _ e,aZ _,?_,rfl,?_,by decide,λb c=>?_⟩
    .intro b c;simp only[bn,gi,or_false]at c;rw[jZ];rcases c with rfl|rfl
     .exact jE _
     .exact ku kU
    .intro N m;rw[yt (by simp[B]) m]
    .simp only[bn,gi,or_false]at c;exact c.elim (λz=>.inr (oh z.symm)) .inl
   .refine i _ _ _ _ _ _ l ⟨λO q=>MD (cZ kU) p c B q,⟨cz _ rfl,bw _ l⟩,λb o e=>bw _ e,aZ _,?_,rfl,?_,by decide,λb c=>?_⟩
    .intro b c;simp only[bn,gi,or_false]at c;rw[jZ];rcases c with rfl|rfl
     .exact jE _
     .exact ku kU
    .intro N m;rw[yt (by simp[B]) m]
    .simp only[bn,gi,or_false]at c;exact c.elim (λz=>.inr (oh z.symm)) .inl
theorem EJ{a:af}{m:Array (Int×ai)}{Q:List ai->am->Prop}(J:A.handled=ae)(S:sB w s.heap a m)(h:∀(d:am) (C:List ai),C.Perm (m.toList.map (·.2))->(∀b o,s.heap.get? b=aa o->d.heap.get? b=aa o)->d.gens=s.gens->d.os=s.os->Q C d):ar (au P w) A (collect (.ref a)) Q E s:=by
 obtain⟨K,t,H,N,_⟩:=id S;have kU:=bC H;unfold collect;refine aq (wpAny_runValue (v8 F.entry_proto_collect ?_));rw[zE F.plain_proto_collect _];show ar _ A.in1 (newList [] >>= λl=>again (.builtin "list.__iadd__" ⟨[l,.ref a],[]⟩)) _ _ s;refine aq (lq ?_);refine aD ⟨Db F.plain_list_iadd _,v8 F.entry_list_iadd ?_⟩;rw[zE F.plain_list_iadd _];show ar _ A.in1 (Builtin.List.listExtendWith (.ref s.heap.objs.size) (.ref a) (.ref s.heap.objs.size)) _ _ _;unfold Builtin.List.listExtendWith;have j:∀u:am,u.heap.get? a=aa {cls:=.type "set",dict:=ae,data:=.set m K t}->u.TypeIs (.ref a) "set":=λu e=>⟨_,e,rfl⟩
 have D:(s.heap.push {cls:=.type "list",data:=.seq ([]:List ai).toArray}).get? a=aa {cls:=.type "set",dict:=ae,data:=.set m K t}:=bw _ H;refine aq (tF (j _ D) ?_);have X:Builtin.List.listSameRef (.ref s.heap.objs.size) (.ref a)=aj:=by have:¬(s.heap.objs.size=a):=tE kU;simp[Builtin.List.listSameRef,this]
 rw[if_neg (by rw[X];decide)];refine aq (OL (S.at λo e=>bw _ e) λr I Y n Pv St W=>?_);have v:=W.old a _ D;refine aq (jW ?_);unfold Builtin.List.listLengthHint;refine aq (vY (j _ v) RQ ?_)
 wp_delta
 refine aq (De (T:="set") (b:=ah) (j _ v) (by rw[isSubtype_type];kernel_rfl) ?_);show ar _ A.in1 (typeOf (Value.ref a) >>= _) _ _ _;refine aq (tF (T:="set") (j _ v) ?_);refine aD ?_;rw[if_pos (by decide)];refine aq (mW ?_);have O:(s.heap.push {cls:=.type "list",data:=.seq ([]:List ai).toArray}).get? s.heap.objs.size=aa {cls:=.type "list",data:=.seq ([]:List ai).toArray}:=cz _ rfl;have i:=W.old _ _ O;unfold Builtin.List.listTouch;refine aq (aq (Dh i rfl ?_ (by decide) (by show 1<=bf+1;decide)));have g:=get?_update_seq i (λa:Array ai=>a.push Value.none);refine Dh g rfl ?_ (by show 1<=bf;decide) (by show 0<=bf+1;decide);have B:=get?_update_seq g (λa:Array ai=>a.pop);have L:s.heap.objs.size∉Y:=λz=>by
  rcases W.fps _ z with q|q
  .exact absurd kU (by rw[<-q];exact fj _)
  .rw[jZ]at q;exact absurd (jE _) (Nat.not_lt.mpr q)
 have G:∀b o,b≠s.heap.objs.size->r.heap.get? b=aa o->(((r.heap.update s.heap.objs.size (mS λa=>a.push Value.none)).update s.heap.objs.size (mS λa=>a.pop))).get? b=aa o:=λb o f e=>by rw[JI _ _ _ _ f,JI _ _ _ _ f];exact e
 have Z:St 0 (((r.heap.update s.heap.objs.size (mS λa=>a.push Value.none)).update s.heap.objs.size (mS λa=>a.pop))):=(W.wk A.in1 J).frame 0 _ _ W.st λb f o e=>G b o (λz=>L (z ▸ f)) e;refine aD ⟨Db F.plain_extend_loop _,codeAny_extend_loopS (W.wk A.in1 J).toS (li (Ie (by have:=W.len;lia))) _ L _ n 0 _ _ _ rfl (jY _) Z B (ItemsOf.nil _) λd c c' x y M=>?_⟩;show ar _ A (load s.heap.objs.size >>= _) _ _ d;refine aq (wpAny_load y ?_);refine aD (h d c.toList (W.ord c M) (λb o e=>?_) ?_ ?_)
 .have p:=bC e;refine x.heap b o (λf=>?_) (G b o (cZ p) (W.old b o (bw _ e)));rcases bn.mp f with z|z
  .exact absurd p (by rw[z];exact fj _)
  .rw[gH.mp z]at p;have:=W.new;rw[jZ]at this;exact absurd p (Nat.not_lt.mpr (Nat.le_of_succ_le this))
 .rw[x.gens,W.rest]
 .rw[x.os,W.rest]
theorem O_{a:af}{ks:List Str}{Q:List ai->am->Prop}(p:A.handled=ae)(S:lh P w s.heap a ks)(h:∀(c:am) (d:List ai) (ss:List Str),c8 d ss->ss.Perm ks->d.length<4090->(∀b o,s.heap.get? b=aa o->c.heap.get? b=aa o)->c.gens=s.gens->c.os=s.os->Q d c):ar (au P w) A (collect (.ref a)) Q E s:=by
 obtain⟨r,ss,S,q,n⟩:=S.e;have m:r.size<4090:=by obtain⟨_,_,_,z,_⟩:=S;exact z
 refine EJ p S λc d pv l j i=>?_;obtain⟨u,g,f⟩:=AQ pv q;exact h c d u g (f.trans n) (by have:=pv.length_eq;simp at this;lia) l j i
end
def d_(a:List Tx):List Tx:=a.foldl (λks x=>if x∈ks then ks else ks++[x]) []
theorem E6(b:List Tx):met (λi=>(b.map tS).getD i kq) b.length=(d_ b).map tS:=by
 have d:∀(l:List Tx) (a:List Tx),(l.map tS).foldl kc (a.map tS)=(l.foldl (λks x=>if x∈ks then ks else ks++[x]) a).map tS:=by
  intro l
  induction l with
  |nil=>intro a;rfl
  |cons x r g=>
   intro a;rw[cn,jX,jX];have:kc (a.map tS) (tS x)=(if x∈a then a else a++[x]).map tS:=by
    unfold kc;have f:tS x∈a.map tS↔x∈a:=by rw[b8];exact⟨λζ=>by obtain⟨y,j,e⟩:=ζ;rw[<-xV e];exact j,λh=>⟨x,h,rfl⟩⟩
    by_cases h:x∈a
    .rw[if_pos h,if_pos (f.mpr h)]
    .rw[if_neg h,if_neg (λz=>h (f.mp z)),pt];rfl
   rw[this,g]
 have e:(cr b.length).map (λi=>(b.map tS).getD i kq)=b.map tS:=by
  refine pI λi=>?_;rw[gZ];by_cases c:i<b.length
  .rw[zC c];simp[c]
  .rw[lX (~~~c),lX (~~~c)];rfl
 unfold met;rw[e];exact d b []
theorem G1(l c:List Tx):(c.Nodup->(l.foldl (λks x=>if x∈ks then ks else ks++[x]) c).Nodup)/\∀x,x∈l.foldl (λks x=>if x∈ks then ks else ks++[x]) c↔x∈c\/x∈l:=by
 induction l generalizing c with
 |nil=>exact⟨λh=>h,λx=>by simp⟩
 |cons y r g=>
  rw[jX];obtain⟨m,j⟩:=g (if y∈c then c else c++[y]);refine⟨λh=>m ?_,λx=>?_⟩
  .split
   .exact h
   .rename_i d;rw[JJ];exact⟨h,by simp,λa i b f=>by simp at f;subst f;exact λe=>d (e ▸ i)⟩
  .rw[j x,bn];split
   .rename_i d;constructor
    .rintro(h|h)
     .exact .inl h
     .exact .inr (.inr h)
    .rintro(h|rfl|h)
     .exact .inl h
     .exact .inl d
     .exact .inr h
   .rw[jg,gH,or_assoc]
theorem Ug(l:List Tx):(d_ l).Nodup:=(G1 l []).1 List.nodup_nil
theorem u7(l:List Tx)(x:Tx):x∈d_ l↔x∈l:=by rw[d_,(G1 l []).2 x];simp
theorem Rz(l:List Tx):(d_ l).length<=l.length:=by
 have b:∀(l a:List Tx),(l.foldl (λks x=>if x∈ks then ks else ks++[x]) a).length<=a.length+l.length:=by
  intro l
  induction l with
  |nil=>intro a;simp
  |cons x r c=>intro a;rw[jX];refine cX (c _) ?_;split <;> simp <;> lia
 simpa[d_]using b l []
section
variable{X:Cx}
def nD(X:Cx)(a:af)(b:List Tx):HO:=.ext λh=>lh X.prog X.w h a (b.map tS)
theorem F9(z:X.calm=ah):d4 X (.type "set") (λxs H Q=>∃(p:af) (c:List Tx),xs=[.ref p]/\b_ X.K H p (cR c)/\(d_ c).length<4000/\∀a,H a=ae->Q (.ref a) (upd H a (nD X a (d_ c)))):=by
 intro L s B H xs C Q I r h;obtain⟨p,c,rfl,x,f,q⟩:=h;obtain⟨u,rfl,l⟩:=vals1 r;cases l;obtain⟨d,g,v,E⟩:=I.list x;have y:=g.length;rw[BY]at y;refine Pa (P:=X.prog) (w:=X.w) (I.ok.hd z) (.inl v.isList) (by simpa using uB g) (by rw[cM,show d.length=c.length by lia,E6,cN];exact f) λA j S k=>?_;have i:lh X.prog X.w A s.heap.objs.size ((d_ c).map tS):=by
  have e:d.toArray.size=c.length:=by rw[cM];lia
  rw[e,E6]at S;exact S
 refine⟨.ref s.heap.objs.size,_,I.laid (t':=j) (o:=nD X s.heap.objs.size (d_ c)) (λb o e=>k b o (bC e) e) (aZ _) ?_,rfl,q _ I.fresh⟩;obtain⟨J,K,t,D,e,_⟩:=i.ex;exact⟨i,⟨_,e⟩,λG F n m=>n.at m⟩
end
structure cU(K:ay)(mg:Str->Option ai)(x:Str)(st:a8):Prop where
 ex:∃f fd,mg x=aa (.ref f)/\qr K x x st f fd
theorem Hm{H:Hp}{p:af}{o:HO}(h:H p=ae):Same H (upd H p o):=λb u q=>by rw[bh (kR q h)];exact q
theorem BM{a:Type}{xs:List a}{k:Int}(b:0<=k)(h:k.toNat<xs.length):fE xs k=aa xs[k.toNat]:=by
 have e:((k.toNat:Nat):Int)=k:=∅
 have q:=RX (xs:=xs) (j:=k.toNat) (v:=xs[k.toNat]) (by simp[h]);rwa[e]at q
def FN(N:List Str)(d a:d9)(x:Str)(c:List Str)(b:List Nat):Bool :=
 decide (a.kind=.function)&&a.names.all (λy=>(decide (y.2≠.cell)||decide (a.names.lookup y.1=aa .cell))&&(decide (y.2≠.local)||decide (a.names.lookup y.1=aa .local))&&(decide (y.2≠.free)||decide (d.names.lookup y.1=aa .cell)||decide (d.names.lookup y.1=aa .free)))
 && (decide (a.names.lookup x=aa .local)||decide (a.names.lookup x=aa .cell))&&decide c.Nodup&&decide (c.head?=aa x)&&decide (c.length=b.length+1)&&(b.zip c.tail).all λp=>(decide (N[p.1]?=aa p.2)&&decide (a.names.lookup p.2=aa .free))||(decide (N.length<=p.1)&&decide (a.names.lookup p.2=aa .local))
theorem jr.of{X:Cx}{a:d9}{x:Str}{N':List Str}{cap:List Nat}(N:List Str)(f:d9)(l:X.N=N)(c:X.env.scope=f)(h:FN N f a x N' cap=ah):jr X a x N' cap:=by
 subst l c;simp only[FN,g7,decide_eq_true_eq,tP,C5]at h;obtain⟨⟨⟨⟨⟨⟨r,d⟩,q⟩,p⟩,o⟩,n⟩,m⟩:=h;refine⟨r,λy b e=>(d y b).1.1.elim (λz=>absurd e z) λz=>z,λy b e=>?_,q,λy b e=>?_,p,o,n,λi j y u s=>?_⟩
 .rcases(d y b).1.2 with z|z
  .exact absurd e z
  .exact z
 .rcases(d y b).2 with(z|z)|z
  .exact absurd e z
  .exact .inl z
  .exact .inr z
 .have g:(j,y)∈cap.zip N'.tail:=by
   refine List.mem_iff_getElem?.mpr ⟨i,?_⟩;rw[zI];refine⟨s,?_⟩;rw[<-List.drop_one,zJ,Nat.add_comm];exact u
  exact m _ g
end L2
namespace Pu
open L2
abbrev St:=L2.St
inductive PV where
 |non|bl (b:Bool)|int (i:Int)|str (x:Tx)|tup (xs:List PV)|lst (xs:List PV)|raw (v:V)|exc (c:ai)
def nI(a:af)(c:ai):HO:=.ext λh=>∃o b,h.get? a=aa o/\o.cls=c/\o.data=.fields b/\o.dict=ae
def bj:Nat:=1000000
theorem mz:bj<=bf:=by rw[lO];decide
def ef:HO->Prop
 |.lst _=>True
 |.dK _=>True
 |.dT _=>True
 |.dN _=>True
 |.ins _ _ _=>True
 |.own _=>True
 |_=>False
mutual
def aY(K:ay)(H:Hp)(F:af->Prop):PV->V->Prop
 |.non,v=>v=.non
 |.bl b,v=>v=.bl b
 |.int i,v=>v=.int i
 |.str x,v=>v=tV x/\x.length<=bj
 |.tup xs,v=>∃a d,v=.ref a/\H a=aa (.tup d)/\Reps K H F xs d
 |.lst xs,v=>∃a d,v=.ref a/\Rd H a (.lst d)/\F a/\Reps K H F xs d
 |.raw u,v=>v=u
 |.exc c,v=>∃a,v=.ref a/\H a=aa (nI a c)
def Reps(K:ay)(H:Hp)(F:af->Prop):List PV->List V->Prop
 |[],a=>a=[]
 |x::xs,a=>∃v r,a=v::r/\aY K H F x v/\Reps K H F xs r
end
section
variable{K:ay}{H H':Hp}{F b:af->Prop}
mutual
theorem aY.mono(g:∀a,F a->b a)(f:∀a xs,F a->Rd H a (.lst xs)->Rd H' a (.lst xs))(d:∀a o,H a=aa o->¬ef o->H' a=aa o):∀(x:PV) (v:V),aY K H F x v->aY K H' b x v
 |.non,_,h=>h
 |.bl _,_,h=>h
 |.int _,_,h=>h
 |.str _,_,h=>h
 |.raw _,_,h=>h
 |.exc _,_,⟨a,e,h⟩=>⟨a,e,d a _ h id⟩
 |.tup xs,_,⟨a,c,e,j,i⟩=>⟨a,c,e,d a _ j id,Reps.mono g f d xs c i⟩
 |.lst xs,_,⟨a,c,e,j,l,i⟩=>⟨a,c,e,f a c l j,g a l,Reps.mono g f d xs c i⟩
theorem Reps.mono(g:∀a,F a->b a)(f:∀a xs,F a->Rd H a (.lst xs)->Rd H' a (.lst xs))(d:∀a o,H a=aa o->¬ef o->H' a=aa o):∀(xs:List PV) (c:List V),Reps K H F xs c->Reps K H' b xs c
 |[],_,h=>h
 |x::xs,_,⟨v,r,e,j,i⟩=>⟨v,r,e,aY.mono g f d x v j,Reps.mono g f d xs r i⟩
end
theorem Reps.len:∀{xs:List PV}{a:List V},Reps K H F xs a->a.length=xs.length
 |[],_,h=>by rw[show _=[] from h];rfl
 |_::_,_,⟨_,_,e,_,b⟩=>by rw[e,cE,cE,Reps.len b]
theorem Reps.get:∀{xs:List PV}{c:List V}{i:Nat}{x:PV},Reps K H F xs c->xs[i]?=aa x->∃v,c[i]?=aa v/\aY K H F x v
 |[],_,_,_,_,e=>by simp at e
 |x::xs,_,0,y,⟨v,r,e,h1,_⟩,q=>by simp at q;subst q;subst e;exact⟨v,rfl,h1⟩
 |x::xs,_,i+1,y,⟨v,r,e,_,h2⟩,q=>by obtain⟨w,a,b⟩:=Reps.get (i:=i) (x:=y) h2 (~~~q);subst e;exact⟨w,by simpa using a,b⟩
theorem Reps.back:∀{xs:List PV}{c:List V}{i:Nat}{v:V},Reps K H F xs c->c[i]?=aa v->∃x,xs[i]?=aa x/\aY K H F x v
 |[],_,_,_,h,e=>by rw[show _=[] from h]at e;simp at e
 |x::xs,_,0,y,⟨v,r,e,h1,_⟩,q=>by subst e;simp at q;subst q;exact⟨x,rfl,h1⟩
 |x::xs,_,i+1,y,⟨v,r,e,_,h2⟩,q=>by subst e;obtain⟨w,a,b⟩:=Reps.back (i:=i) (v:=y) h2 (~~~q);exact⟨w,by simpa using a,b⟩
theorem Reps.app:∀{xs a:List PV}{c b:List V},Reps K H F xs c->Reps K H F a b->Reps K H F (xs++a) (c++b)
 |[],_,_,_,h,g=>by rw[show _=[] from h];exact g
 |x::xs,_,_,_,⟨v,r,e,f,d⟩,g=>by subst e;exact⟨v,_,rfl,f,Reps.app d g⟩
theorem Reps.one{x:PV}{v:V}(h:aY K H F x v):Reps K H F [x] [v]:=⟨v,[],rfl,h,rfl⟩
theorem Reps.drop:∀(n:Nat) {xs:List PV}{a:List V},Reps K H F xs a->Reps K H F (xs.drop n) (a.drop n)
 |0,_,_,h=>h
 |_+1,[],_,h=>by rw[show _=[] from h];rfl
 |n+1,_::_,_,⟨_,_,e,_,h2⟩=>by subst e;exact Reps.drop n h2
theorem Reps.take:∀(n:Nat) {xs:List PV}{a:List V},Reps K H F xs a->Reps K H F (xs.take n) (a.take n)
 |0,_,_,_=>by rw[Di,Di];rfl
 |_+1,[],_,h=>by rw[show _=[] from h];rfl
 |n+1,_::_,_,⟨v,_,e,h1,h2⟩=>by subst e;exact⟨v,_,rfl,h1,Reps.take n h2⟩
end
structure bq(O O' F F':af->Prop)(H H':Hp):Prop where
 fro:∀a,F a->F' a
 keep:∀b o,H b=aa o->¬O b->H' b=aa o
 there:∀b o,H b=aa o->∃o',H' b=aa o'
 fnew:∀a,F' a->F a\/H a=ae\/O a
 onew:∀a,O' a->O a\/H a=ae
theorem bq.refl(O F:af->Prop)(H:Hp):bq O O F F H H:=⟨λ_ h=>h,λ_ _ h _=>h,λ_ o h=>⟨o,h⟩,λ_ h=>.inl h,λ_ h=>.inl h⟩
theorem bq.trans{O i f F m l:af->Prop}{H d j:Hp}(g:bq O i F m H d)(k:bq i f m l d j):bq O f F l H j where
 fro:=λa h=>k.fro a (g.fro a h)
 keep:=λb o h n=>k.keep b o (g.keep b o h n) λz=>(g.onew b z).elim n λq=>by rw[q]at h;cases h
 there:=λb o h=>let ⟨o',c⟩:=g.there b o h;k.there b o' c
 fnew:=λa h=>by
  have back:d a=ae->H a=ae\/O a:=λz=>by
   cases q:H a with
   |none=>exact .inl rfl
   |some o=>obtain⟨o',c⟩:=g.there a o q;rw[z]at c;cases c
  rcases k.fnew a h with z|z|z
  .exact g.fnew a z
  .exact .inr (back z)
  .exact .inr ((g.onew a z).symm)
 onew:=λa h=>by
  rcases k.onew a h with z|z
  .exact g.onew a z
  .cases q:H a with
   |none=>exact .inr rfl
   |some o=>obtain⟨o',c⟩:=g.there a o q;rw[z]at c;cases c
def Fit(O F:af->Prop)(H:Hp):Prop:=∀b,O b->¬F b/\∃o,H b=aa o/\ef o
section
variable{K:ay}{O c F b:af->Prop}{H H':Hp}
theorem bq.imm(g:bq O c F b H H')(f:Fit O F H){a:af}{o:HO}(h:H a=aa o)(n:¬ef o):H' a=aa o :=
 g.keep _ _ h λz=>by
  obtain⟨_,j,d,i⟩:=f a z;rw[h]at d;cases d;exact n i
theorem bq.lst(g:bq O c F b H H')(f:Fit O F H){a:af}{xs:List V}(d:F a)(h:Rd H a (.lst xs)):Rd H' a (.lst xs):=by
 have no:¬O a:=λz=>(f a z).1 d;rcases h with h|⟨o,h⟩
 .exact .inl (g.keep _ _ h no)
 .exact .inr ⟨o,g.keep _ _ h no⟩
theorem aY.grow(g:bq O c F b H H')(f:Fit O F H){x:PV}{v:V}(h:aY K H F x v):aY K H' b x v:=aY.mono g.fro (λ_ _ a q=>g.lst f a q) (λ_ _ q n=>g.imm f q n) x v h
theorem Reps.grow(g:bq O c F b H H')(f:Fit O F H){x:List PV}{v:List V}(h:Reps K H F x v):Reps K H' b x v:=Reps.mono g.fro (λ_ _ a q=>g.lst f a q) (λ_ _ q n=>g.imm f q n) x v h
end
theorem _root_.L2.Same.rd{H b:Hp}{a:af}{u:HO}(e:Same H b)(h:Rd H a u):Rd b a u:=h.elim (λz=>.inl (e _ _ z)) λ⟨o,z⟩=>.inr ⟨o,e _ _ z⟩
structure Al(F F':af->Prop)(H H':Hp):Prop where
 fro:∀a,F a->F' a
 same:Same H H'
 fnew:∀a,F' a->F a\/(H a=ae/\∃o,H' a=aa o)
theorem Al.refl(F:af->Prop)(H:Hp):Al F F H H:=⟨λ_ h=>h,Same.refl H,λ_ h=>.inl h⟩
theorem Al.grow{F d O:af->Prop}{H c:Hp}(a:Al F d H c):bq O O F d H c :=⟨a.fro,λb o h _=>a.same b o h,λb o h=>⟨o,a.same b o h⟩,λb h=>(a.fnew b h).imp id λz=>.inl z.1,λ_ h=>.inl h⟩
theorem Al.rep{K:ay}{F c:af->Prop}{H b:Hp}(a:Al F c H b){x:PV}{v:V}(h:aY K H F x v):aY K b c x v:=aY.mono a.fro (λ_ _ _ q=>a.same.rd q) (λ_ _ q _=>a.same _ _ q) x v h
theorem Al.reps{K:ay}{F c:af->Prop}{H b:Hp}(a:Al F c H b){x:List PV}{v:List V}(h:Reps K H F x v):Reps K b c x v:=Reps.mono a.fro (λ_ _ _ q=>a.same.rd q) (λ_ _ q _=>a.same _ _ q) x v h
theorem Al.trans{F i g:af->Prop}{H f d:Hp}(a:Al F i H f)(b:Al i g f d):Al F g H d :=
 ⟨λc h=>b.fro c (a.fro c h),a.same.trans b.same,λc h=>by
  rcases b.fnew c h with z|⟨z,w⟩
  .rcases a.fnew c z with y|⟨y,o,q⟩
   .exact .inl y
   .exact .inr ⟨y,o,b.same _ _ q⟩
  .exact .inr ⟨a.same.free z,w⟩⟩
theorem Al.new{F:af->Prop}{H:Hp}{l:af}{o:HO}(h:H l=ae):Al F (λa=>F a\/a=l) H (upd H l o) :=⟨λ_ h=>.inl h,Hm h,λa z=>z.imp id λe=>by subst e;exact⟨h,o,upd_same⟩⟩
theorem Al.new0{F:af->Prop}{H:Hp}{l:af}{o:HO}(h:H l=ae):Al F F H (upd H l o):=⟨λ_ h=>h,Hm h,λa z=>.inl z⟩
inductive PO where
 |lst (xs:List PV)|dK (kvs:List (aE×PV))|lls (kJ:List (List PV))|ins (C:af) (fs:List (Str×PV))|dT (kvs:List (List aE×PV))|dN (kvs:List ((Tx×List Tx)×PV))|inl (C:af) (fs:List (Str×PV)) (y:Str) (xs:List PV)
def gM:PO->Bool
 |.lls _=>aj
 |.inl ..=>aj
 |_=>ah
inductive Slot where
 |none|val (v:PV)|own (o:PO)
abbrev ak:=List Slot
def ik(K:ay)(H:Hp)(F:af->Prop)(a:List (aE×PV))(b:List (aE×V)):Prop:=km (λ(p:aE×PV) (q:aE×V)=>p.1=q.1/\aY K H F p.2 q.2) a b
def u5(K:ay)(H:Hp)(F:af->Prop)(fs:List (Str×PV))(a:List (Str×V)):Prop:=km (λ(p:Str×PV) (q:Str×V)=>p.1=q.1/\aY K H F p.2 q.2) fs a
def jU(K:ay)(H:Hp)(F:af->Prop)(a:List (List aE×PV))(b:List (List aE×V)):Prop:=km (λ(p:List aE×PV) (q:List aE×V)=>p.1=q.1/\aY K H F p.2 q.2) a b
def nS(k:Tx×List Tx):Str×List Str:=(tS k.1,k.2.map tS)
def yF(K:ay)(H:Hp)(F:af->Prop)(a:List ((Tx×List Tx)×PV))(b:List ((Str×List Str)×V)):Prop:=km (λ(p:(Tx×List Tx)×PV) (q:(Str×List Str)×V)=>nS p.1=q.1/\aY K H F p.2 q.2) a b
def zf(K:ay)(H:Hp)(F:af->Prop)(c:List (List PV))(d:List af):Prop:=km (λ(xs:List PV) (b:af)=>∃a,H b=aa (.lst a)/\Reps K H F xs a) c d
def gd(K:ay)(H:Hp)(F:af->Prop)(j:PO)(a:af)(S:af->Prop):Prop :=
 match j with
 |.lst xs=>(∃g,H a=aa (.lst g)/\Reps K H F xs g)/\∀b,S b↔b=a
 |.dK f=>(∃d,H a=aa (.dK d)/\ik K H F f d)/\∀b,S b↔b=a
 |.lls l=>∃h,H a=aa (.lst (h.map .ref))/\zf K H F l h/\h.Nodup/\a∉h/\∀b,S b↔b=a\/b∈h
 |.ins C fs=>(∃i d,H a=aa (.ins C i d)/\u5 K H F fs d)/\∀b,S b↔b=a
 |.dT f=>(∃d,H a=aa (.dT d)/\jU K H F f d)/\∀b,S b↔b=a
 |.dN f=>(∃d,H a=aa (.dN d)/\yF K H F f d)/\∀b,S b↔b=a
 |.inl C fs y xs=>∃i d b g,H a=aa (.ins C i (d++[(y,.ref b)]))/\u5 K H F fs d/\fs.lookup y=ae/\H b=aa (.lst g)/\Reps K H F xs g/\a≠b/\∀c,S c↔c=a\/c=b
structure aS(K:ay)(F:af->Prop)(S:Nat->af->Prop)(ε:ak)(σ:St)(H:Hp):Prop where
 len:ε.length=σ.length
 ex:∀a,F a->∃o,H a=aa o
 val:∀(i:Nat) (pv:PV),ε[i]?=aa (.val pv)->∃v,σ[i]?=aa (aa v)/\aY K H F pv v
 own:∀(i:Nat) (po:PO),ε[i]?=aa (.own po)->∃a,σ[i]?=aa (aa (.ref a))/\gd K H F po a (S i)
 foot:∀(i:Nat) (b:af),S i b->(∃po,ε[i]?=aa (.own po))/\¬F b/\∃o,H b=aa o/\ef o
 dist:∀(i j:Nat) (b:af),S i b->S j b->i=j
def U(S:Nat->af->Prop)(b:af):Prop:=∃i,S i b
section
variable{K:ay}{F d:af->Prop}{S:Nat->af->Prop}{g:ak}{f:St}{H H':Hp}
theorem aS.fit(r:aS K F S g f H):Fit (U S) F H:=λb ⟨i,h⟩=>(r.foot i b h).2
theorem ik.mono{a:List (aE×PV)}{b:List (aE×V)}(i:∀x v,aY K H F x v->aY K H' d x v)(h:ik K H F a b):ik K H' d a b:=by
 unfold ik at h ⊢
 induction h with
 |nil=>exact .nil
 |cons r _ c=>exact .cons ⟨r.1,i _ _ r.2⟩ c
theorem u5.mono{fs:List (Str×PV)}{a:List (Str×V)}(c:∀x v,aY K H F x v->aY K H' d x v)(h:u5 K H F fs a):u5 K H' d fs a:=by
 unfold u5 at h ⊢
 induction h with
 |nil=>exact .nil
 |cons r _ b=>exact .cons ⟨r.1,c _ _ r.2⟩ b
theorem jU.mono{a:List (List aE×PV)}{b:List (List aE×V)}(i:∀x v,aY K H F x v->aY K H' d x v)(h:jU K H F a b):jU K H' d a b:=by
 unfold jU at h ⊢
 induction h with
 |nil=>exact .nil
 |cons r _ c=>exact .cons ⟨r.1,i _ _ r.2⟩ c
theorem yF.mono{a:List ((Tx×List Tx)×PV)}{b:List ((Str×List Str)×V)}(i:∀x v,aY K H F x v->aY K H' d x v)(h:yF K H F a b):yF K H' d a b:=by
 unfold yF at h ⊢
 induction h with
 |nil=>exact .nil
 |cons r _ c=>exact .cons ⟨r.1,i _ _ r.2⟩ c
theorem zf.mono{c:List (List PV)}{a:List af}(j:∀x v,Reps K H F x v->Reps K H' d x v)(i:∀b o,b∈a->H b=aa o->H' b=aa o)(h:zf K H F c a):zf K H' d c a:=by
 unfold zf at h ⊢
 induction h with
 |nil=>exact .nil
 |cons r _ m=>obtain⟨l,q,p⟩:=r;exact .cons ⟨l,i _ _ (by simp) q,j _ _ p⟩ (m λb o n=>i b o (by simp[n]))
theorem gd.mono{r:PO}{a:af}{u:af->Prop}(l:∀x v,aY K H F x v->aY K H' d x v)(m:∀x v,Reps K H F x v->Reps K H' d x v)(i:∀b o,u b->H b=aa o->H' b=aa o)(h:gd K H F r a u):gd K H' d r a u:=by
 cases r with
 |lst xs=>obtain⟨⟨p,e,q⟩,w⟩:=h;exact⟨⟨p,i a _ ((w a).mpr rfl) e,m _ _ q⟩,w⟩
 |dK j=>obtain⟨⟨c,e,q⟩,w⟩:=h;exact⟨⟨c,i a _ ((w a).mpr rfl) e,q.mono l⟩,w⟩
 |lls J=>obtain⟨I,e,q,D,B,w⟩:=h;exact⟨I,i a _ ((w a).mpr (.inl rfl)) e,q.mono m λb o E=>i b o ((w b).mpr (.inr E)),D,B,w⟩
 |ins C fs=>obtain⟨⟨s,c,e,q⟩,w⟩:=h;exact⟨⟨s,c,i a _ ((w a).mpr rfl) e,q.mono l⟩,w⟩
 |dT j=>obtain⟨⟨c,e,q⟩,w⟩:=h;exact⟨⟨c,i a _ ((w a).mpr rfl) e,q.mono l⟩,w⟩
 |dN j=>obtain⟨⟨c,e,q⟩,w⟩:=h;exact⟨⟨c,i a _ ((w a).mpr rfl) e,q.mono l⟩,w⟩
 |inl C fs y xs=>obtain⟨s,c,b,p,e,q,n,G,z,A,w⟩:=h;exact⟨s,c,b,p,i a _ ((w a).mpr (.inl rfl)) e,q.mono l,n,i b _ ((w b).mpr (.inr rfl)) G,m _ _ z,A,w⟩
theorem aS.al(r:aS K F S g f H)(a:Al F d H H'):aS K d S g f H' where
 len:=r.len
 ex:=λb h=>(a.fnew b h).elim (λz=>let ⟨o,q⟩:=r.ex b z;⟨o,a.same _ _ q⟩) λz=>z.2
 val:=λi pv e=>let ⟨v,l,j⟩:=r.val i pv e;⟨v,l,a.rep j⟩
 own:=λi n e=>let ⟨b,l,j⟩:=r.own i n e;⟨b,l,j.mono (λ_ _ q=>a.rep q) (λ_ _ q=>a.reps q) λc o _ q=>a.same _ _ q⟩
 foot:=λi b h=>by
  obtain⟨l,j,o,m,p⟩:=r.foot i b h;refine⟨l,λz=>?_,o,a.same _ _ m,p⟩;rcases a.fnew b z with y|⟨y,_⟩
  .exact j y
  .rw[m]at y;cases y
 dist:=r.dist
end
inductive R(α:Type) where
 |ok (a:α) (ε:ak)|er (c:ai) (ε:ak)|no
abbrev ac(α:Type):=ak->R α
def R.bind{d b:Type}(r:R d)(k:d->ak->R b):R b:=match r with
 |.ok a ε=>k a ε
 |.er c ε=>.er c ε
 |.no=>.no
def aM{b:Type}(o:Option b)(ε:ak):R b:=match o with
 |some a=>.ok a ε
 |none=>.no
@[simp] theorem R.bind_ok{b c:Type}(a:b)(ε:ak)(k:b->ak->R c):(R.ok a ε).bind k=k a ε:=rfl
@[simp] theorem R.bind_er{b d:Type}(c:ai)(a:ak)(k:b->ak->R d):(R.er c a:R b).bind k=.er c a:=rfl
@[simp] theorem R.bind_no{a b:Type}(k:a->ak->R b):(R.no:R a).bind k=.no:=rfl
@[simp] theorem cJ{c:Type}(a:c)(b:ak):aM (aa a) b=.ok a b:=rfl
@[simp] theorem VC{b:Type}(a:ak):aM (ae:Option b) a=.no:=rfl
def Ok(K:ay)(E:XK)(h:St)(F:af->Prop)(S:Nat->af->Prop)(H:Hp){i:Type}(r:R i)(C:i->ak->(af->Prop)->(Nat->af->Prop)->Hp->Prop):Prop:=match r with
 |.ok a b=>∀g f d,aS K g f b h d->bq (U S) (U f) F g H d->C a b g f d
 |.er c b=>∀x g f d,aS K g f b h d->bq (U S) (U f) F g H d->E c x d
 |.no=>False
section
variable{K:ay}{E:XK}{b:St}{F:af->Prop}{S:Nat->af->Prop}{H:Hp}{d i:Type}{C C':d->ak->(af->Prop)->(Nat->af->Prop)->Hp->Prop}{D:i->ak->(af->Prop)->(Nat->af->Prop)->Hp->Prop}
theorem Ok.imp{r:R d}(h:Ok K E b F S H r C)(f:∀a j n l m,aS K n l j b m->bq (U S) (U l) F n H m->C a j n l m->C' a j n l m):Ok K E b F S H r C':=by
 cases r with
 |ok a j=>exact λn l m r g=>f a j n l m r g (h n l m r g)
 |er c j=>exact h
 |no=>exact h
theorem Ok.from{r:R i}{q:af->Prop}{o:Nat->af->Prop}{p:Hp}(h:Ok K E b F S H r D)(g:bq (U S) (U o) F q H p):Ok K E b q o p r D:=by
 cases r with
 |ok a f=>exact λn l m j g'=>h n l m j (g.trans g')
 |er c f=>exact λx n l m j g'=>h x n l m j (g.trans g')
 |no=>exact h
theorem Ok.bind{r:R d}{k:d->ak->R i}(h:Ok K E b F S H (r.bind k) D):Ok K E b F S H r (λa ε1 m j l=>Ok K E b m j l (k a ε1) D):=by
 cases r with
 |ok a f=>exact λp n o r g=>Ok.from h g
 |er c f=>exact h
 |no=>exact h
end
structure Bx(p:Prop):Prop where
 run:p
def jo(X:Cx)(e:aC):TE:=λa H Q=>Bx (∀b s,Inv X b a H s->ar (au X.prog X.w) X.A (aX e X.env) (EP X b a Q) X.xe s)
def Ap(X:Cx)(e:aC):TT:=λa H Q=>Bx (∀b s,Inv X b a H s->ar (au X.prog X.w) X.A (n6 e X.env (aX e X.env)) (TP X b a Q) X.xe s)
def wpS(X:Cx)(c:a8):TS:=λD b H=>Bx (∀a s,Inv X a b H s->ar (au X.prog X.w) X.A (exec c X.env) (SP X a D) X.xe s)
def oX(X:Cx)(c:List a8):TS:=λD b H=>Bx (∀a s,Inv X a b H s->ar (au X.prog X.w) X.A (execs c X.env) (SP X a D) X.xe s)
section
variable{X:Cx}{e:aC}{b:a8}{a:List a8}
theorem bQ:PE X e (jo X e):=λc s _ _ _ I h=>h.run c s I
theorem qB:PT X e (Ap X e):=λc s _ _ _ I h=>h.run c s I
theorem FQ:PS X b (wpS X b):=λc s _ _ _ I h=>h.run c s I
theorem qN:lK X a (oX X a):=λc s _ _ _ I h=>h.run c s I
theorem b9{t:TE}(h:PE X e t){c:St}{H:Hp}{Q:VK}(q:t c H Q):jo X e c H Q:=⟨λd s I=>h d s c H Q I q⟩
theorem tq{t:TT}(h:PT X e t){c:St}{H:Hp}{Q:Bool->Hp->Prop}(q:t c H Q):Ap X e c H Q:=⟨λd s I=>h d s c H Q I q⟩
theorem iM{t:TS}(h:PS X b t){c:St}{H:Hp}{D:lG}(q:t D c H):wpS X b D c H:=⟨λd s I=>h d s c H D I q⟩
theorem BU{t:TS}(h:lK X a t){c:St}{H:Hp}{D:lG}(q:t D c H):oX X a D c H:=⟨λd s I=>h d s c H D I q⟩
end
def DE(X:Cx)(E:XK)(e:aC)(d:ac PV):Prop :=
 ∀F S ε a H Q,aS X.K F S ε a H->Ok X.K E a F S H (d ε) (λpv _ c _ b=>∀v,aY X.K b c pv v->Q v b)->jo X e a H Q
def DN(X:Cx)(E:XK)(e:aC)(d:ac PO):Prop :=
 ∀F S g c H Q,aS X.K F S g c H->Ok X.K E c F S H (d g) (λj _ i l f=>∀a h,gd X.K f i j a h->(∀b,h b->H b=ae/\¬i b/\¬U l b/\∃o,f b=aa o/\ef o)->Q (.ref a) f)->jo X e c H Q
def DT(X:Cx)(E:XK)(e:aC)(d:ac Bool):Prop :=
 ∀F S ε a H Q,aS X.K F S ε a H->Ok X.K E a F S H (d ε) (λb _ _ _ c=>Q b c)->Ap X e a H Q
open L2
section
variable{X:Cx}{E:XK}{a b c:aC}{m db A:ac PV}{pos:Pos}
def dC(pv:PV):ac PV:=λε=>.ok pv ε
theorem aJ{i j pos}:DE X E (.Constant (.int i) j pos) (dC (.int i)):=λF S f d H Q r h=>b9 Iu (h F S H r (bq.refl ..) _ rfl)
theorem jR{i j pos}:DE X E (.Constant (.bool i) j pos) (dC (.bl i)):=λF S f d H Q r h=>b9 QA (h F S H r (bq.refl ..) _ rfl)
theorem K2{j pos}:DE X E (.Constant .none j pos) (dC .non):=λF S f d H Q r h=>b9 QS (h F S H r (bq.refl ..) _ rfl)
theorem et(l:Tx){x:Str}{j pos}(d:x=tS l:=by decide +kernel)(f:l.length<=bj:=by decide):DE X E (.Constant (.str x) j pos) (dC (.str l)):=λF S i g H Q r h=>b9 O9 (h F S H r (bq.refl ..) _ (by rw[d];exact⟨rfl,f⟩))
def dV(i:Nat):ac PV:=λε=>match ε[i]? with
 |some (.val pv)=>.ok pv ε
 |_=>.no
theorem ax(i:Nat){x:Str}{pos:Pos}(g:X.N[i]?=aa x:=by rfl)(d:fh X.env.scope x:=by first|exact Or.inl rfl|exact Or.inr (Or.inl rfl)|exact Or.inr (Or.inr rfl))(f:ad x:=by decide)(n:(x==("__classdict__":Str))=aj:=by decide):DE X E (.Name x pos) (dV i):=λF S q o H Q r h=>by
 unfold dV at h;split at h
 .rename_i p e;obtain⟨v,l,j⟩:=r.val i p e;exact b9 (gC g d f n) ⟨v,l,h F S H r (bq.refl ..) v j⟩
 .exact h.elim
theorem B_{x:Str}{i:Int}{pos:Pos}(h:∃t,X.mg x=aa (.int i t))(d:Gl X x:=by rfl)(f:ad x:=by decide):DE X E (.Name x pos) (dC (.int i)):=λF S j g H Q r q=>by obtain⟨t,e⟩:=h;exact b9 (BC (v:=.int i) d e ⟨t,rfl⟩ f) (q F S H r (bq.refl ..) _ rfl)
theorem Cc{x:Str}{l:Tx}{pos:Pos}(h:∃t,X.mg x=aa (.str (tS l) t))(f:Gl X x:=by rfl)(d:l.length<=bj:=by decide)(g:ad x:=by decide):DE X E (.Name x pos) (dC (.str l)):=λF S j i H Q r q=>by obtain⟨t,e⟩:=h;exact b9 (BC (v:=tV l) f e ⟨t,rfl⟩ g) (q F S H r (bq.refl ..) _ ⟨rfl,d⟩)
def aS.frz{K:ay}{F:af->Prop}{S:Nat->af->Prop}{p:ak}{s:St}{H:Hp}{i:Nat}{xs:List PV}(r:aS K F S p s H)(e:p[i]?=aa (.own (.lst xs))):∃a y J,aS K y J (p.set i (.val (.lst xs))) s H/\bq (U S) (U J) F y H H/\s[i]?=aa (aa (.ref a))/\aY K H y (.lst xs) (.ref a):=by
 obtain⟨a,I,⟨L,D,M⟩,G⟩:=r.own i _ e;have C:i<p.length:=(c_.mp e).1;have g:∀b,F b->F b\/b=a:=λb h=>.inl h;have mono:∀x v,aY K H F x v->aY K H (λb=>F b\/b=a) x v:=aY.mono g (λ_ _ _ q=>q) (λ_ _ q _=>q);have d:∀x v,Reps K H F x v->Reps K H (λb=>F b\/b=a) x v:=Reps.mono g (λ_ _ _ q=>q) (λ_ _ q _=>q);have B:aY K H (λb=>F b\/b=a) (.lst xs) (.ref a):=⟨a,L,rfl,.inl D,.inr rfl,d _ _ M⟩
 refine⟨a,λb=>F b\/b=a,λj b=>S j b/\j≠i,⟨by rw[jk];exact r.len,λb h=>?_,λj pv q=>?_,λj w q=>?_,λj b h=>?_,λj k b O N=>r.dist j k b O.1 N.1⟩,?_,I,B⟩
 .rcases h with h|rfl
  .exact r.ex b h
  .exact⟨_,D⟩
 .by_cases f:i=j
  .subst f;rw[fZ C]at q;cases q;exact⟨_,I,B⟩
  .rw[eK f]at q;obtain⟨v,n,l⟩:=r.val j pv q;exact⟨v,n,mono _ _ l⟩
 .by_cases f:i=j
  .subst f;rw[fZ C]at q;cases q
  .rw[eK f]at q;obtain⟨v,n,l⟩:=r.own j w q;refine⟨v,n,?_⟩;have u:=l.mono (H':=H) mono d λ_ _ _ z=>z;have P:(λb=>S j b/\j≠i)=S j:=by funext b;simp[dW f]
   rw[P];exact u
 .obtain⟨⟨w,n⟩,l,u⟩:=r.foot j b h.1;refine⟨⟨w,by rw[eK (dW h.2)];exact n⟩,λz=>?_,u⟩;rcases z with z|rfl
  .exact l z
  .exact h.2 (r.dist j i b h.1 ((G b).mpr rfl))
 .refine⟨λ_ h=>.inl h,λb o h _=>h,λb o h=>⟨o,h⟩,λb h=>?_,λb ⟨j,h⟩=>.inl ⟨j,h.1⟩⟩;rcases h with h|rfl
  .exact .inl h
  .exact .inr (.inr ⟨i,(G b).mpr rfl⟩)
def dM(i:Nat):ac PV:=λd=>match d[i]? with
 |some (.own (.lst xs))=>.ok (.lst xs) (d.set i (.val (.lst xs)))
 |_=>.no
theorem Up(i:Nat){x:Str}{pos:Pos}(l:X.N[i]?=aa x:=by rfl)(f:fh X.env.scope x:=by first|exact Or.inl rfl|exact Or.inr (Or.inl rfl)|exact Or.inr (Or.inr rfl))(j:ad x:=by decide)(q:(x==("__classdict__":Str))=aj:=by decide):DE X E (.Name x pos) (dM i):=λF S w v H Q r h=>by
 unfold dM at h;split at h
 .rename_i p e;obtain⟨a,u,s,d,g,o,n⟩:=r.frz e;exact b9 (gC l f j q) ⟨_,o,h u s H d g _ n⟩
 .exact h.elim
def P2(K:ay)(r:R2)(f:PV->PV->Option PV):Prop:=∀(F:af->Prop) (H:Hp) (x y:PV) (v u:V) (Q:VK) (pv:PV),aY K H F x v->aY K H F y u->f x y=aa pv->(∀w g d,Al F g H d->aY K d g pv w->Q w d)->r v u H Q
def d2(f:PV->PV->Option PV)(m db:ac PV):ac PV:=λε=>(m ε).bind λx ε1=>(db ε1).bind λy d=>aM (f x y) d
theorem yZ{r:R2}{f:PV->PV->Option PV}(I:P2 X.K r f)(K:DE X E a m)(J:DE X E b db){F:af->Prop}{S:Nat->af->Prop}{l:ak}{d:St}{H:Hp}{Q:VK}(D:aS X.K F S l d H)(h:Ok X.K E d F S H (d2 f m db l) (λpv _ q _ i=>∀v,aY X.K i q pv v->Q v i)):jo X a d H λx p=>jo X b d p λy o=>r x y o Q:=by
 refine K F S l d H _ D ((Ok.bind h).imp λx j T O p s W L v B=>?_);refine J T O j d p _ s ((Ok.bind L).imp λy z P N o G M g u C=>?_);cases e:f x y with
 |none=>rw[e]at g;exact g.elim
 |some pv=>rw[e]at g;exact I P o x y v u Q pv (B.grow M s.fit) C e λw q i al n=>g q N i (G.al al) al.grow w n
theorem cI{d:Operator}{r:R2}{f:PV->PV->Option PV}(j:bT X (il d) r)(i:P2 X.K r f)(n:DE X E a m)(l:DE X E b db):DE X E (.BinOp a d b pos) (d2 f m db):=λF S p o H Q g h=>b9 (Kr j bQ bQ) (yZ i n l g h)
theorem qR{d:CmpOp}{r:R2}{f:PV->PV->Option PV}(j:bT X (dX d) r)(i:P2 X.K r f)(o:DE X E a m)(n:DE X E b db)(l:pc d b=aj):DE X E (.Compare a [d] [b] pos) (d2 f m db):=λF S q p H Q g h=>b9 (R1 j bQ bQ l) (yZ i o n g h)
def ml:PV->Option Bool
 |.bl b=>aa b
 |_=>ae
def dB(d:ac PV):ac Bool:=λε=>(d ε).bind λx ε1=>aM (ml x) ε1
theorem Ik{K:ay}{H:Hp}{F:af->Prop}{x:PV}{v:V}{k:Bool}(h:aY K H F x v)(e:ml x=aa k):v=.bl k:=by
 cases x <;> simp[ml]at e;subst e;exact h
theorem sk{F:af->Prop}{S:Nat->af->Prop}{j:ak}{i:St}{H:Hp}{Q:Bool->Hp->Prop}{d:ac PV}(h:Ok X.K E i F S H (dB d j) (λk _ _ _ g=>Q k g)):Ok X.K E i F S H (d j) (λpv _ s _ g=>∀v,aY X.K g s pv v->∃k,v=.bl k/\Q k g):=by
 refine(Ok.bind h).imp λx l r p q o u f v n=>?_;cases e:ml x with
 |none=>rw[e]at f;exact f.elim
 |some k=>rw[e]at f;exact⟨k,Ik n e,f r p q o (bq.refl ..)⟩
theorem iA{d:CmpOp}{r:R2}{f:PV->PV->Option PV}(j:bT X (dX d) r)(i:P2 X.K r f)(o:DE X E a m)(n:DE X E b db)(l:pc d b=aj):DT X E (.Compare a [d] [b] pos) (dB (d2 f m db)):=λF S s q H Q g h=>tq (N1 j bQ bQ l) (yZ (Q:=λx p=>∃k,x=.bl k/\Q k p) i o n g (sk h))
theorem qW{e:aC}{d:ac PV}(n:DE X E e d)(l:∀f,n6 e X.env f=(do let v <-f;standAt e.pos;holding [v] (truthy v)):=by intro _;rfl):DT X E e (dB d):=λF S i g H Q j h=>tq (Se bQ l) (n F S i g H _ j (sk h))
def qy(f g:PV->PV->Option PV)(m db A:ac PV):ac PV:=λj=>(m j).bind λx i=>(db i).bind λy d=>(aM ((f x y).bind ml) d).bind λk d=>
 match k with
 |true=>(A d).bind λz h=>aM (g y z) h
 |false=>.ok (.bl aj) d
theorem HZ{r O:R2}{f g:PV->PV->Option PV}(hp:P2 X.K r f)(dZ:P2 X.K O g)(ha:DE X E a m)(hb:DE X E b db)(hc:DE X E c A){F:af->Prop}{S:Nat->af->Prop}{B:ak}{j:St}{H:Hp}{Q:VK}(rl:aS X.K F S B j H)(h:Ok X.K E j F S H (qy f g m db A B) (λpv _ l _ i=>∀v,aY X.K i l pv v->Q v i)):AG r O (jo X a) (jo X b) (jo X c) j H Q:=by
 refine ha F S B j H _ rl ((Ok.bind h).imp λx s F1 S1 H1 N g1 h1 v rv=>?_);refine hb F1 S1 s j H1 _ N ((Ok.bind h1).imp λy n T L P r2 g2 d u M=>?_);cases e:f x y with
 |none=>rw[e]at d;exact d.elim
 |some pv=>
  rw[e]at d;refine hp T P x y v u _ pv (rv.grow g2 N.fit) M e λw l i al D=>?_;cases K:ml pv with
  |none=>rw[gk,K]at d;exact d.elim
  |some k=>
   rw[gk,K]at d;refine⟨k,Ik D K,?_⟩;have I:=r2.al al;cases k with
   |false=>exact ql (Ok.from d al.grow l L i I (bq.refl ..) _ rfl)
   |true=>
    have h3:Ok X.K E j T L P ((A n).bind λz q=>aM (g y z) q) (λpv _ l _ i=>∀v,aY X.K i l pv v->Q v i):=d;refine qE (hc l L n j i _ I ((Ok.bind (Ok.from h3 al.grow)).imp λz W F4 S4 H4 r4 g4 p Z G=>?_));cases J:g y z with
    |none=>rw[J]at p;exact p.elim
    |some pz=>rw[J]at p;exact dZ F4 H4 y z u Z Q pz ((al.rep M).grow g4 I.fit) G J λY F5 H5 o C=>p F5 S4 H5 (r4.al o) o.grow Y C
theorem Ub{i d:CmpOp}{r j:R2}{f g:PV->PV->Option PV}(o:bT X (dX i) r)(v:bT X (dX d) j)(n:P2 X.K r f)(w:P2 X.K j g)(u:DE X E a m)(s:DE X E b db)(q:DE X E c A)(p:lastMarks [i,d] [b,c]=aj:=by with_unfolding_all rfl):DE X E (.Compare a [i,d] [b,c] pos) (qy f g m db A):=λF S y x H Q l h=>b9 (QM o v bQ bQ bQ p) (HZ n w u s q l h)
theorem Ms{i d:CmpOp}{r j:R2}{f g:PV->PV->Option PV}(o:bT X (dX i) r)(v:bT X (dX d) j)(n:P2 X.K r f)(w:P2 X.K j g)(u:DE X E a m)(s:DE X E b db)(q:DE X E c A)(p:lastMarks [i,d] [b,c]=aj:=by with_unfolding_all rfl):DT X E (.Compare a [i,d] [b,c] pos) (dB (qy f g m db A)):=λF S B z H Q l h=>tq (Ri o v bQ bQ bQ p) (HZ (Q:=λx y=>∃k,x=.bl k/\Q k y) n w u s q l (sk h))
variable{n B:ac Bool}{rest:List aC}
def DW(X:Cx)(E:XK)(e:aC)(d:ac Bool):Prop:=∀F S g f H Q,aS X.K F S g f H->Ok X.K E f F S H (d g) (λb _ _ _ i=>Q b i)->∀(h:Sem ai) ag s,Inv X ag f H s->ar (au X.prog X.w) X.A (n6 e X.env h) (TP X ag f Q) X.xe s
def Nd(X:Cx)(e:aC):TT:=λd H Q=>∀(f:Sem ai) ag s,Inv X ag d H s->ar (au X.prog X.w) X.A (n6 e X.env f) (TP X ag d Q) X.xe s
theorem Tf{e:aC}:PW X e (Nd X e):=λd f s _ _ _ I h=>h d f s I
theorem DW.dt{e:aC}{d:ac Bool}(h:DW X E e d):DT X E e d:=λF S ε f H Q g q=>⟨λi s I=>h F S ε f H Q g q _ i s I⟩
def Ay(n B:ac Bool):ac Bool:=λf=>(n f).bind λk d=>match k with
 |true=>B d
 |false=>.ok aj d
def iZ(n B:ac Bool):ac Bool:=λε=>(n ε).bind λk d=>match k with
 |true=>.ok ah d
 |false=>B d
def j6(n:ac Bool):ac Bool:=λd=>(n d).bind λk ε1=>.ok (!k) ε1
theorem sq(h:DT X E a n):DW X E (.BoolOp .Or [a] pos) n:=λF S f d H Q g q i j s I=>OM qB i j s d H Q I (h F S f d H Q g q)
theorem sv(v:DT X E a n)(u:DW X E (.BoolOp .Or (b::rest) pos) B):DW X E (.BoolOp .Or (a::b::rest) pos) (iZ n B):=λF S o d H Q p q r w s I=>by
 refine QL qB Tf r w s d H Q I (v F S o d H _ p ((Ok.bind q).imp λk f l i j g x h=>?_));cases k with
 |true=>exact qE (h l i j g (bq.refl ..))
 |false=>exact ql (u l i f d j Q g h)
theorem oS(j:DT X E a n):DT X E (.UnaryOp .Not a pos) (j6 n):=λF S g d H Q h q=>tq (MP qB) (j F S g d H _ h ((Ok.bind q).imp λk f r o p i s l=>l r o p i (bq.refl ..)))
def oP(m db:ac PV):ac PV:=λf=>(dB m f).bind λk d=>match k with
 |true=>db d
 |false=>.ok (.bl aj) d
def He(m db:ac PV):ac PV:=λf=>(dB m f).bind λk d=>match k with
 |true=>.ok (.bl ah) d
 |false=>db d
def yY(m:ac PV):ac PV:=λf=>(dB m f).bind λk d=>.ok (.bl (!k)) d
theorem H_{d:ac PV}{q:Type}{D:q->ak->(af->Prop)->(Nat->af->Prop)->Hp->Prop}{k:Bool->ak->R q}{F:af->Prop}{S:Nat->af->Prop}{p:ak}{o:St}{H:Hp}{P:Bool->Hp->Prop}(h:Ok X.K E o F S H ((dB d p).bind k) D) (f:∀c g l j i,aS X.K l j g o i->bq (U S) (U j) F l H i->Ok X.K E o l j i (k c g) D->P c i):Ok X.K E o F S H (d p) (λpv _ y _ r=>∀v,aY X.K r y pv v->∃c,v=.bl c/\P c r):=by have u:=(Ok.bind h).imp (C':=λc g l j i=>P c i) λc g l j i s x w=>f c g l j i s x w;exact sk u
theorem xn{op}{d:ac PV}(h:DE X E a d):DE X E (.BoolOp op [a] pos) d:=λF S g f H Q i q=>b9 (NP bQ) (h F S g f H Q i q)
theorem vt(s:DE X E a m)(r:DE X E (.BoolOp .And (b::rest) pos) db):DE X E (.BoolOp .And (a::b::rest) pos) (oP m db):=λF S o f H Q p q=>by
 refine b9 (KH bQ bQ) (s F S o f H _ p (H_ q λk d l i j g u h=>?_));cases k with
 |true=>exact qE (r l i d f j Q g h)
 |false=>exact ql (h l i j g (bq.refl ..) _ rfl)
theorem R7(j:DE X E a m):DE X E (.UnaryOp .Not a pos) (yY m):=λF S g d H Q h q=>b9 (SJ bQ) (j F S g d H _ h (H_ q λk f r o p i s l=>l r o p i (bq.refl ..) _ rfl))
def cO{d:Type}(t:ac Bool)(m db:ac d):ac d:=λf=>(t f).bind λk ε1=>match k with
 |true=>m ε1
 |false=>db ε1
theorem Qu(r:DT X E c n)(u:DE X E a m)(s:DE X E b db):DE X E (.IfExp c a b pos) (cO n m db):=λF S o f H Q p q=>by
 refine b9 (OE qB bQ bQ) (r F S o f H _ p ((Ok.bind q).imp λk d l i j g v h=>?_));cases k with
 |true=>exact qE (u l i d f j Q g h)
 |false=>exact ql (s l i d f j Q g h)
def P1(K:ay)(r:V->Hp->VK->Prop)(f:PV->Option PV):Prop:=∀(F:af->Prop) (H:Hp) (x:PV) (v:V) (Q:VK) (pv:PV),aY K H F x v->f x=aa pv->(∀w g d,Al F g H d->aY K d g pv w->Q w d)->r v H Q
def d1(f:PV->Option PV)(m:ac PV):ac PV:=λε=>(m ε).bind λx ε1=>aM (f x) ε1
theorem Q0{r:V->Hp->VK->Prop}{f:PV->Option PV}(z:P1 X.K r f)(C:DE X E a m){F:af->Prop}{S:Nat->af->Prop}{j:ak}{d:St}{H:Hp}{Q:VK}(u:aS X.K F S j d H)(h:Ok X.K E d F S H (d1 f m j) (λpv _ p _ i=>∀v,aY X.K i p pv v->Q v i)):jo X a d H λx o=>r x o Q:=by
 refine C F S j d H _ u ((Ok.bind h).imp λx q G D o y I g v s=>?_);cases e:f x with
 |none=>rw[e]at g;exact g.elim
 |some pv=>rw[e]at g;exact z G o x v Q pv s e λw p i al l=>g p D i (y.al al) al.grow w l
theorem nO{d:UnaryOp}{r:V->Hp->VK->Prop}{f:PV->Option PV}(j:zi X (unaryOp d) r)(i:P1 X.K r f)(l:DE X E a m):DE X E (.UnaryOp d a pos) (d1 f m):=λF S p o H Q g h=>b9 (Sw j bQ) (Q0 i l g h)
end
def qa(X:Cx)(d:List aC):TA:=λb H Q=>Bx (∀a c s,Inv X c b H s->ar (au X.prog X.w) X.A (spliced (c7 a (aU d X.env))) (AP X c b Q) X.xe s)
def DA(X:Cx)(E:XK)(h:List aC)(d:ac (List PV)):Prop :=
 ∀F S c a H Q,aS X.K F S c a H->Ok X.K E a F S H (d c) (λb _ i _ g=>∀f,Reps X.K g i b f->Q f g)->qa X h a H Q
section
variable{X:Cx}{E:XK}{a b c e:aC}{j:List aC}{D db G d:ac PV}{m:ac (List PV)}{pos:Pos}
theorem gS{j:List aC}:PA X j (qa X j):=λpos f s _ _ _ I h=>h.run pos f s I
theorem qo{t:TA}(h:PA X j t){f:St}{H:Hp}{Q:List V->Hp->Prop}(q:t f H Q):qa X j f H Q:=⟨λpos g s I=>h pos g s f H Q I q⟩
def az:ac (List PV):=λε=>.ok [] ε
def ap(d:ac PV)(m:ac (List PV)):ac (List PV):=λε=>(d ε).bind λx ε1=>(m ε1).bind λxs f=>.ok (x::xs) f
theorem aH:DA X E [] az:=λF S i g H Q f h=>qo ka (h F S H f (bq.refl ..) _ rfl)
theorem O7(y:DE X E e d)(w:DA X E j m)(u:aU (e::j) X.env=(aj,aX e X.env)::aU j X.env:=by rfl):DA X E (e::j) (ap d m):=λF S n g H Q q h=>by refine qo (i9 bQ gS u) (y F S n g H _ q ((Ok.bind h).imp λx f M I K i N A v p=>?_));refine w M I f g K _ i ((Ok.bind A).imp λxs l L C J r B z o s=>?_);exact z L C J r (bq.refl ..) _ ⟨v,o,rfl,p.grow B i.fit,s⟩
theorem aS.more{K:ay}{F N:af->Prop}{S:Nat->af->Prop}{p:ak}{n:St}{H:Hp}(r:aS K F S p n H)(s:∀b,N b->¬U S b/\∃o,H b=aa o):aS K (λb=>F b\/N b) S p n H:=by
 have mono:∀x v,aY K H F x v->aY K H (λb=>F b\/N b) x v:=aY.mono (λ_ h=>.inl h) (λ_ _ _ q=>q) (λ_ _ q _=>q);have f:∀x v,Reps K H F x v->Reps K H (λb=>F b\/N b) x v:=Reps.mono (λ_ h=>.inl h) (λ_ _ _ q=>q) (λ_ _ q _=>q);refine⟨r.len,λb h=>h.elim (r.ex b) λz=>(s b z).2,λi pv e=>?_,λi u e=>?_,λi b h=>?_,r.dist⟩
 .obtain⟨v,l,g⟩:=r.val i pv e;exact⟨v,l,mono _ _ g⟩
 .obtain⟨v,l,g⟩:=r.own i u e;exact⟨v,l,g.mono mono f λ_ _ _ z=>z⟩
 .obtain⟨l,g,y⟩:=r.foot i b h;exact⟨l,λz=>z.elim g λw=>(s b w).1 ⟨i,h⟩,y⟩
def qg:PO->Option PV
 |.lst xs=>aa (.lst xs)
 |_=>ae
def dF(d:ac PO):ac PV:=λε=>(d ε).bind λf ε1=>aM (qg f) ε1
theorem DN.de{d:ac PO}(h:DN X E e d):DE X E e (dF d):=λF S ε s H Q x q=>by
 unfold dF at q;refine h F S ε s H Q x ?_;cases i:d ε with
 |no=>rw[i]at q;exact q.elim
 |er c u=>rw[i]at q;exact q
 |ok B ε1=>
  rw[i]at q;intro O l n A g a r I p;cases B with
  |dK f=>exact q.elim
  |lls P=>exact q.elim
  |ins C fs=>exact q.elim
  |dT f=>exact q.elim
  |dN f=>exact q.elim
  |inl C fs y xs=>exact q.elim
  |lst xs=>
   have M:∀b,r b->¬U l b/\∃o,n b=aa o:=λb z=>let ⟨_,_,x3,o,x4,_⟩:=p b z;⟨x3,o,x4⟩
   obtain⟨⟨v,K,J⟩,L⟩:=I;have N:bq (U S) (U l) F (λb=>O b\/r b) H n:=⟨λb z=>.inl (g.fro b z),g.keep,g.there,λb z=>z.elim (g.fnew b) λw=>.inr (.inl (p b w).1),g.onew⟩
   exact q _ l n (A.more M) N _ ⟨a,v,rfl,.inl K,.inr ((L a).mpr rfl),Reps.mono (λ_ z=>.inl z) (λ_ _ _ z=>z) (λ_ _ z _=>z) _ _ J⟩
def ba(xs:List PV):Option PV:=if xs.length<=1000 then aa (.tup xs)else ae
def eR(xs:List PV):Option PO:=if xs.length<=1000 then aa (.lst xs)else ae
def dL{g:Type}(f:List PV->Option g)(m:ac (List PV)):ac g:=λε=>(m ε).bind λxs ε1=>aM (f xs) ε1
def PL(K:ay)(r:List V->Hp->VK->Prop)(f:List PV->Option PV):Prop:=∀(F:af->Prop) (H:Hp) (xs:List PV) (h:List V) (Q:VK) (pv:PV),Reps K H F xs h->f xs=aa pv->(∀w i g,Al F i H g->aY K g i pv w->Q w g)->r h H Q
def oV(K:ay)(r:List V->Hp->VK->Prop)(f:List PV->Option PO):Prop:=∀(F:af->Prop) (H:Hp) (xs:List PV) (i:List V) (Q:VK) (l:PO),(∀a,F a->∃o,H a=aa o)->Reps K H F xs i->f xs=aa l ->
 (∀a h g n,Al F h H g->gd K g h l a n->(∀b,n b->H b=ae/\¬h b/\∃o,g b=aa o/\ef o)->Q (.ref a) g)->r i H Q
theorem yE{r:List V->Hp->VK->Prop}{f:List PV->Option PV}(A:PL X.K r f)(B:DA X E j m){F:af->Prop}{S:Nat->af->Prop}{n:ak}{g:St}{H:Hp}{Q:VK}(x:aS X.K F S n g H)(h:Ok X.K E g F S H (dL f m n) (λpv _ q _ l=>∀v,aY X.K l q pv v->Q v l)):qa X j g H λxs p=>r xs p Q:=by
 refine B F S n g H _ x ((Ok.bind h).imp λxs s I C p y J i u z=>?_);cases e:f xs with
 |none=>rw[e]at i;exact i.elim
 |some pv=>rw[e]at i;exact A I p xs u Q pv z e λw q l al o=>i q C l (y.al al) al.grow w o
theorem nE{O i F l:af->Prop}{H f:Hp}(g:bq O i F l H f){b:af}(h:f b=ae):H b=ae:=by
 cases q:H b with
 |none=>rfl
 |some o=>obtain⟨o',e⟩:=g.there b o q;rw[h]at e;cases e
theorem vd{r:List V->Hp->VK->Prop}{f:List PV->Option PO}(O:oV X.K r f)(P:DA X E j m){F:af->Prop}{S:Nat->af->Prop}{s:ak}{l:St}{H:Hp}{Q:VK}(L:aS X.K F S s l H)(h:Ok X.K E l F S H (dL f m s) (λv _ q Z g=>∀a p,gd X.K g q v a p->(∀b,p b->H b=ae/\¬q b/\¬U Z b/\∃o,g b=aa o/\ef o)->Q (.ref a) g)):qa X j l H λxs x=>r xs x Q:=by
 refine P F S s l H _ L ((Ok.bind h).imp λxs B F1 Y x u T n K N=>?_);cases e:f xs with
 |none=>rw[e]at n;exact n.elim
 |some v=>
  rw[e]at n;refine O F1 x xs K Q v u.ex N e λa q g p al M W=>n q Y g (u.al al) al.grow a p M λb z=>?_;obtain⟨y,J,o,I,C⟩:=W b z;refine⟨nE T y,J,λ⟨i,w⟩=>?_,o,I,C⟩;obtain⟨_,_,o',A,_⟩:=u.foot i b w;rw[y]at A;cases A
theorem A9{n:Nat}(h:n<=1000):n<=bf:=li (RP h)
theorem Ob{K:ay}:PL K (λxs H Q=>xs.length<=bf/\∀p,H p=ae->Q (.ref p) (upd H p (.tup xs))) ba:=λF H xs h Q pv f e q=>by
 unfold ba at e;split at e
 .cases e;refine⟨by rw[f.len];exact A9 (by assumption),λp g=>q _ F _ (Al.new0 g) ⟨p,h,rfl,upd_same,(Al.new0 g).reps f⟩⟩
 .cases e
theorem xU{K:ay}{F:af->Prop}{H:Hp}{l:af}{xs:List PV}{f:List V}(h:H l=ae)(g:Reps K H F xs f):gd K (upd H l (.lst f)) F (.lst xs) l (λb=>b=l):=⟨⟨f,upd_same,(Al.new0 h).reps g⟩,λb=>ou⟩
theorem yf{F:af->Prop}{H:Hp}{l:af}{o:HO}(g:H l=ae)(i:∀a,F a->∃o,H a=aa o)(h:ef o):∀b,b=l->H b=ae/\¬F b/\∃f,(upd H l o) b=aa f/\ef f:=λb z=>by
 subst z;exact⟨g,(λw=>by obtain⟨o,q⟩:=i b w;rw[g]at q;cases q),o,upd_same,h⟩
theorem Th{K:ay}:oV K (λxs H Q=>xs.length<=bf/\∀p,H p=ae->Q (.ref p) (upd H p (.lst xs))) eR:=λF H xs i Q l h g e q=>by
 unfold eR at e;split at e
 .cases e;exact⟨by rw[g.len];exact A9 (by assumption),λp f=>q p F _ _ (Al.new0 f) (xU f g) (yf f h trivial)⟩
 .cases e
theorem bW{x1}(h:DA X E j m):DE X E (.Tuple j x1 pos) (dL ba m):=λF S i g H Q f q=>b9 (MG gS) (yE Ob h f q)
theorem uS(h:DA X E j m):DN X E (.List j pos) (dL eR m):=λF S i g H Q f q=>b9 (TM gS) (vd Th h f q)
theorem kh(h:DA X E j m):DE X E (.List j pos) (dF (dL eR m)):=(uS h).de
variable{x:Str}{p:Pos}{A T:String}{r:List V->Hp->VK->Prop}{f:List PV->Option PV}{B:List PV->Option PO}
theorem cQ(v:d4 X (.builtin A) r)(l:PL X.K r f)(o:X.mg x=ae)(i:fk x=aa (.builtin A))(w:DA X E (e::j) m)(s:Gl X x:=by rfl)(n:x≠"__name__":=by decide)(h:ad x:=by decide)(u:aU (e::j) X.env=(aj,aX e X.env)::aU j X.env:=by rfl) (y:(c7 pos (aU j X.env)).any (·.1)=aj:=by rfl):DE X E (.Call (.Name x p) (e::j) [] pos) (dL f m):=λF S C z H Q g q=>b9 (nY v s o i gS n h u y) (yE l w g q)
theorem Fg(v:d4 X (.builtin A) r)(l:oV X.K r B)(o:X.mg x=ae)(i:fk x=aa (.builtin A))(w:DA X E (e::j) m)(s:Gl X x:=by rfl)(n:x≠"__name__":=by decide)(h:ad x:=by decide)(u:aU (e::j) X.env=(aj,aX e X.env)::aU j X.env:=by rfl) (y:(c7 pos (aU j X.env)).any (·.1)=aj:=by rfl):DN X E (.Call (.Name x p) (e::j) [] pos) (dL B m):=λF S C z H Q g q=>b9 (nY v s o i gS n h u y) (vd l w g q)
theorem UD(v:d4 X (.type T) r)(l:PL X.K r f)(o:X.mg x=ae)(i:fk x=aa (.type T))(w:DA X E (e::j) m)(s:Gl X x:=by rfl)(n:x≠"__name__":=by decide)(h:ad x:=by decide)(u:aU (e::j) X.env=(aj,aX e X.env)::aU j X.env:=by rfl) (y:(c7 pos (aU j X.env)).any (·.1)=aj:=by rfl):DE X E (.Call (.Name x p) (e::j) [] pos) (dL f m):=λF S C z H Q g q=>b9 (vx v s o i gS n h u y) (yE l w g q)
theorem OO(v:d4 X (.type T) r)(l:oV X.K r B)(o:X.mg x=ae)(i:fk x=aa (.type T))(w:DA X E (e::j) m)(s:Gl X x:=by rfl)(n:x≠"__name__":=by decide)(h:ad x:=by decide)(u:aU (e::j) X.env=(aj,aX e X.env)::aU j X.env:=by rfl) (y:(c7 pos (aU j X.env)).any (·.1)=aj:=by rfl):DN X E (.Call (.Name x p) (e::j) [] pos) (dL B m):=λF S C z H Q g q=>b9 (vx v s o i gS n h u y) (vd l w g q)
theorem eQ{r:R2}{f:PV->PV->Option PV}(l:nq X r)(n:P2 X.K r f)(q:DE X E a D)(o:DE X E b db)(i:Bu b:=by exact λ_ _=>rfl):DE X E (.Subscript a b pos) (d2 f D db):=λF S u s H Q g h=>b9 (Ox l bQ bQ i) (yZ n q o g h)
def BF(X:Cx)(e:Option aC):TO:=λg H Q=>Bx (∀h s,Inv X h g H s->ar (au X.prog X.w) X.A (evalPart e X.env) (λu l=>∃o i,Inv X h g i l/\lT u o/\Q o i) X.xe s)
theorem ED{o:Option aC}:L2.PO X o (BF X o):=λg s _ _ _ I h=>h.run g s I
theorem Iy{o:Option aC}{t:TO}(h:L2.PO X o t){g:St}{H:Hp}{Q:Option Int->Hp->Prop}(q:t g H Q):BF X o g H Q:=⟨λi s I=>h i s g H Q I q⟩
def DO(X:Cx)(E:XK)(e:Option aC)(d:ac (Option Int)):Prop:=∀F S h g H Q,aS X.K F S h g H->Ok X.K E g F S H (d h) (λo _ _ _ i=>Q o i)->BF X e g H Q
def bZ:ac (Option Int):=λε=>.ok ae ε
def o5:PV->Option Int
 |.int i=>aa i
 |_=>ae
def bN(d:ac PV):ac (Option Int):=λε=>(d ε).bind λx ε1=>aM ((o5 x).map aa) ε1
theorem iG:DO X E ae bZ:=λF S l i H Q g h=>Iy Om (h F S H g (bq.refl ..))
theorem gJ(w:DE X E e d):DO X E (aa e) (bN d):=λF S o l H Q s h=>by
 refine Iy (Qt bQ) (w F S o l H _ s ((Ok.bind h).imp λx n C y z u I g v q=>?_));cases x <;> first|exact(show False from g).elim|skip
 rename_i i;exact⟨i,q,g C y z u (bq.refl ..)⟩
def bP{i:Type}(f:PV->Option Int->Option Int->Option i)(d:ac PV)(o n:ac (Option Int)):ac i:=λε=>(d ε).bind λx ε1=>(o ε1).bind λl h=>(n h).bind λu g=>aM (f x l u) g
def Bm(K:ay)(r:V->Option Int->Option Int->Hp->VK->Prop)(f:PV->Option Int->Option Int->Option PV):Prop:=∀(F:af->Prop) (H:Hp) (x:PV) (h i:Option Int) (v:V) (Q:VK) (pv:PV),aY K H F x v->f x h i=aa pv->(∀w l g,Al F l H g->aY K g l pv w->Q w g)->r v h i H Q
theorem h_{r:V->Option Int->Option Int->Hp->VK->Prop}{f:PV->Option Int->Option Int->Option PV}{C I:Option aC}{K J:ac (Option Int)}{W:Pos}(Z:lD X r)(hp:Bm X.K r f)(he:DE X E e d)(hl:DO X E C K)(Y:DO X E I J):DE X E (.Subscript e (.Slice C I ae W) pos) (bP f d K J):=λF S M i H Q O h=>by
 refine b9 (Pj Z bQ ED ED) (he F S M i H _ O ((Ok.bind h).imp λx o F1 S1 H1 z g1 h1 v N=>?_));refine hl F1 S1 o i H1 _ z ((Ok.bind h1).imp λl n F2 S2 H2 y g2 h2=>?_);refine Y F2 S2 n i H2 _ y ((Ok.bind h2).imp λu L F3 S3 H3 P g3 g=>?_);cases s:f x l u with
 |none=>rw[s]at g;exact g.elim
 |some pv=>rw[s]at g;exact hp F3 H3 x l u v Q pv ((N.grow g2 z.fit).grow g3 y.fit) s λw F' H' al q=>g F' S3 H' (P.al al) al.grow w q
end
inductive aK where
 |next|ret (s:Slot)|brk|cont
def k9(K:ay)(H:Hp)(F:af->Prop)(s:Slot)(v:V)(c:af->Prop):Prop:=match s with
 |.val pv=>aY K H F pv v/\∀b,¬c b
 |.own d=>∃a,v=.ref a/\gd K H F d a c
 |.none=>False
def jn(b:List Nat)(c a:St):Prop:=∀i∈b,a[i]?=c[i]?
theorem jn.refl(a:List Nat)(b:St):jn a b b:=λ_ _=>rfl
theorem jn.trans{c:List Nat}{g f d:St}(a:jn c g f)(b:jn c f d):jn c g d:=λi h=>(b i h).trans (a i h)
theorem jn.set{a:List Nat}{b:St}{i:Nat}{x:Option V}(h:i∉a):jn a b (b.set i x):=λj c=>by rw[eK (by rintro rfl;exact h c)]
def y3(f:af->Prop)(c:Nat->af->Prop)(d:Hp)(a:af->Prop):Prop:=∀b,a b->¬f b/\¬U c b/\∃o,d b=aa o/\ef o
def gT(K:ay)(E:XK)(i:List Nat)(j:St)(F:af->Prop)(S:Nat->af->Prop)(H:Hp)(r:R aK)(D:lG):Prop:=match r with
 |.ok .next f=>∀g h a d,aS K g h f a d->bq (U S) (U h) F g H d->jn i j a->D.nx a d
 |.ok .brk f=>∀g h a d,aS K g h f a d->bq (U S) (U h) F g H d->jn i j a->D.bk a d
 |.ok .cont f=>∀g h a d,aS K g h f a d->bq (U S) (U h) F g H d->jn i j a->D.ct a d
 |.ok (.ret s) f=>∀v g h a d l,aS K g h f a d->bq (U S) (λb=>U h b\/l b) F g H d->jn i j a->k9 K d g s v l->y3 g h d l->D.rt v d
 |.er c f=>∀x g h a d,aS K g h f a d->bq (U S) (U h) F g H d->jn i j a->E c x d
 |.no=>False
def DS(X:Cx)(E:XK)(b:List Nat)(f:a8)(d:ac aK):Prop:=∀F S c a H D,aS X.K F S c a H->gT X.K E b a F S H (d c) D->wpS X f D a H
def gz(X:Cx)(E:XK)(b:List Nat)(f:List a8)(d:ac aK):Prop:=∀F S c a H D,aS X.K F S c a H->gT X.K E b a F S H (d c) D->oX X f D a H
section
variable{K:ay}{E:XK}{b:List Nat}{d i:St}{F m:af->Prop}{S j:Nat->af->Prop}{H l:Hp}{D:lG}
theorem gT.from{r:R aK}(h:gT K E b d F S H r D)(g:bq (U S) (U j) F m H l)(p:jn b d i):gT K E b i m j l r D:=by
 cases r with
 |no=>exact h
 |er c y=>exact λx w q a u n g' o=>h x w q a u n (g.trans g') (p.trans o)
 |ok f y=>
  cases f with
  |next=>exact λw q a u n g' o=>h w q a u n (g.trans g') (p.trans o)
  |brk=>exact λw q a u n g' o=>h w q a u n (g.trans g') (p.trans o)
  |cont=>exact λw q a u n g' o=>h w q a u n (g.trans g') (p.trans o)
  |ret s=>exact λv w q a u z n g' o=>h v w q a u z n (g.trans g') (p.trans o)
theorem gT.bindE{o:Type}{r:R o}{k:o->ak->R aK}(h:gT K E b d F S H (r.bind k) D):Ok K E d F S H r (λa f m j l=>gT K E b d m j l (k a f) D):=by
 cases r with
 |no=>exact h
 |er c g=>exact λx u q s p n=>h x u q d s p n (jn.refl _ _)
 |ok a g=>exact λu q s p n=>h.from n (jn.refl _ _)
end
section
variable{X:Cx}{E:XK}{pin:List Nat}{l:a8}{rest:List a8}{d d1 d2:ac aK}{e:aC}{de:ac PV}{pos:Pos}
def dJ:ac aK:=λa=>.ok .next a
theorem i6:gz X E pin [] dJ:=λF S c a H D b h=>BU Mo (h F S a H b (bq.refl ..) (jn.refl _ _))
def aI(d1 d2:ac aK):ac aK:=λε=>match d1 ε with
 |.ok .next ε1=>d2 ε1
 |r=>r
theorem bg(u:DS X E pin l d1)(q:gz X E pin rest d2):gz X E pin (l::rest) (aI d1 d2):=λF S i m H D n h=>by
 refine BU (K0 FQ qN) (u F S i m H {D with nx:=oX X rest D} n ?_);unfold aI at h;split at h
 .rename_i g w;rw[w];exact λz x b y o v p=>q z x g b y D o (h.from v p)
 .rename_i r j;generalize d1 i=r1 at h j;cases r1 with
  |no=>exact h
  |er c a=>exact h
  |ok f a=>
   cases f with
   |next=>exact absurd rfl (j a)
   |brk=>exact h
   |cont=>exact h
   |ret s=>exact h
theorem bp(f:DS X E pin l d1):gz X E pin [l] d1:=λF S b a H D c h=>BU (Mj FQ) (f F S b a H D c h)
def zb(f:aK):ac aK:=λa=>.ok f a
def Ig(d:ac PV):ac aK:=λb=>(d b).bind λ_ a=>.ok .next a
def cq(d:ac PV):ac aK:=λa=>(d a).bind λx ε1=>.ok (.ret (.val x)) ε1
theorem bq.cup{O c F i:af->Prop}{H f:Hp}(g:bq O c F i H f):bq O (λb=>c b\/False) F i H f:=⟨g.fro,g.keep,g.there,g.fnew,λa h=>h.elim (g.onew a) im⟩
theorem eG(j:DE X E e de):DS X E pin (.Return (aa e) pos) (cq de):=λF S c a H D g h=>iM (xL bQ) (j F S c a H _ g (h.bindE.imp λx b p n o i q m v f=>m v p n a o (λ_=>False) i (bq.refl ..).cup (jn.refl _ _) ⟨f,λ_ z=>z⟩ λ_ z=>z.elim))
theorem TN:DS X E pin (.Return ae pos) (zb (.ret (.val .non))):=λF S c a H D b h=>iM Uq (h _ F S a H (λ_=>False) b (bq.refl ..).cup (jn.refl _ _) ⟨rfl,λ_ z=>z⟩ λ_ z=>z.elim)
def sd(d:ac PO):ac aK:=λε=>(d ε).bind λx ε1=>.ok (.ret (.own x)) ε1
theorem OK{dn:ac PO}(u:DN X E e dn):DS X E pin (.Return (aa e) pos) (sd dn):=λF S j g H D p h=>by
 refine iM (xL bQ) (u F S j g H _ p ?_);unfold sd at h;cases i:dn j with
 |no=>rw[i]at h;exact h.elim
 |er c o=>rw[i]at h;exact λx J B G r v=>h x J B g G r v (jn.refl _ _)
 |ok K n=>rw[i]at h;intro I A C q f a y s m;exact h _ I A g C y q ⟨f.fro,f.keep,f.there,f.fnew,λb z=>z.elim (f.onew b) λw=>.inr (m b w).1⟩ (jn.refl _ _) ⟨a,rfl,s⟩ λb z=>let ⟨_,x2,x3,x4⟩:=m b z;⟨x2,x3,x4⟩
def k7(i:Nat):ac aK:=λa=>match a[i]? with
 |some (.own b)=>.ok (.ret (.own b)) (a.set i .none)
 |_=>.no
theorem aS.drop{K:ay}{F:af->Prop}{S:Nat->af->Prop}{ε:ak}{n:St}{H:Hp}(r:aS K F S ε n H)(i:Nat):aS K F (λj b=>S j b/\j≠i) (ε.set i .none) n H:=by
 have no:∀{j s},(ε.set i .none)[j]?=aa s->s≠.none->j≠i/\ε[j]?=aa s:=λ{j s} e q=>by
  by_cases c:i=j
  .subst c;by_cases u:i<ε.length
   .rw[fZ u]at e;exact absurd (dO e).symm q
   .rw[lX (by rw[jk];lia)]at e;cases e
  .rw[eK c]at e;exact⟨dW c,e⟩
 refine⟨by rw[jk];exact r.len,r.ex,λj pv e=>r.val j pv (no e (by intro z;cases z)).2,λj f e=>?_,λj b h=>?_,λj k b m g=>r.dist j k b m.1 g.1⟩
 .obtain⟨c,e⟩:=no e (by intro z;cases z);obtain⟨a,m,g⟩:=r.own j f e;have v:(λb=>S j b/\j≠i)=S j:=by funext b;simp[c]
  exact⟨a,m,by rw[v];exact g⟩
 .obtain⟨⟨f,p⟩,o⟩:=r.foot j b h.1;exact⟨⟨f,by rw[eK (dW h.2)];exact p⟩,o⟩
theorem yy(i:Nat){x:Str}{p:Pos}(s:X.N[i]?=aa x:=by rfl)(n:fh X.env.scope x:=by first|exact Or.inl rfl|exact Or.inr (Or.inl rfl)|exact Or.inr (Or.inr rfl))(r:ad x:=by decide)(v:(x==("__classdict__":Str))=aj:=by decide):DS X E pin (.Return (aa (.Name x p)) pos) (k7 i):=λF S y f H D c h=>by
 unfold k7 at h;split at h
 .rename_i g e;obtain⟨a,u,m⟩:=c.own i g e;refine iM (xL (gC s n r v)) ⟨_,u,h _ F (λj b=>S j b/\j≠i) f H (S i) (c.drop i) ⟨λ_ z=>z,λ_ _ z _=>z,λ_ o z=>⟨o,z⟩,λ_ z=>.inl z,λb z=>?_⟩ (jn.refl _ _) ⟨a,rfl,m⟩ λb z=>?_⟩
  .rcases z with⟨j,z,_⟩|z
   .exact .inl ⟨j,z⟩
   .exact .inl ⟨i,z⟩
  .exact⟨(c.foot i b z).2.1,λ⟨j,w,q⟩=>q (c.dist j i b w z),(c.foot i b z).2.2⟩
 .exact h.elim
theorem aS.set{K:ay}{F:af->Prop}{S:Nat->af->Prop}{ε:ak}{g:St}{H:Hp}{i:Nat}{pv:PV}{v:V}(r:aS K F S ε g H)(h:aY K H F pv v):aS K F (λj b=>S j b/\j≠i) (ε.set i (.val pv)) (g.set i (aa v)) H:=by
 have q:=r.drop i;have len:(ε.set i (.val pv)).length=(g.set i (aa v)).length:=by rw[jk,jk];exact r.len
 refine⟨len,r.ex,λj p e=>?_,λj m e=>?_,λj b h=>?_,q.dist⟩
 .by_cases c:i=j
  .subst c;have f:i<ε.length:=by have:=(c_.mp e).1;rw[jk]at this;exact this
   rw[fZ f]at e;cases e;exact⟨v,fZ (by rw[<-r.len];exact f),h⟩
  .rw[eK c]at e;obtain⟨w,o,n⟩:=r.val j p e;exact⟨w,by rw[eK c];exact o,n⟩
 .have c:i≠j:=by
   rintro rfl;have f:i<ε.length:=by have:=(c_.mp e).1;rw[jk]at this;exact this
   rw[fZ f]at e;cases e
  rw[eK c]at e;obtain⟨a,o,n⟩:=r.own j m e;have x:(λb=>S j b/\j≠i)=S j:=by funext b;simp[dW c]
  exact⟨a,by rw[eK c];exact o,by rw[x];exact n⟩
 .obtain⟨⟨m,s⟩,u⟩:=q.foot j b h;refine⟨⟨m,?_⟩,u⟩;rw[eK (dW h.2)]at s ⊢;exact s
theorem bq.less{S:Nat->af->Prop}{F:af->Prop}{H:Hp}(i:Nat):bq (U S) (U λj b=>S j b/\j≠i) F F H H:=⟨λ_ z=>z,λ_ _ z _=>z,λ_ o z=>⟨o,z⟩,λ_ z=>.inl z,λb ⟨j,z⟩=>.inl ⟨j,z.1⟩⟩
theorem aS.setOwn{K:ay}{F:af->Prop}{S:Nat->af->Prop}{q:ak}{x:St}{H:Hp}{i:Nat}{s:PO}{a:af}{n:af->Prop}(r:aS K F S q x H)(o:i<q.length)(h:gd K H F s a n)(u:y3 F S H n):aS K F (λj b=>(S j b/\j≠i)\/(j=i/\n b)) (q.set i (.own s)) (x.set i (aa (.ref a))) H:=by
 have B:=r.drop i;refine⟨by rw[jk,jk];exact r.len,r.ex,λj p e=>?_,λj g e=>?_,λj b h=>?_,λj k b f c=>?_⟩
 .have m:i≠j:=by rintro rfl;rw[fZ o]at e;cases e
  rw[eK m]at e;obtain⟨w,f,c⟩:=r.val j p e;exact⟨w,by rw[eK m];exact f,c⟩
 .by_cases m:i=j
  .subst m;rw[fZ o]at e;cases e;have v:(λb=>(S i b/\i≠i)\/(i=i/\n b))=n:=by funext b;simp
   exact⟨a,fZ (by rw[<-r.len];exact o),by rw[v];exact h⟩
  .rw[eK m]at e;obtain⟨D,f,c⟩:=r.own j g e;have v:(λb=>(S j b/\j≠i)\/(j=i/\n b))=S j:=by funext b;simp[dW m]
   exact⟨D,by rw[eK m];exact f,by rw[v];exact c⟩
 .rcases h with h|⟨rfl,h⟩
  .obtain⟨⟨g,y⟩,C⟩:=B.foot j b h;refine⟨⟨g,?_⟩,C⟩;rw[eK (dW h.2)]at y ⊢;exact y
  .obtain⟨A,G,z⟩:=u b h;exact⟨⟨s,fZ o⟩,A,z⟩
 .rcases f with f|⟨rfl,f⟩ <;> rcases c with c|⟨rfl,c⟩
  .exact r.dist j k b f.1 c.1
  .exact absurd ⟨j,f.1⟩ (u b c).2.1
  .exact absurd ⟨k,c.1⟩ (u b f).2.1
  .rfl
def bM(i:Nat)(d:ac PV):ac aK:=λa=>(d a).bind λx ε1=>.ok .next (ε1.set i (.val x))
theorem fD(i:Nat){x:Str}{p:Pos}(u:X.N.Nodup)(s:DE X E e de)(o:i∉pin:=by decide)(q:X.N[i]?=aa x:=by rfl)(m:Loc X.env.scope x:=by first|exact Or.inl rfl|exact Or.inr rfl)(n:lj e (aa (.Name x p)) pos.line X.env=pure aj:=by rfl)(r:X.fn x=ah\/X.env.scope.names.lookup x=aa .local:=by first|exact .inl rfl|exact .inr rfl):DS X E pin (.Assign [.Name x p] e pos) (bM i de):=λF S c a H D g h=>iM (Iq u q m bQ n r) (s F S c a H _ g (h.bindE.imp λx b z B y j A w v f=>w z _ _ y (j.set f) (bq.less i) (jn.set o)))
def fu(i:Nat)(d:ac PO):ac aK:=λb=>(d b).bind λx a=>if i<a.length then .ok .next (a.set i (.own x))else .no
theorem mF(i:Nat){x:Str}{p:Pos}{dn:ac PO}(K:X.N.Nodup)(J:DN X E e dn)(C:i∉pin:=by decide)(G:X.N[i]?=aa x:=by rfl)(A:Loc X.env.scope x:=by first|exact Or.inl rfl|exact Or.inr rfl)(B:lj e (aa (.Name x p)) pos.line X.env=pure aj:=by rfl)(I:X.fn x=ah\/X.env.scope.names.lookup x=aa .local:=by first|exact .inl rfl|exact .inr rfl):DS X E pin (.Assign [.Name x p] e pos) (fu i dn):=λF S q o H D u h=>by
 refine iM (Iq K G A bQ B I) (J F S q o H _ u ?_);unfold fu at h;cases n:dn q with
 |no=>rw[n]at h;exact h.elim
 |er c s=>rw[n]at h;exact λx Q M O w L=>h x Q M o O w L (jn.refl _ _)
 |ok T g=>
  rw[n]at h;simp only[R.bind_ok]at h;intro P Y N v f a W y r;by_cases m:i<g.length
  .rw[if_pos m]at h;refine h P _ _ N (v.setOwn m y λb z=>(r b z).2) ⟨f.fro,f.keep,f.there,f.fnew,λb ⟨j,z⟩=>?_⟩ (jn.set C);rcases z with z|⟨_,z⟩
   .exact f.onew b ⟨j,z.1⟩
   .exact .inr (r b z).1
  .rw[if_neg m]at h;exact h.elim
theorem i_{c:aC}{a b:List a8}{t:ac Bool}(r:DT X E c t)(u:gz X E pin a d1)(s:gz X E pin b d2):DS X E pin (.If c a b pos) (cO t d1 d2):=λF S p g H D q h=>by
 refine iM (T0 qB qN qN) (r F S p g H _ q (h.bindE.imp λk f o m n i v j=>?_));cases k with
 |true=>exact qE (u o m f g n D i j)
 |false=>exact ql (s o m f g n D i j)
def dNever:ac aK:=λ_=>.no
theorem Ip{a:List a8}:gz X E pin a dNever:=λ_ _ _ _ _ _ _ h=>h.elim
def cY(r:R aK):R aK:=match r with
 |.er _ _=>.no
 |r=>r
theorem mv(h:DS X.nox E0 pin l d):DS X E pin l (λa=>cY (d a)):=λF S a b H D i q=>Bx.mk λm s I=>by
 have q:gT X.K E pin b F S H (cY (d a)) D:=q;have j:gT X.K E0 pin b F S H (d a) D:=by
  cases e:d a with
  |no=>rw[e]at q;exact q
  |er c g=>rw[e]at q;exact q.elim
  |ok f g=>rw[e]at q;cases f <;> exact q
 exact eW ((h F S a b H D i j).run m s (I.wish _)) (λ_ _ z=>z.unwish) λ_ _ z=>z.elim
def tu(X:Cx)(f a:aC):TI:=λb H h=>Bx (∀c s,Inv X c b H s->ar (au X.prog X.w) X.A (aX a X.env) (λv g=>ar (au X.prog X.w) X.A (n8 v) (xz X c b f h) X.xe g) X.xe s)
theorem zj{b a:aC}:PI X b a (tu X b a):=λc s _ _ _ I h=>h.run c s I
theorem NE{f a:aC}{t:TI}(h:PI X f a t){b:St}{H:Hp}{c:It->Hp->Prop}(q:t b H c):tu X f a b H c:=⟨λg s I=>h g s b H c I q⟩
def DI(X:Cx)(E:XK)(p a:aC)(d:ac (List PV)):Prop:=∀F S ε c H m,aS X.K F S ε c H ->
 Ok X.K E c F S H (d ε) (λg _ o q i=>∀J f n,Reps X.K i o g f->f.length<=bf->Walk J f n->(∀h j b,bq (U q) (U h) o j i b->n b)->m J i)->tu X p a c H m
def d8(i:Nat)(c:ac aK):List PV->ak->R aK
 |[],b=>.ok .next b
 |x::xs,b=>match c (b.set i (.val x))with
  |.ok .next a=>d8 i c xs a
  |.ok .cont a=>d8 i c xs a
  |.ok .brk a=>.ok .next a
  |r=>r
def dR(i:Nat)(a:ac (List PV))(db:ac aK):ac aK:=λε=>(a ε).bind λxs ε1=>d8 i db xs ε1
theorem mx(i:Nat){x:Str}{p:Pos}{o:aC}{r:List a8}{Z:ac (List PV)}{C:ac aK}(wF:zq (au X.prog X.w) X.A X.env X.xe)(hc:X.calm=ah)(hN:X.N.Nodup)(hi:DI X E (.Name x p) o Z)(hb:gz X E pin r C)(hp:i∉pin:=by decide) (A:X.N[i]?=aa x:=by rfl) (O:Loc X.env.scope x:=by first|exact Or.inl rfl|exact Or.inr rfl) (hs:∀x,mL o X.env x=pure x:=by intro _;rfl)(hf:X.fn x=ah\/X.env.scope.names.lookup x=aa .local:=by first|exact .inl rfl|exact .inr rfl):DS X E pin (.For (.Name x p) o r [] pos) (dR i Z C):=λF S ε σ H D rl h=>by
 refine iM (GQ wF hc zj (zm hN A O hf) qN hs) (hi F S ε σ H _ rl (h.bindE.imp λxs I F1 S1 H1 Y g1 h1 J vs RR W hz hw keep=>?_));refine Hx hw (λk a n=>∃u w m,aS X.K u w m a n/\bq (U S1) (U w) F1 u H1 n/\gT X.K E pin a u w n (d8 i C (xs.drop k) m) D) ⟨F1,S1,I,Y,bq.refl ..,h1⟩ (λk a n _ ⟨u,w,m,_,g,_⟩=>keep w u n g) ?_ ?_
 .rintro k v a n hv ⟨u,w,m,M,B,q⟩;obtain⟨x,A,rx⟩:=W.back hv;have hk:k<xs.length:=(c_.mp A).1;have ed:xs.drop k=x::xs.drop (k+1):=by rw[v_ hk];congr 1;exact(c_.mp A).2
  rw[ed]at q;have K:=rx.grow B Y.fit;have r2:=M.set (i:=i) K;have P:bq (U w) (U λj b=>w j b/\j≠i) u u n n:=bq.less i;show oX X r _ (a.set i (aa v)) n;refine hb u _ _ _ n _ r2 ?_;unfold d8 at q;have q:=q.from P (jn.set (x:=aa v) hp);cases e:C (m.set i (.val x))with
  |no=>rw[e]at q;exact q
  |er c y=>rw[e]at q;exact q
  |ok f y=>
   rw[e]at q;cases f with
   |next=>exact λT Q G H3 L z N=>⟨T,Q,y,L,(B.trans P).trans z,q.from z N⟩
   |cont=>exact λT Q G H3 L z N=>⟨T,Q,y,L,(B.trans P).trans z,q.from z N⟩
   |brk=>exact q
   |ret s=>exact q
 .rintro a n ⟨u,w,m,M,B,q⟩;have O:vs.length=xs.length:=W.len;rw[O,JK]at q;exact q u w a n M (bq.refl ..) (jn.refl _ _)
def fY(t:ac Bool)(b:ac aK):Nat->ak->R aK
 |0,_=>.no
 |n+1,ε=>(t ε).bind λk ε1=>match k with
  |false=>.ok .next ε1
  |true=>match b ε1 with
   |.ok .next a=>fY t b n a
   |.ok .cont a=>fY t b n a
   |.ok .brk a=>.ok .next a
   |r=>r
theorem GF{c:aC}{n:List a8}{t:ac Bool}{j:ac aK}(O:ak->Nat)(P:zq (au X.prog X.w) X.A X.env X.xe)(W:DT X E c t)(Y:gz X E pin n j):DS X E pin (.While c n [] pos) (λv=>fY t j (O v) v):=λF S v σ H D Q h=>by
 refine iM (Tj P qB qN) ⟨λm b u=>∃y x a,aS X.K y x a b u/\gT X.K E pin b y x u (fY t j m a) D,⟨O v,F,S,v,Q,h⟩,?_⟩;rintro m i H1 ⟨F1,Z,A,T,q⟩;cases m with
 |zero=>exact q.elim
 |succ m=>
  refine W F1 Z A i H1 _ T (q.bindE.imp λk p M J K N g2 g=>?_);cases k with
  |false=>exact ql (g M J i K N (bq.refl ..) (jn.refl _ _))
  |true=>
   refine qE ⟨λb u=>∃y x a,aS X.K y x a b u/\gT X.K E pin b y x u (fY t j m a) D,λb u w=>⟨m,jE m,w⟩,Y M J p i K _ N ?_⟩;have g:gT X.K E pin i M J K (match j p with
    |.ok .next a=>fY t j m a
    |.ok .cont a=>fY t j m a
    |.ok .brk a=>.ok .next a
    |r=>r) D:=g
   cases e:j p with
   |no=>rw[e]at g;exact g
   |er c o=>rw[e]at g;exact g
   |ok f o=>
    rw[e]at g;cases f with
    |next=>exact λL I z H3 B G C=>⟨L,I,o,B,g.from G C⟩
    |cont=>exact λL I z H3 B G C=>⟨L,I,o,B,g.from G C⟩
    |brk=>exact g
    |ret s=>exact g
end
def yT(K:ay)(E:XK)(i:List V)(F:af->Prop)(S:Nat->af->Prop)(H:Hp)(r:R Slot)(Q:VK):Prop:=match r with
 |.ok s h=>∀v d f a g,aS K d f h (i.map aa) a->bq (U S) (λb=>U f b\/g b) F d H a->k9 K a d s v g->y3 d f a g->(∀b,g b->H b=ae)->Q v a
 |.er c h=>∀x d f a,aS K d f h (i.map aa) a->bq (U S) (U f) F d H a->E c x a
 |.no=>False
def bB(K:ay)(g:ac Slot):Sp:=λa H Q E=>∃F S b,aS K F S b (a.map aa) H/\yT K E a F S H (g b) Q
structure cP(CX:gA)(P:aN)(w:aG)(K:ay)(mg:Str->Option ai)(base:aB)(x:Str)(k:Nat)(ps:List Str)(sp:Sp):Prop where
 ex:∃f fd,mg x=aa (.ref f)/\jP P w K mg base CX k f fd ps sp/\Binds K fd ps []/\n9 K (.ref f)=ah
def back:ak->ak->Option ak
 |[],_=>aa []
 |.own _::a,.own c::b=>(back a b).map (.own c::·)
 |.own _::_,_=>ae
 |s::a,_::b=>(back a b).map (s::·)
 |_::_,[]=>ae
theorem yd:∀{a c b:ak},back a c=aa b->b.length=a.length/\∀(i:Nat) (s:Slot),b[i]?=aa s->(∃g f,a[i]?=aa (.own g)/\c[i]?=aa (.own f)/\s=.own f)\/(a[i]?=aa s/\∀g,s≠.own g)
 |[],_,b,h=>by cases h;exact⟨rfl,λi s e=>by simp at e⟩
 |.own g::a,.own f::c,b,h=>by
  unfold back at h;cases e:back a c with
  |none=>rw[e]at h;cases h
  |some r=>
   rw[e]at h;cases h;obtain⟨l,q⟩:=yd e;refine⟨by simp[l],λi s d=>?_⟩;cases i with
   |zero=>simp at d;subst d;exact .inl ⟨g,f,rfl,rfl,rfl⟩
   |succ i=>simpa using q i s (~~~d)
 |.own g::a,.none::c,b,h=>by cases h
 |.own g::a,.val _::c,b,h=>by cases h
 |.own g::a,[],b,h=>by cases h
 |.none::a,[],b,h=>by cases h
 |.val _::a,[],b,h=>by cases h
 |.none::a,x::c,b,h=>by
  have h:(back a c).map (Slot.none::·)=aa b:=by unfold back at h;cases x <;> exact h
  cases e:back a c with
  |none=>rw[e]at h;cases h
  |some r=>
   rw[e]at h;cases h;obtain⟨l,q⟩:=yd e;refine⟨by simp[l],λi s d=>?_⟩;cases i with
   |zero=>simp at d;subst d;exact .inr ⟨rfl,λ_ z=>by cases z⟩
   |succ i=>simpa using q i s (~~~d)
 |.val pv::a,x::c,b,h=>by
  have h:(back a c).map (Slot.val pv::·)=aa b:=by unfold back at h;cases x <;> exact h
  cases e:back a c with
  |none=>rw[e]at h;cases h
  |some r=>
   rw[e]at h;cases h;obtain⟨l,q⟩:=yd e;refine⟨by simp[l],λi s d=>?_⟩;cases i with
   |zero=>simp at d;subst d;exact .inr ⟨rfl,λ_ z=>by cases z⟩
   |succ i=>simpa using q i s (~~~d)
def bu(n:Nat)(d:ac aK):ac Slot:=λf=>match d (f++bE n .none)with
 |.ok (.ret r) a=>(aM (back f a) []).bind λb _=>.ok r b
 |.ok .next a=>(aM (back f a) []).bind λb _=>.ok (.val .non) b
 |.er c a=>(aM (back f a) []).bind λb _=>.er c b
 |_=>.no
section
variable{K:ay}{F x:af->Prop}{S o:Nat->af->Prop}{c l m:ak}{f:St}{H u:Hp}{d:List V}
theorem aS.start(r:aS K F S c (d.map aa) H)(n:Nat):aS K F S (c++bE n .none) (d.map aa++bE n ae) H:=by
 have y:c.length=(d.map aa).length:=r.len;have no:∀{j:Nat}{s:Slot},(c++bE n Slot.none)[j]?=aa s->s≠.none->c[j]?=aa s:=λ{j s} e w=>by
  by_cases A:j<c.length
  .rw[iS A]at e;exact e
  .rw[pf ∅,List.getElem?_replicate]at e;split at e
   .exact absurd (dO e).symm w
   .cases e
 have up:∀{j:Nat}{v:Option V},(d.map aa)[j]?=aa v->(d.map aa++bE n ae)[j]?=aa v:=λ{j v} e=>by rw[iS (c_.mp e).1];exact e
 refine⟨by simp[y],r.ex,λj pv e=>?_,λj a e=>?_,λj b h=>?_,r.dist⟩
 .obtain⟨v,i,g⟩:=r.val j pv (no e (by intro z;cases z));exact⟨v,up i,g⟩
 .obtain⟨v,i,g⟩:=r.own j a (no e (by intro z;cases z));exact⟨v,up i,g⟩
 .obtain⟨⟨a,q⟩,p⟩:=r.foot j b h;exact⟨⟨a,by rw[iS (c_.mp q).1];exact q⟩,p⟩
theorem FR{i:PO}{a:af}{n:af->Prop}(h:gd K H F i a n)(j:gM i=ah):∀b,n b↔b=a:=by
 cases i with
 |lst xs=>exact h.2
 |dK g=>exact h.2
 |lls p=>cases j
 |ins C fs=>exact h.2
 |dT g=>exact h.2
 |dN g=>exact h.2
 |inl C fs y xs=>cases j
theorem Op{g:PO}{a:af}{i:af->Prop}(h:gd K H F g a i):i a:=by
 cases g with
 |lst xs=>exact(h.2 a).mpr rfl
 |dK b=>exact(h.2 a).mpr rfl
 |lls j=>obtain⟨n,_,_,_,_,w⟩:=h;exact(w a).mpr (.inl rfl)
 |ins C fs=>exact(h.2 a).mpr rfl
 |dT b=>exact(h.2 a).mpr rfl
 |dN b=>exact(h.2 a).mpr rfl
 |inl C fs y xs=>obtain⟨_,_,_,_,_,_,_,_,_,_,w⟩:=h;exact(w a).mpr (.inl rfl)
theorem aS.back{Y:af->Prop}{D:List Nat}{n:Nat}(C:aS K F S c (d.map aa) H)(r:aS K x o l f u)(g:bq (U S) Y F x H u)(p:jn D (d.map aa++bE n ae) f)(Q:∀(i:Nat) (s:PO),c[i]?=aa (.own s)->i∈D)(T:back c l=aa m):∃B,aS K x B m (d.map aa) u/\(∀b,U B b->U o b)/\((∀(i:Nat) (s:PO),c[i]?=aa (.own s)->gM s=ah)->∀b,U S b->U B b):=by
 obtain⟨M,G⟩:=yd T;have inj:∀(i:Nat) (s:PO),c[i]?=aa (.own s)->∃a,(d.map aa)[i]?=aa (aa (.ref a))/\f[i]?=aa (aa (.ref a))/\gd K H F s a (S i):=λi s e=>by obtain⟨a,y,A⟩:=C.own i s e;refine⟨a,y,?_,A⟩;rw[p i (Q i s e),iS (c_.mp y).1];exact y
 have bk:∀(i:Nat) (s:PO),c[i]?=aa (.own s)->∃w,m[i]?=aa (.own w)/\l[i]?=aa (.own w):=λi s e=>by
  have N:i<m.length:=by rw[M];exact(c_.mp e).1
  rcases G i m[i] (by simp[N])with⟨p1,p2,q1,q2,q3⟩|⟨q1,q2⟩
  .exact⟨p2,by rw[eM N,q3],q2⟩
  .rw[e]at q1;exact absurd (dO q1).symm (q2 s)
 refine⟨λi b=>o i b/\∃s,c[i]?=aa (.own s),⟨by rw[M];exact C.len,r.ex,λi pv e=>?_,λi s e=>?_,λi b h=>?_,λi j b y A=>r.dist i j b y.1 A.1⟩,λb ⟨i,h⟩=>⟨i,h.1⟩,λP b ⟨i,h⟩=>?_⟩
 .rcases G i _ e with⟨_,_,_,_,z⟩|⟨q1,_⟩
  .cases z
  .obtain⟨v,y,A⟩:=C.val i pv q1;exact⟨v,y,A.grow g C.fit⟩
 .rcases G i _ e with⟨p1,p2,q1,q2,q3⟩|⟨_,q2⟩
  .cases q3;obtain⟨a,y,A,O⟩:=inj i p1 q1;obtain⟨X,E,I⟩:=r.own i s q2;rw[A]at E;cases E;refine⟨a,y,?_⟩;have W:(λb=>o i b/\∃s,c[i]?=aa (.own s))=o i:=by funext b;exact propext ⟨λz=>z.1,λz=>⟨z,p1,q1⟩⟩
   rw[W];exact I
  .exact absurd rfl (q2 s)
 .obtain⟨s,q⟩:=h.2;obtain⟨w,L,J⟩:=bk i s q;exact⟨⟨w,L⟩,(r.foot i b h.1).2⟩
 .obtain⟨⟨s,q⟩,_⟩:=C.foot i b h;obtain⟨a,y,A,O⟩:=inj i s q;obtain⟨w,L,J⟩:=bk i s q;obtain⟨X,E,I⟩:=r.own i w J;rw[A]at E;cases E;have e:b=a:=(FR O (P i s q) b).mp h;exact⟨i,e ▸ Op I,s,q⟩
end
theorem yQ{K:ay}{E:XK}{a:List V}{F:af->Prop}{S:Nat->af->Prop}{H:Hp}{r:R Slot}{Q:VK}(h:yT K E a F S H r Q):r≠.no:=λz=>by rw[z]at h;exact h
theorem EW{K:ay}{g:ac Slot}{m:Nat}(f:∀a,g a≠.no->a.length=m):∀b H Q E,bB K g b H Q E->b.length=m:=λb H Q E ζ=>by obtain⟨F,S,a,c,ok⟩:=ζ;have:=f a (yQ ok);have d:=c.len;rw[cN]at d;lia
theorem IA{X:Cx}{E:XK}{u:List a8}{N P:List Str}{s:List V}{H:Hp}{Q:VK}{n:Nat}{g:ac Slot}{d:ac aK}{A:List Nat}(hn:N.length=P.length+n)(bF:∀a,g a≠.no->a.length=P.length) (kG:∀a,g a≠.no->∀(i:Nat) po,a[i]?=aa (.own po)->i∈A) (Z:∀a p m,g a=.ok p m->(∃pv,p=.val pv)\/∀(i:Nat) po,a[i]?=aa (.own po)->gM po=ah) (hg:∀a,g a≠.no->bu n d a=g a)(hb:gz X E A u d) (jI:bB X.K g s H Q E):oX X u {nx:=λ_ l=>Q .non l,rt:=Q} (L2.start N s) H:=by
 obtain⟨F,S,a,K,ok⟩:=jI;have hl:=bF a (yQ ok);have h2:=K.len;rw[cN]at h2;have es:L2.start N s=s.map aa++bE n ae:=by unfold L2.start;rw[show N.length-s.length=n by lia]
 rw[es];refine hb F S _ _ H _ (K.start n) ?_;have W:=kG a (yQ ok);have Y:=hg a (yQ ok);have M:=Z a;rw[<-Y]at ok M;unfold bu at ok M;generalize d (a++bE n .none)=r at ok M ⊢;cases r with
 |no=>exact ok
 |er c h=>
  intro x q C j l D f G;have ok:yT X.K E s F S H ((aM (back a h) []).bind λm _=>.er c m) Q:=ok;cases e:back a h with
  |none=>rw[e]at ok;exact ok.elim
  |some m=>rw[e]at ok;obtain⟨B,y,o,_⟩:=K.back D f G W e;exact ok x q B l y ⟨f.fro,f.keep,f.there,f.fnew,λb z=>f.onew b (o b z)⟩
 |ok fl h=>
  have I:∀(p:Slot),(∀m,back a h=aa m->(∃pv,p=.val pv)\/∀(i:Nat) po,a[i]?=aa (.own po)->gM po=ah)->yT X.K E s F S H ((aM (back a h) []).bind λm _=>.ok p m) Q->∀(v:V) q C j l J,aS X.K q C h j l->bq (U S) (λb=>U C b\/J b) F q H l->jn A (s.map aa++bE n ae) j->k9 X.K l q p v J->y3 q C l J->Q v l:=by
   intro p O ok v q C j l J D f G T L;cases e:back a h with
   |none=>rw[e]at ok;exact ok.elim
   |some m=>
    rw[e]at ok;obtain⟨B,y,o,up⟩:=K.back D f G W e;refine ok v q B l J y ⟨f.fro,f.keep,f.there,f.fnew,λb z=>f.onew b (z.imp (o b) id)⟩ T (λb z=>⟨(L b z).1,λw=>(L b z).2.1 (o b w),(L b z).2.2⟩) λb z=>?_;rcases O m e with⟨pv,rfl⟩|hf
    .exact absurd z (T.2 b)
    rcases f.onew b (.inr z)with w|w
    .exact absurd (o b (up hf b w)) (L b z).2.1
    .exact w
  cases fl with
  |brk=>exact ok.elim
  |cont=>exact ok.elim
  |ret p=>exact I p (λm e=>M p m (by show(aM (back a h) []).bind _=_;rw[e];rfl)) ok
  |next=>exact λq C j l D f G=>I (.val .non) (λ_ _=>.inl ⟨_,rfl⟩) ok .non q C j l (λ_=>False) D ⟨f.fro,f.keep,f.there,f.fnew,λb z=>z.elim (f.onew b) im⟩ G ⟨rfl,λ_ z=>z⟩ λ_ z=>z.elim
theorem Ls{f:af}{p:gh}{D:gA}{P:aN}{w:aG}{K:ay}{v:Str->Option ai}{j:aB}{x b:Str}{h:a8}{N l:List Str}{k n:Nat}{g:ac Slot}{d:ac aK}{m:List Nat}(Z:qr K x b h f p)(Y:cy N l (a_ h))(S:N.length=l.length+n)(hb:∀(kV o u:ai) (B:Option af) (C y:ai) (q:List ai),q.length=l.length->gF (jh x b (j_ h) (gD h) (a_ h) .none kV o u B C y) ⟨q,[]⟩=pure (l.zip q))(z:∀c,g c≠.no->c.length=l.length) (J:∀c,g c≠.no->∀(i:Nat) po,c[i]?=aa (.own po)->i∈m) (I:∀c r X,g c=.ok r X->(∃pv,r=.val pv)\/∀(i:Nat) po,c[i]?=aa (.own po)->gM po=ah) (T:∀c,g c≠.no->bu n d c=g c)(M:∀(A:aT) (a:List Env) (s:am) (H:Hp) (E:XK),eT k (A.deeper (jC b (a_ h) s.heap.objs.size f p.code))->gz (js D P w K v j N b (a_ h) f p.code A a s H E) E m (gD h) d):jP P w K v j D (k+1) f p l (bB K g):=by obtain⟨oc,od,kV,o,u,B,C,y,F,rfl,G,W⟩:=Z.ex;exact KL G W Y (EW z) λA a s H vs Q E O L=>⟨_,qN,IA S z J I T (M A a s H E O) L⟩
theorem GT{f:af}{u:gh}{B:gA}{P:aN}{w:aG}{K:ay}{y:Str->Option ai}{l:aB}{x b:Str}{j:a8}{N m:List Str}{k n:Nat}{g:ac Slot}{d:ac aK}{p:List Nat}(Q:qr K x b j f u)(O:cy N m (a_ j))(F:N.length=m.length+n)(I:∀(kV v C:ai) (M:Option af) (q J:ai) (r:List ai),r.length=m.length->gF (jh x b (j_ j) (gD j) (a_ j) .none kV v C M q J) ⟨r,[]⟩=pure (m.zip r))(L:∀c,g c≠.no->c.length=m.length) (z:∀c,g c≠.no->∀(i:Nat) o,c[i]?=aa (.own o)->i∈p/\gM o=ah) (G:∀c,g c≠.no->bu n d c=g c)(D:∀(f:af) (q:ai) (A:aT) (a:List Env) (s:am) (H:Hp) (E:XK),eT k (A.deeper (jC b (a_ j) s.heap.objs.size f q))->gz (js B P w K y l N b (a_ j) f q A a s H E) E p (gD j) d):jP P w K y l B (k+1) f u m (bB K g):=Ls Q O F I L (λc h i o e=>(z c h i o e).1) (λc S T h=>.inr λi o e=>(z c (by rw[h];exact nofun) i o e).2) G λA a s H E=>D f u.code A a s H E
theorem UH{v:gA}{P:aN}{w:aG}{K:ay}{p:Str->Option ai}{c:aB}{x:Str}{b:a8}{N j:List Str}{k n:Nat}{g:ac Slot}{d:ac aK}{l:List Nat}(D:cU K p x b)(O:cy N j (a_ b))(C:N.length=j.length+n)(u:∀(kV q y:ai) (M:Option af) (m J:ai) (o:List ai),o.length=j.length->gF (jh x x (j_ b) (gD b) (a_ b) .none kV q y M m J) ⟨o,[]⟩=pure (j.zip o))(L:∀a,g a≠.no->a.length=j.length) (z:∀a,g a≠.no->∀(i:Nat) po,a[i]?=aa (.own po)->i∈l/\gM po=ah) (G:∀a,g a≠.no->bu n d a=g a)(B:∀(f:af) (m:ai) (A:aT) (h:List Env) (s:am) (H:Hp) (E:XK),eT k (A.deeper (jC x (a_ b) s.heap.objs.size f m))->gz (js v P w K p c N x (a_ b) f m A h s H E) E l (gD b) d):cP v P w K p c x (k+1) j (bB K g):=by obtain⟨f,I,F,r⟩:=D.ex;exact⟨f,I,F,GT r O C u L z G B,r.binds u,r.kp⟩
abbrev bX:=Sum PV Nat
def i5(K:ay)(b:St)(F:af->Prop)(H:Hp):List bX->List V->Prop
 |[],a=>a=[]
 |.inl pv::c,a=>∃v r,a=v::r/\aY K H F pv v/\i5 K b F H c r
 |.inr i::c,a=>∃v r,a=v::r/\b[i]?=aa (aa v)/\i5 K b F H c r
def DG(X:Cx)(E:XK)(g:List aC)(d:ac (List bX)):Prop :=
 ∀F S b a H Q,aS X.K F S b a H->Ok X.K E a F S H (d b) (λh _ i _ f=>∀c,i5 X.K a i f h c->Q c f)->qa X g a H Q
section
variable{X:Cx}{E:XK}{e:aC}{b:List aC}{de:ac PV}{c:ac (List bX)}{f:Pos}
def cm:ac (List bX):=λε=>.ok [] ε
def gV(d:ac PV)(c:ac (List bX)):ac (List bX):=λε=>(d ε).bind λx ε1=>(c ε1).bind λxs a=>.ok (.inl x::xs) a
def gO(i:Nat)(c:ac (List bX)):ac (List bX):=λd=>match d[i]? with
 |some (.own _)=>(c d).bind λxs a=>.ok (.inr i::xs) a
 |_=>.no
theorem cx:DG X E [] cm:=λF S g d H Q a h=>qo ka (h F S H a (bq.refl ..) _ rfl)
theorem Mt(s:DE X E e de)(r:DG X E b c)(q:aU (e::b) X.env=(aj,aX e X.env)::aU b X.env:=by rfl):DG X E (e::b) (gV de c):=λF S j d H Q n h=>by refine qo (i9 bQ gS q) (s F S j d H _ n ((Ok.bind h).imp λx a G A C g I w v m=>?_));refine r G A a d C _ g ((Ok.bind w).imp λxs i D z B o y u l p=>?_);exact u D z B o (bq.refl ..) _ ⟨v,l,rfl,m.grow y g.fit,p⟩
theorem kQ(i:Nat){x:Str}{p:Pos}(v:DG X E b c)(y:X.N[i]?=aa x:=by rfl)(s:fh X.env.scope x:=by first|exact Or.inl rfl|exact Or.inr (Or.inl rfl)|exact Or.inr (Or.inr rfl))(w:ad x:=by decide)(A:(x==("__classdict__":Str))=aj:=by decide) (u:aU (.Name x p::b) X.env=(aj,aX (.Name x p) X.env)::aU b X.env:=by rfl):DG X E (.Name x p::b) (gO i c):=λF S m j H Q d h=>by
 unfold gO at h;split at h
 .rename_i q e;obtain⟨a,g,_⟩:=d.own i q e;refine qo (i9 (gC y s w A) gS u) ⟨_,g,v F S m j H _ d ((Ok.bind h).imp λxs l D B C o G z n r=>?_)⟩;exact z D B C o (bq.refl ..) _ ⟨_,n,rfl,g,r⟩
 .exact h.elim
end
def eI(a:ak):List bX->Option ak
 |[]=>aa []
 |.inl pv::b=>(eI a b).map (.val pv::·)
 |.inr i::b=>match a[i]? with
  |some (.own c)=>(eI a b).map (.own c::·)
  |_=>ae
def fP:ak->List bX->ak->ak
 |a,.inl _::c,_::b=>fP a c b
 |a,.inr i::c,s::b=>fP (a.set i s) c b
 |a,_,_=>a
def cG:List bX->List Nat
 |[]=>[]
 |.inl _::as=>cG as
 |.inr i::as=>i::cG as
theorem Gp:∀{as:List bX}{i:Nat},i∈cG as↔∃k:Nat,as[k]?=aa (.inr i)
 |[],i=>by simp[cG]
 |.inl _::as,i=>by
  unfold cG;rw[Gp];constructor
  .rintro⟨k,h⟩;exact⟨k+1,by simpa using h⟩
  .rintro⟨k,h⟩;cases k with
   |zero=>simp at h
   |succ k=>exact⟨k,by simpa using h⟩
 |.inr j::as,i=>by
  unfold cG;rw[bn,Gp];constructor
  .rintro(rfl|⟨k,h⟩)
   .exact⟨0,rfl⟩
   .exact⟨k+1,by simpa using h⟩
  .rintro⟨k,h⟩;cases k with
   |zero=>simp at h;exact .inl h.symm
   |succ k=>exact .inr ⟨k,by simpa using h⟩
theorem yI{d:ak}:∀{a:List bX}{c:ak},eI d a=aa c->c.length=a.length/\∀(k:Nat) (s:Slot),c[k]?=aa s->(∃pv,a[k]?=aa (.inl pv)/\s=.val pv)\/∃i f,a[k]?=aa (.inr i)/\d[i]?=aa (.own f)/\s=.own f
 |[],c,h=>by cases h;exact⟨rfl,λk s e=>by simp at e⟩
 |.inl pv::a,c,h=>by
  unfold eI at h;cases e:eI d a with
  |none=>rw[e]at h;cases h
  |some r=>
   rw[e]at h;cases h;obtain⟨l,q⟩:=yI e;refine⟨by simp[l],λk s b=>?_⟩;cases k with
   |zero=>simp at b;exact .inl ⟨pv,rfl,b.symm⟩
   |succ k=>simpa using q k s (~~~b)
 |.inr i::a,c,h=>by
  unfold eI at h;split at h
  .rename_i f g;cases e:eI d a with
   |none=>rw[e]at h;cases h
   |some r=>
    rw[e]at h;cases h;obtain⟨l,q⟩:=yI e;refine⟨by simp[l],λk s b=>?_⟩;cases k with
    |zero=>simp at b;exact .inr ⟨i,f,rfl,g,b.symm⟩
    |succ k=>simpa using q k s (~~~b)
  .cases h
theorem xH:∀(c:List bX) (a b:ak),(fP a c b).length=a.length
 |[],a,b=>by cases b <;> rfl
 |.inl _::c,a,[]=>rfl
 |.inr _::c,a,[]=>rfl
 |.inl _::c,a,s::b=>xH c a b
 |.inr i::c,a,s::b=>by show(fP (a.set i s) c b).length=_;rw[xH,jk]
theorem tj:∀(a:List bX) (b c:ak) (j:Nat),j∉cG a->(fP b a c)[j]?=b[j]?
 |[],b,c,j,_=>by cases c <;> rfl
 |.inl _::a,b,[],j,_=>rfl
 |.inr _::a,b,[],j,_=>rfl
 |.inl _::a,b,s::c,j,h=>tj a b c j h
 |.inr i::a,b,s::c,j,h=>by
  have d:¬(j=i\/j∈cG a):=by simpa[cG]using h
  show(fP (b.set i s) a c)[j]?=_;rw[tj a _ c j λz=>d (.inr z),eK λz=>d (.inl z.symm)]
theorem uy:∀(a:List bX) (b c:ak) (j k:Nat) (s:Slot),(cG a).Nodup->j<b.length->a[k]?=aa (.inr j)->c[k]?=aa s->(fP b a c)[j]?=aa s
 |[],b,c,j,k,s,_,_,h,_=>by simp at h
 |_::a,b,[],j,k,s,_,_,_,h=>by simp at h
 |.inl _::a,b,t::c,j,0,s,_,_,h,_=>by simp at h
 |.inl _::a,b,t::c,j,k+1,s,nd,hj,h,g=>uy a b c j k s nd hj (~~~h) (~~~g)
 |.inr i::a,b,t::c,j,0,s,nd,hj,h,g=>by simp at h g;subst h g;have d:i∉cG a:=(jB.mp nd).1;show(fP (b.set i t) a c)[i]?=_;rw[tj a _ c i d,fZ hj]
 |.inr i::a,b,t::c,j,k+1,s,nd,hj,h,g=>uy a (b.set i t) c j k s (jB.mp nd).2 (by rw[jk];exact hj) (~~~h) (~~~g)
theorem i5.len{K:ay}{c:St}{F:af->Prop}{H:Hp}:∀{a:List bX}{b:List V},i5 K c F H a b->b.length=a.length
 |[],_,h=>by rw[show _=[] from h];rfl
 |.inl _::a,_,⟨v,r,e,_,h⟩=>by rw[e,cE,cE,i5.len h]
 |.inr _::a,_,⟨v,r,e,_,h⟩=>by rw[e,cE,cE,i5.len h]
theorem i5.val{K:ay}{d:St}{F:af->Prop}{H:Hp}:∀{as:List bX}{c:List V}{k:Nat}{pv:PV},i5 K d F H as c->as[k]?=aa (.inl pv)->∃v,c[k]?=aa v/\aY K H F pv v
 |[],_,k,_,_,e=>by simp at e
 |.inl x::as,_,0,pv,⟨v,r,e,h,_⟩,q=>by simp at q;subst q e;exact⟨v,rfl,h⟩
 |.inr _::as,_,0,pv,_,q=>by simp at q
 |.inl x::as,_,k+1,pv,⟨v,r,e,_,h⟩,q=>by obtain⟨w,a,b⟩:=i5.val (k:=k) h (~~~q);subst e;exact⟨w,by simpa using a,b⟩
 |.inr x::as,_,k+1,pv,⟨v,r,e,_,h⟩,q=>by obtain⟨w,a,b⟩:=i5.val (k:=k) h (~~~q);subst e;exact⟨w,by simpa using a,b⟩
theorem i5.own{K:ay}{c:St}{F:af->Prop}{H:Hp}:∀{as:List bX}{d:List V}{k i:Nat},i5 K c F H as d->as[k]?=aa (.inr i)->∃v,d[k]?=aa v/\c[i]?=aa (aa v)
 |[],_,k,_,_,e=>by simp at e
 |.inr x::as,_,0,pv,⟨v,r,e,h,_⟩,q=>by simp at q;subst q e;exact⟨v,rfl,h⟩
 |.inl _::as,_,0,pv,_,q=>by simp at q
 |.inl x::as,_,k+1,pv,⟨v,r,e,_,h⟩,q=>by obtain⟨w,a,b⟩:=i5.own (k:=k) h (~~~q);subst e;exact⟨w,by simpa using a,b⟩
 |.inr x::as,_,k+1,pv,⟨v,r,e,_,h⟩,q=>by obtain⟨w,a,b⟩:=i5.own (k:=k) h (~~~q);subst e;exact⟨w,by simpa using a,b⟩
section
variable{K:ay}{F A:af->Prop}{S m:Nat->af->Prop}{c s f:ak}{u:St}{H y:Hp}{as:List bX}{d:List V}
def mC(as:List bX)(S:Nat->af->Prop)(k:Nat)(b:af):Prop:=∃i,as[k]?=aa (.inr i)/\S i b
theorem yj(b:af)(h:U (mC as S) b):U S b:=let ⟨_,i,_,h⟩:=h;⟨i,h⟩
theorem zh:∀{as:List bX}{i k l:Nat},(cG as).Nodup->as[k]?=aa (.inr i)->as[l]?=aa (.inr i)->k=l
 |[],_,_,_,_,h,_=>by simp at h
 |.inl _::as,i,0,_,_,h,_=>by simp at h
 |.inl _::as,i,_,0,_,_,h=>by simp at h
 |.inl _::as,i,k+1,l+1,nd,h1,h2=>by rw[zh (as:=as) (i:=i) (k:=k) (l:=l) nd (~~~h1) (~~~h2)]
 |.inr j::as,i,0,0,_,_,_=>rfl
 |.inr j::as,i,0,l+1,nd,h1,h2=>by simp at h1;subst h1;exact absurd (Gp.mpr ⟨l,by simpa using h2⟩) (jB.mp nd).1
 |.inr j::as,i,k+1,0,nd,h1,h2=>by simp at h2;subst h2;exact absurd (Gp.mpr ⟨k,by simpa using h1⟩) (jB.mp nd).1
 |.inr j::as,i,k+1,l+1,nd,h1,h2=>by rw[zh (as:=as) (i:=i) (k:=k) (l:=l) (jB.mp nd).2 (~~~h1) (~~~h2)]
theorem aS.cal(r:aS K F S c u H)(C:i5 K u F H as d)(J:eI c as=aa s)(I:(cG as).Nodup):aS K F (mC as S) s (d.map aa) H:=by
 obtain⟨E,B⟩:=yI J;have up:∀{k:Nat}{v:V},d[k]?=aa v->(d.map aa)[k]?=aa (aa v):=λ{k v} e=>by rw[gZ,e];rfl
 refine⟨by rw[E,cN,C.len],r.ex,λk pv e=>?_,λk D e=>?_,λk b h=>?_,λk l b g o=>?_⟩
 .rcases B k _ e with⟨p,q1,n⟩|⟨_,_,_,_,z⟩
  .cases n;obtain⟨v,x,w⟩:=C.val q1;exact⟨v,up x,w⟩
  .cases z
 .rcases B k _ e with⟨_,_,z⟩|⟨i,p,q1,n,q3⟩
  .cases z
  .cases q3;obtain⟨v,x,w⟩:=C.own q1;obtain⟨a,b1,b2⟩:=r.own i D n;rw[w]at b1;cases b1;have L:mC as S k=S i:=by
    funext b;exact propext ⟨λζ=>by obtain⟨j,g,o⟩:=ζ;rw[q1]at g;cases g;exact o,λh=>⟨i,q1,h⟩⟩
   exact⟨a,up x,by rw[L];exact b2⟩
 .obtain⟨i,g,o⟩:=h;obtain⟨⟨D,q⟩,n⟩:=r.foot i b o;have G:k<s.length:=by rw[E];exact(c_.mp g).1
  refine⟨?_,n⟩;rcases B k s[k] (by simp[G])with⟨_,z,_⟩|⟨j,p,z1,z2,z3⟩
  .rw[g]at z;cases z
  .exact⟨p,by rw[eM G,z3]⟩
 .obtain⟨i,x,w⟩:=g;obtain⟨j,b1,b2⟩:=o;have:=r.dist i j b w b2;subst this;exact zh I x b1
theorem aS.called{O':af->Prop}(r:aS K F S c u H)(ha:i5 K u F H as d)(hs:eI c as=aa s)(Q:(cG as).Nodup)(O:aS K A m f (d.map aa) y)(g:bq (U (mC as S)) O' F A H y)(hO:∀b,U m b->O' b)(M:∀(k:Nat) i,as[k]?=aa (.inr i)->∃D,f[k]?=aa (.own D)):∃Z,aS K A Z (fP c as f) u y/\bq (U S) (U Z) F A H y/\∀b,U Z b->U m b\/U S b:=by
 have up:∀{k:Nat}{v:V},(d.map aa)[k]?=aa (aa v)->d[k]?=aa v:=λ{k v} e=>by
  rw[gZ]at e;cases q:d[k]? with
  |none=>rw[q]at e;cases e
  |some x=>rw[q]at e;cases e;rfl
 have fit:Fit (U (mC as S)) F H:=λb h=>r.fit b (yj b h);have L:∀i D,c[i]?=aa (.own D)->i<c.length:=λi D e=>(c_.mp e).1;have lt:∀(k:Nat) i,as[k]?=aa (.inr i)->i<c.length:=λk i e=>by
  obtain⟨hl,hg⟩:=yI hs;have E:k<s.length:=by rw[hl];exact(c_.mp e).1
  rcases hg k s[k] (by simp[E])with⟨_,z,_⟩|⟨j,p,z1,z2,z3⟩
  .rw[e]at z;cases z
  .rw[e]at z1;cases z1;exact L _ _ z2
 refine⟨λj b=>(∃k:Nat,as[k]?=aa (.inr j)/\m k b)\/(j∉cG as/\S j b),⟨by rw[xH];exact r.len,O.ex,λj pv e=>?_,λj D e=>?_,λj b h=>?_,λi j b B C=>?_⟩,⟨g.fro,λb o e n=>g.keep b o e λz=>n (yj b z),g.there,λa z=>(g.fnew a z).imp id λw=>w.imp id (yj a),λb ⟨j,z⟩=>?_⟩,λb ⟨j,z⟩=>?_⟩
 .by_cases I:j∈cG as
  .obtain⟨k,E⟩:=Gp.mp I;obtain⟨D,q⟩:=M k j E;rw[uy as c f j k _ Q (lt k j E) E q]at e;cases e
  .rw[tj as c f j I]at e;obtain⟨v,B,C⟩:=r.val j pv e;exact⟨v,B,C.grow g fit⟩
 .by_cases I:j∈cG as
  .obtain⟨k,E⟩:=Gp.mp I;obtain⟨po',q⟩:=M k j E;rw[uy as c f j k _ Q (lt k j E) E q]at e;cases e;obtain⟨a,B,C⟩:=O.own k D q;obtain⟨v,T,Y⟩:=ha.own E;rw[up B]at T;cases T;have X:(λb=>(∃k:Nat,as[k]?=aa (.inr j)/\m k b)\/(j∉cG as/\S j b))=m k:=by
    funext b;refine propext ⟨λz=>?_,λz=>.inl ⟨k,E,z⟩⟩;rcases z with⟨l,z1,z2⟩|⟨z,_⟩
    .rw[zh Q E z1];exact z2
    .exact absurd I z
   exact⟨a,Y,by rw[X];exact C⟩
  .rw[tj as c f j I]at e;obtain⟨a,B,C⟩:=r.own j D e;have X:(λb=>(∃k:Nat,as[k]?=aa (.inr j)/\m k b)\/(j∉cG as/\S j b))=S j:=by
    funext b;refine propext ⟨λz=>?_,λz=>.inr ⟨I,z⟩⟩;rcases z with⟨l,z1,z2⟩|⟨_,z⟩
    .exact absurd (Gp.mpr ⟨l,z1⟩) I
    .exact z
   have h3:gd K y A D a (S j):=by refine C.mono (λ_ _ q=>q.grow g fit) (λ_ _ q=>q.grow g fit) λb o z q=>g.keep b o q λ⟨l,i,N,J⟩=>?_;have:=r.dist i j b J z;subst this;exact I (Gp.mpr ⟨l,N⟩)
   exact⟨a,B,by rw[X];exact h3⟩
 .rcases h with⟨k,B,C⟩|⟨B,C⟩
  .obtain⟨⟨D,q⟩,W⟩:=O.foot k b C;exact⟨⟨D,uy as c f j k _ Q (lt k j B) B q⟩,W⟩
  .obtain⟨⟨D,q⟩,W,o,P,q4⟩:=r.foot j b C;have no:¬U (mC as S) b:=λζ=>by obtain⟨l,i,N,J⟩:=ζ;have:=r.dist i j b J C;subst this;exact B (Gp.mpr ⟨l,N⟩)
   refine⟨⟨D,by rw[tj as c f j B];exact q⟩,λz=>?_,o,g.keep b o P no,q4⟩;rcases g.fnew b z with w|w|w
   .exact W w
   .rw[P]at w;cases w
   .exact no w
 .have G:∀{i j:Nat}{b:af},(∃k:Nat,as[k]?=aa (.inr i)/\m k b)->(j∉cG as/\S j b)->False:=λ{i j b} ⟨k,N,J⟩ ⟨w3,w4⟩=>by
   obtain⟨_,_,o,P,_⟩:=r.foot j b w4;rcases g.onew b (hO b ⟨k,J⟩)with⟨l,i',z1,z2⟩|z
   .have:=r.dist i' j b z2 w4;subst this;exact w3 (Gp.mpr ⟨l,z1⟩)
   .rw[P]at z;cases z
  rcases B with B|B <;> rcases C with C|C
  .obtain⟨k,T,Y⟩:=B;obtain⟨l,b1,b2⟩:=C;have:=O.dist k l b Y b2;subst this;rw[T]at b1;cases b1;rfl
  .exact(G B C).elim
  .exact(G C B).elim
  .exact r.dist i j b B.2 C.2
 .rcases z with⟨k,_,z⟩|⟨_,z⟩
  .rcases g.onew b (hO b ⟨k,z⟩)with w|w
   .exact .inl (yj b w)
   .exact .inr w
  .exact .inl ⟨j,z⟩
 .rcases z with⟨k,_,z⟩|⟨_,z⟩
  .exact .inl ⟨k,z⟩
  .exact .inr ⟨j,z⟩
end
def DR(X:Cx)(E:XK)(e:aC)(d:ac Slot):Prop :=
 ∀F S f a H Q,aS X.K F S f a H->Ok X.K E a F S H (d f) (λs _ h i c=>∀v g,k9 X.K c h s v g->(∀b,g b->H b=ae/\¬h b/\¬U i b/\∃o,c b=aa o/\ef o)->Q v c)->jo X e a H Q
def fJ:List bX->ak->Bool
 |[],_=>ah
 |.inl _::as,_::ss=>fJ as ss
 |.inr _::as,.own _::ss=>fJ as ss
 |_,_=>aj
theorem nN:∀{as:List bX}{ss:ak},fJ as ss=ah->∀(k:Nat) i,as[k]?=aa (.inr i)->∃a,ss[k]?=aa (.own a)
 |[],_,_,k,i,h=>by simp at h
 |.inl _::as,s::ss,q,0,i,h=>by simp at h
 |.inl _::as,s::ss,q,k+1,i,h=>by simpa using nN (as:=as) (ss:=ss) (by unfold fJ at q;exact q) k i (~~~h)
 |.inr _::as,.own a::ss,q,0,i,h=>⟨a,rfl⟩
 |.inr _::as,.own a::ss,q,k+1,i,h=>by simpa using nN (as:=as) (ss:=ss) (by unfold fJ at q;exact q) k i (~~~h)
 |.inr _::as,.val _::ss,q,k,i,h=>by cases q
 |.inr _::as,.none::ss,q,k,i,h=>by cases q
 |.inl _::as,[],q,k,i,h=>by cases q
 |.inr _::as,[],q,k,i,h=>by cases q
def fA{f:Type}(d:ak)(b:List bX)(r:R f):R f:=match r with
 |.ok s a=>if fJ b a then .ok s (fP d b a)else .no
 |.er c a=>if fJ b a then .er c (fP d b a)else .no
 |.no=>.no
def a9(g:ac Slot)(c:ac (List bX)):ac Slot:=λε=>(c ε).bind λa ε1=>(aM (if(cG a).Nodup then eI ε1 a else ae) ε1).bind λb ε1=>fA ε1 a (g b)
section
variable{m:gA}{X:Cx}{E:XK}{pin:List Nat}{e:aC}{j:List aC}{l:ac (List bX)}{pos:Pos}{x:Str}{k:Nat}{n:List Str}{g:ac Slot}{p:Pos}{d:ac Slot}
theorem HG{K:ay}{F0 u:af->Prop}{S0 D:Nat->af->Prop}{a:ak}{I:St}{H r:Hp}{c:List bX}{vs:List V}{Q:VK}(B:aS K u D a I r)(g1:bq (U S0) (U D) F0 u H r)(S:i5 K I u r c vs)(q:Ok K E I u D r ((aM (if(cG c).Nodup then eI a c else ae) a).bind λF a=>fA a c (g F)) λs _ A Y h=>∀v G,k9 K h A s v G->(∀b,G b->H b=ae/\¬A b/\¬U Y b/\∃o,h b=aa o/\ef o)->Q v h):bB K g vs r Q E:=by
 have q:=Ok.bind q;by_cases C:(cG c).Nodup
 .rw[if_pos C]at q;cases j:eI a c with
  |none=>rw[j]at q;exact q.elim
  |some F=>
   rw[j]at q;have q:=q u D r B (bq.refl ..);dsimp only at q;refine⟨u,mC c D,F,B.cal S j C,?_⟩;cases P:g F with
   |no=>rw[P]at q;exact q.elim
   |er cv T=>
    rw[P]at q;intro y A Y h L O;unfold fA at q;dsimp only at q;by_cases f:fJ c T=ah
    .rw[if_pos f]at q;obtain⟨W,J,N,_⟩:=B.called S j C L O (λ_ z=>z) (nN f);exact q y A W h J N
    .rw[if_neg f]at q;exact q.elim
   |ok s T=>
    rw[P]at q;intro v A Y h G L O rv M fr;unfold fA at q;dsimp only at q;by_cases f:fJ c T=ah
    .rw[if_pos f]at q;obtain⟨W,J,N,u2⟩:=B.called S j C L O (λ_ z=>.inl z) (nN f);refine q A W h J N v G rv λb z=>⟨nE g1 (fr b z),(M b z).1,λw=>?_,(M b z).2.2⟩
     rcases u2 b w with w|⟨i,w⟩
     .exact(M b z).2.1 w
     .obtain⟨_,_,o,Z,_⟩:=B.foot i b w;rw[fr b z]at Z;cases Z
    .rw[if_neg f]at q;exact q.elim
 .rw[if_neg C]at q;exact q.elim
theorem cK(c:cP m X.prog X.w X.K X.mg X.base x k n (bB X.K g))(u:eT k X.A)(s:sQ m X E)(B:DG X E (e::j) l)(y:Gl X x:=by rfl)(z:ad x:=by decide) (D:aU (e::j) X.env=(aj,aX e X.env)::aU j X.env:=by rfl) (C:(c7 pos (aU j X.env)).any (·.1)=aj:=by rfl):DR X E (.Call (.Name x p) (e::j) [] pos) (a9 g l):=λF S i a H Q o h=>by obtain⟨f,L,v,J,A,w⟩:=c.ex;refine b9 (FC J u y v w A .nil s gS z D C) (B F S i a H _ o ((Ok.bind h).imp λM b P N O r G q K I=>?_));rw[iR];exact HG r G I q
def vF:Slot->Option PV
 |.val pv=>aa pv
 |.own (.lst xs)=>aa (.lst xs)
 |_=>ae
def bL(d:ac Slot):ac PV:=λε=>(d ε).bind λs ε1=>aM (vF s) ε1
def yG:Slot->Option PO
 |.own a=>aa a
 |_=>ae
def kX(d:ac Slot):ac PO:=λb=>(d b).bind λs a=>aM (yG s) a
theorem DR.dn(h:DR X E e d):DN X E e (kX d):=λF S f i H Q w q=>by
 unfold kX at q;refine h F S f i H Q w ?_;cases b:d f with
 |no=>rw[b]at q;exact q.elim
 |er c r=>rw[b]at q;exact q
 |ok s o=>
  rw[b]at q;cases s with
  |none=>exact q.elim
  |val pv=>exact q.elim
  |own J=>intro I D G y A v C u B;obtain⟨a,rfl,z⟩:=u;exact q I D G y A a C z B
theorem DR.de(h:DR X E e d):DE X E e (bL d):=λF S ε f H Q i q=>by
 unfold bL at q;cases b:d ε with
 |no=>rw[b]at q;exact q.elim
 |er c o=>refine h F S ε f H Q i ?_;rw[b]at q ⊢;exact q
 |ok s ε1=>
  cases s with
  |none=>rw[b]at q;exact q.elim
  |val pv=>refine h F S ε f H Q i ?_;rw[b]at q ⊢;exact λD A B u z v J r I=>q D A B u z v r.1
  |own w=>
   refine h.dn.de F S ε f H Q i ?_;unfold dF kX;rw[b]at q ⊢;cases w with
   |lst xs=>exact q
   |dK a=>exact q
   |lls G=>exact q
   |ins C fs=>exact q
   |dT a=>exact q
   |dN a=>exact q
   |inl C fs y xs=>exact q
def mo(d:ac Slot):ac aK:=λb=>(d b).bind λs a=>.ok (.ret s) a
theorem uF(G:DR X E e d):DS X E pin (.Return (aa e) pos) (mo d):=λF S o f H D A h=>by
 refine iM (xL bQ) (G F S o f H _ A ?_);unfold mo at h;cases i:d o with
 |no=>rw[i]at h;exact h.elim
 |er c u=>rw[i]at h;exact λx P L N C I=>h x P L f N C I (jn.refl _ _)
 |ok s r=>rw[i]at h;intro O K M B a v J y q;exact h v O K f M J B ⟨a.fro,a.keep,a.there,a.fnew,λb z=>z.elim (a.onew b) λw=>.inr (q b w).1⟩ (jn.refl _ _) y λb z=>(q b z).2
def jc(d:ac Slot):ac aK:=λb=>(d b).bind λ_ a=>.ok .next a
theorem p9(q:DR X E e d)(o:lj e ae pos.line X.env=pure aj:=by rfl):DS X E pin (.Expr e pos) (jc d):=λF S c a H D f h=>iM (Bv bQ o) (q F S c a H _ f (h.bindE.imp λx b w s u i z r v B y A=>r w s a u i (bq.refl ..) (jn.refl _ _)))
end
end Pu
namespace L2
section
variable{X:Cx}{l:List (af×Obj)}{i:St}{H:Hp}{s:am}{d:d9}{x:Str}{j:List Str}{g:List Nat}
theorem O0{E m O:aC}{y:Str}{py J F:Pos}{G k:Nat}{N:V->Hp->St->Prop}{A:List aC}{wi:TI}{ts:TT}{te:TE}(B:jr X d x j g)(hk:k<=g.length)(hc:X.calm=ah)(hi:PI X O m wi)(eY:∀C r w Y P,PG (cD X d j C r w Y P) O λv M H Q=>∃vs,vs.length=k+1/\M.length=j.length/\N v H vs/\Q (vs++M.drop (k+1)) H)(ht:∀C r w Y P,qH (cD X d j C r w Y P) A ts) (he:∀C r w Y P,PE (cD X d j C r w Y P) E te) (hN:X.N.Nodup) (wG:X.N[G]?=aa y) (hxy:Loc X.env.scope y) (wH:lj (.ListComp E [⟨O,m,A,0⟩] d J) (aa (.Name y py)) F.line X.env=pure ah) (hf:X.fn y=ah\/X.env.scope.names.lookup y=aa .local) (hs:∀x,mL m X.env x=pure x):PS X (.Assign [.Name y py] (.ListComp E [⟨O,m,A,0⟩] d J) F) (λD i H=>Cu wi N k ts te g i H λv H'=>D.nx (i.set G (aa v)) H'):=by
 intro l s i H D I h;rw[exec_Assign_Name_used _ _ _ _ wH];refine aq (wpAny_standAt (aq ?_));show ar _ X.A (do let _ <-comprehension (.ListComp E [⟨O,m,A,0⟩] d J) d X.env _ (newList []) aj (aX m X.env) (aa (assign (.Name y py) X.env))) _ _ s;refine aq (eW (?_:ar _ X.A _ (λ_ s'=>SP X l D .next s') X.xe s) (λ_ s' hq=>aD (aD hq)) λ_ _ e=>e);refine HN (use:=aa (assign (.Name y py) X.env)) B hk hc hi eY ht he hs I h λ{K s6 H3 H5 fp σ5 a f} Z f3 I6 q=>?_;obtain⟨mm,hn6,_⟩:=I6.loc;have J6:Inv X l i _ _:=Z.unblock f3 I6 (JB _ _);have S:K.heap.objs.size≠X.env.locals:=λe=>absurd Z.lt (by rw[<-e];exact fj _);have T:∀z c,X.env.cells.lookup z=aa c->c≠K.heap.objs.size:=λz c e e2=>by obtain⟨vv,oo,ho,_⟩:=Z.cell z c e;exact absurd (bC ho) (by rw[e2];exact fj _)
 refine wpAny_assign_Name (HH (v:=.ref a) J6 hN wG hxy rfl (λs7 I7 ⟨a7,sb7,ha7⟩=>?_) hf);have na7:K.heap.objs.size≠a7:=by
  rcases ha7 with z|z
  .rw[z];exact S
  .exact(T _ _ z).symm
 refine⟨mm,hn6.sameBut sb7 na7,λnc sb=>⟨_,_,?_,q⟩⟩;have W:H5 K.heap.objs.size=ae:=I6.free;refine I7.call' (s':={s7 with heap:=nc}) (ch:=[K.heap.objs.size]) rfl ⟨λb o e n hb L=>?_,λb o e n hb L=>?_,λb o e n L=>n,λb o e L=>?_,λb xs e=>e,λb o u e=>e,λb ps e=>e⟩ ?_ I7.bare λb hb=>?_
 .exact(sb.2 b (~~~L)).trans e
 .exact⟨o.slots,(sb.2 b (~~~L)).trans (~~~e)⟩
 .exact⟨o,(sb.2 b (~~~L)).trans e⟩
 .intro b u e;refine(I7.hok b u e).stay (λc v hc q=>(sb.2 c ?_).trans q) (λ_ q=>q) λ_ _ q=>q;rintro rfl;rcases hc with z|z
  .rw[<-z,W]at e;cases e
  .rw[W]at z;cases z
 .have e:b=K.heap.objs.size:=by simpa using hb
  subst e;refine⟨.inr Z.sz,S,T,λp hp e2=>?_⟩;obtain⟨e3,_⟩:=Z.pin p hp;exact absurd (bC e3) (by rw[e2];exact fj _)
theorem T2{n a:aC}{y:Str}{p w o f:Pos}{h:Nat}{m:List aC}{wi:TI}{ts:TT}{te:TE}(B:jr X d x j g)(K:X.calm=ah)(G:PI X (.Name x p) a wi)(E:∀C b c u q,qH (cD X d j C b c u q) m ts) (J:∀C b c u q,PE (cD X d j C b c u q) n te) (L:X.N.Nodup) (A:X.N[h]?=aa y) (r:Loc X.env.scope y) (z:lj (.ListComp n [⟨.Name x p,a,m,0⟩] d o) (aa (.Name y w)) f.line X.env=pure ah) (I:X.fn y=ah\/X.env.scope.names.lookup y=aa .local) (F:∀x,mL a X.env x=pure x):PS X (.Assign [.Name y w] (.ListComp n [⟨.Name x p,a,m,0⟩] d o) f) (λD i H=>Ct wi ts te g i H λv M=>D.nx (i.set h (aa v)) M):=O0 B (jY _) K G (EQ B) E J L A r z I F
end
end L2
namespace Pu
open L2
def eP(ε:ak):List Nat->Option (List bX)
 |[]=>aa []
 |j::cap=>match ε[j]? with
  |some (.val pv)=>(eP ε cap).map (.inl pv::·)
  |some (.own _)=>(eP ε cap).map (.inr j::·)
  |_=>ae
def eE{b:Type}(cap:List Nat)(d:ac b)(x:PV):ac b:=λε=>(aM (eP ε cap) ε).bind λa _=>(aM (if(cG a).Nodup then eI ε (.inl x::a)else ae) ε).bind λc _=>fA ε (.inl x::a) (d c)
def cg{a:Type}(r:R a):R a:=match r with
 |.er _ _=>.no
 |r=>r
def kf(cap:List Nat)(dt:ac Bool)(de:ac PV):List PV->List PV->ak->R (List PV)
 |[],b,ε=>.ok b ε
 |x::xs,b,ε=>(cg (eE cap dt x ε)).bind λk a=>match k with
  |true=>(cg (eE cap de x a)).bind λy c=>kf cap dt de xs (b++[y]) c
  |false=>kf cap dt de xs b a
def cW(cap:List Nat)(c:ac (List PV))(dt:ac Bool)(de:ac PV):ac PO:=λε=>(c ε).bind λxs ε1=>(kf cap dt de xs [] ε1).bind λb a=>.ok (.lst b) a
theorem An{K:ay}{F:af->Prop}{S:Nat->af->Prop}{f:ak}{d:St}{H:Hp}(r:aS K F S f d H):∀{b:List Nat}{i:List bX},eP f b=aa i->∃c,i5 K d F H i c/\gL d b=c.map aa
 |[],i,h=>by cases h;exact⟨[],rfl,rfl⟩
 |j::b,i,h=>by
  unfold eP at h;split at h
  .rename_i pv e;cases q:eP f b with
   |none=>rw[q]at h;cases h
   |some bs=>
    rw[q]at h;cases h;obtain⟨c,m,l⟩:=An r q;obtain⟨v,g,n⟩:=r.val j pv e;refine⟨v::c,⟨v,c,rfl,n,m⟩,?_⟩;show(d[j]?).join::gL d b=_;rw[g,l];rfl
  .rename_i o e;cases q:eP f b with
   |none=>rw[q]at h;cases h
   |some bs=>
    rw[q]at h;cases h;obtain⟨c,m,l⟩:=An r q;obtain⟨a,g,n⟩:=r.own j o e;refine⟨.ref a::c,⟨_,c,rfl,g,m⟩,?_⟩;show(d[j]?).join::gL d b=_;rw[g,l];rfl
  .cases h
theorem EZ{K:ay}{E:XK}{F:af->Prop}{S:Nat->af->Prop}{s:ak}{f:St}{H:Hp}{I:Type}{b:List Nat}{d:ac I}{x:PV}{v:V}{C:I->ak->(af->Prop)->(Nat->af->Prop)->Hp->Prop}(r:aS K F S s f H) (O:aY K H F x v) (h:Ok K E f F S H (cg (eE b d x s)) C):∃M l,aS K F M l (aa v::gL f b) H/\Ok K E0 (aa v::gL f b) F M H (d l) (λa _ q _ p=>∃j w,aS K q w j f p/\bq (U S) (U w) F q H p/\C a j q w p):=by
 unfold eE at h;cases D:eP s b with
 |none=>rw[D]at h;exact h.elim
 |some g=>
  rw[D]at h;simp only[cJ,R.bind_ok]at h;by_cases A:(cG g).Nodup
  .rw[if_pos A]at h;cases u:eI s (.inl x::g)with
   |none=>rw[u]at h;exact h.elim
   |some l=>
    rw[u]at h;simp only[cJ,R.bind_ok]at h;obtain⟨y,W,T⟩:=An r D;have o:i5 K f F H (.inl x::g) (v::y):=⟨v,y,rfl,O,W⟩
    have n:aa v::gL f b=(v::y).map aa:=by rw[T];rfl
    have m:(cG (.inl x::g)).Nodup:=A;refine⟨mC (.inl x::g) S,l,by rw[n];exact r.cal o u m,?_⟩;rw[n];cases B:d l with
    |no=>rw[B]at h;exact h.elim
    |er c G=>
     rw[B]at h;unfold fA at h;dsimp only at h;by_cases i:fJ (.inl x::g) G=ah
     .rw[if_pos i]at h;exact h.elim
     .rw[if_neg i]at h;exact h.elim
    |ok a G=>
     rw[B]at h;intro q w p P Q;unfold fA at h;dsimp only at h;by_cases i:fJ (.inl x::g) G=ah
     .rw[if_pos i]at h;obtain⟨N,J,L,_⟩:=r.called o u m P Q (λ_ z=>z) (nN i);exact⟨_,N,J,L,h q N p J L⟩
     .rw[if_neg i]at h;exact h.elim
  .rw[if_neg A]at h;exact h.elim
def yo(X:Cx)(a:List aC):TT:=λb H Q=>Bx (∀d s,Inv X d b H s->ar (au X.prog X.w) X.A (forIn a ah λc r=>if r=ah then do let ok <-n6 c X.env (aX c X.env);pure (ForInStep.yield ok)else pure (ForInStep.yield r)) (TP X d b Q) X.xe s)
def DF(X:Cx)(E:XK)(c:List aC)(d:ac Bool):Prop:=∀F S f a H Q,aS X.K F S f a H->Ok X.K E a F S H (d f) (λb _ _ _ g=>Q b g)->yo X c a H Q
def eh:ac Bool:=λε=>.ok ah ε
theorem qe{X:Cx}{E:XK}:DF X E [] eh:=λF S d a H Q b h=>⟨λc s I=>Oa c s a H Q I (h F S H b (bq.refl ..))⟩
theorem yk{X:Cx}{E:XK}{c:aC}{d:ac Bool}(h:DT X E c d):DF X E [c] d:=λF S b a H Q f q=>⟨λg s I=>IV qB g s a H Q I (h F S b a H Q f q)⟩
theorem Ok.bindB{K:ay}{E:XK}{b:St}{F s:af->Prop}{S n:Nat->af->Prop}{H p:Hp}{j i:Type}{D:i->ak->(af->Prop)->(Nat->af->Prop)->Hp->Prop}{r:R j}{k:j->ak->R i}(h:Ok K E b F S H (r.bind k) D)(g:bq (U S) (U n) F s H p):Ok K E b s n p r (λa d _ _ _=>Ok K E b F S H (k a d) D):=by
 cases r with
 |no=>exact h
 |er c f=>exact λx u o q l m=>h x u o q l (g.trans m)
 |ok a f=>exact λu o q l m=>h
section
variable{X:Cx}{E:XK}{c:d9}{x:Str}{N':List Str}{cap:List Nat}
theorem bq.stay{O a F d:af->Prop}{H b:Hp}(g:bq O a F d H b){l:af}{o:HO}(e:H l=aa o)(n:¬O l)(f:¬F l):b l=aa o/\¬d l/\¬a l :=
 ⟨g.keep l o e n,λz=>(g.fnew l z).elim f λw=>w.elim (λq=>by rw[e]at q;cases q) n,λz=>(g.onew l z).elim n λq=>by rw[e]at q;cases q⟩
theorem aS.lay{K:ay}{F:af->Prop}{S:Nat->af->Prop}{i:ak}{h:St}{H:Hp}{l:af}{o o':HO}(r:aS K F S i h H)(y:H l=aa o)(no:ef o)(v:¬F l)(nS:¬U S l):bq (λb=>U S b\/b=l) (U S) F F H (L2.upd H l o')/\Fit (λb=>U S b\/b=l) F H/\aS K F S i h (L2.upd H l o'):=by
 have f:bq (λb=>U S b\/b=l) (U S) F F H (L2.upd H l o'):=⟨λ_ z=>z,λb o e n=>by rw[bh λz=>n (.inr z)];exact e,λb o e=>by
  by_cases m:b=l
  .subst m;exact⟨_,upd_same⟩
  .exact⟨o,by rw[bh m];exact e⟩,λ_ z=>.inl z,λ_ z=>.inl (.inl z)⟩
 have g:Fit (λb=>U S b\/b=l) F H:=λb z=>by
  rcases z with z|rfl
  .exact r.fit b z
  .exact⟨v,_,y,no⟩
 refine⟨f,g,r.len,λb z=>let ⟨o,q⟩:=r.ex b z;f.there b o q,λj pv e=>?_,λj u e=>?_,λj b z=>?_,r.dist⟩
 .obtain⟨w,d,a⟩:=r.val j pv e;exact⟨w,d,a.grow f g⟩
 .obtain⟨w,d,a⟩:=r.own j u e;refine⟨w,d,a.mono (λ_ _ q=>q.grow f g) (λ_ _ q=>q.grow f g) λb o z q=>?_⟩;rw[bh (by rintro rfl;exact nS ⟨j,z⟩)];exact q
 .obtain⟨d,a,o,s,p⟩:=r.foot j b z;exact⟨d,a,o,by rw[bh (by rintro rfl;exact nS ⟨j,z⟩)];exact s,p⟩
theorem bq.lay{O d F h:af->Prop}{H f:Hp}{l:af}{o':HO}(g:bq O d F h H f)(a:H l=ae):bq O d F h H (L2.upd f l o'):=by
 refine⟨g.fro,λb o e n=>?_,λb o e=>?_,g.fnew,g.onew⟩
 .rw[bh (by rintro rfl;rw[a]at e;cases e)];exact g.keep b o e n
 .obtain⟨i,q⟩:=g.there b o e;exact⟨i,by rw[bh (by rintro rfl;rw[a]at e;cases e)];exact q⟩
theorem GG{elt A:aC}{px:Pos}{ifs:List aC}{di:ac (List PV)}{dt:ac Bool}{de:ac PV}(hi:DI X E (.Name x px) A di)(ht:∀C d f r p,DF (cD X c N' C d f r p) E0 ifs dt) (he:∀C d f r p,DE (cD X c N' C d f r p) E0 elt de){F:af->Prop}{S:Nat->af->Prop}{ε:ak}{j:St}{H:Hp}{Q:VK} (rl:aS X.K F S ε j H) (h:Ok X.K E j F S H (cW cap di dt de ε) (λpo _ s L g=>∀a Sa,gd X.K g s po a Sa->(∀b,Sa b->H b=ae/\¬s b/\¬U L b/\∃o,g b=aa o/\ef o)->Q (.ref a) g)):Ct (tu X (.Name x px) A) (λj H Q=>∀C d f r p,yo (cD X c N' C d f r p) ifs j H Q) (λj H Q=>∀C d f r p,jo (cD X c N' C d f r p) elt j H Q) cap j H Q:=by
 refine hi F S ε j H _ rl ((Ok.bind h).imp λxs ε1 N S1 H1 r1 g1 h1 J vs RR rs hz hw keep l hl=>?_);have h1:=h1.bind;have hvl:vs.length=xs.length:=rs.len;have a0:Al N N H1 (upd H1 l (.lst [])):=Al.new0 hl;have nF1:¬N l:=λz=>by obtain⟨o,q⟩:=r1.ex l z;rw[hl]at q;cases q
 have nS1:¬U S1 l:=λζ=>by obtain⟨i,z⟩:=ζ;obtain⟨_,_,o,q,_⟩:=r1.foot i l z;rw[hl]at q;cases q
 have hH:H l=ae:=nE g1 hl;refine⟨λi m D g=>m=xs.length-i/\i<=xs.length/\∃s L Y P,aS X.K s L Y j g/\bq (U S1) (U L) N s H1 g/\g l=aa (.lst D)/\¬s l/\¬U L l/\Reps X.K g s P D/\D.length<=i /\ Ok X.K E j N S1 H1 (kf cap dt de (xs.drop i) P Y) (λys' w T S2 M=>Ok X.K E j T S2 M (R.ok (PO.lst ys') w) (λpo _ s L g=>∀a Sa,gd X.K g s po a Sa->(∀b,Sa b->H b=ae/\¬s b/\¬U L b/\∃o,g b=aa o/\ef o)->Q (.ref a) g)),⟨_,rfl,jY _,N,S1,ε1,[],r1.al a0,a0.grow,upd_same,nF1,nS1,rfl,aZ _,h1⟩,?_⟩;rintro i m D M ⟨rfl,hi,T,S2,w,P,O,K,el,nF2,nS2,n,hyl,q2⟩;have RH:=keep S2 T M K;by_cases a6:i<xs.length
 .obtain⟨v,hv⟩:∃v,vs[i]?=aa v:=⟨_,eM ∅⟩
  obtain⟨go,yl⟩:=(hw M RH i).1 v hv;refine .inr ⟨go,λv' g y=>⟨[aa v'],rfl,rfl,?_⟩⟩;obtain⟨e1,e2⟩:=yl v' g y;subst e1 e2;obtain⟨px',hx,rx⟩:=rs.back hv;have ed:xs.drop i=px'::xs.drop (i+1):=by rw[v_ a6];congr 1;exact(c_.mp hx).2
  rw[ed]at q2;have Z:=rx.grow K r1.fit;have q3:=Ok.bindB q2 K;obtain⟨Sb,ss,rb,okb⟩:=EZ O Z q3;intro C d f r p;refine ht C d f r p T Sb ss _ g _ rb (okb.imp λb _ F3 _ H3 _ _ ζ=>?_);obtain⟨W,S3,r3,I,q4⟩:=ζ;obtain⟨el3,nF3,nS3⟩:=I.stay el nS2 nF2;cases b with
  |false=>exact ql ⟨_,∅,rfl,a6,F3,S3,W,P,r3,K.trans I,el3,nF3,nS3,n.grow I O.fit,∅,q4⟩
  |true=>refine qE ?_;have q5:Ok X.K E j N S1 H1 ((cg (eE cap de px' W)).bind λy w=>kf cap dt de (xs.drop (i+1)) (P++[y]) w) _:=q4;obtain⟨Sc,sc,rc,okc⟩:=EZ r3 (Z.grow I O.fit) (Ok.bindB q5 (K.trans I));intro C d f r p;refine he C d f r p F3 Sc sc _ H3 _ rc (okc.imp λy _ F4 _ H4 _ _ ⟨ε4,S4,r4,g4,q6⟩ u ru=>?_);obtain⟨el4,nF4,nS4⟩:=g4.stay el3 nS3 nF3;have G:=(n.grow I O.fit).grow g4 r3.fit;obtain⟨gl,B,r5⟩:=r4.lay (o':=.lst (D++[u])) el4 trivial nF4 nS4;have g5:=((K.trans I).trans g4).lay (o':=.lst (D++[u])) hl;refine⟨el4,?_,_,∅,rfl,a6,F4,S4,ε4,P++[y],r5,g5,upd_same,nF4,nS4,(G.grow gl B).app (.one (ru.grow gl B)),by simp;lia,q6⟩;lia
 .have e:i=xs.length:=∅
  subst e;refine .inl ⟨(hw M RH _).2 hvl.symm,?_⟩;rw[JK]at q2;exact q2 T S2 M O K T S2 M O (bq.refl ..) l (λb=>b=l) ⟨⟨D,el,n⟩,λb=>ou⟩ λb z=>by subst z;exact⟨hH,nF2,nS2,_,el,trivial⟩
theorem nr{j d:aC}{m pos:Pos}{i:List aC}{o:ac (List PV)}{dt:ac Bool}{de:ac PV}(B:jr X c x N' cap)(w:X.calm=ah)(u:DI X E (.Name x m) d o)(q:∀C a b g f,DF (cD X c N' C a b g f) E0 i dt) (v:∀C a b g f,DE (cD X c N' C a b g f) E0 j de) (r:∀x,mL d X.env x=pure x:=by intro _;rfl):DN X E (.ListComp j [⟨.Name x m,d,i,0⟩] c pos) (cW cap o dt de):=λF S y l H Q p h=>b9 (Gw (wi:=tu X (.Name x m) d) (ts:=λl H Q=>∀C a b g f,yo (cD X c N' C a b g f) i l H Q) (te:=λl H Q=>∀C a b g f,jo (cD X c N' C a b g f) j l H Q) (pos:=pos) B w zj (λC a b g f n s l H Q I h=>(h C a b g f).run n s I) (λC a b g f n s l H Q I h=>(h C a b g f).run n s I) r) (GG u q v p h)
end
theorem MR(x y:Tx):tS x++tS y=tS (x++y):=by
 show(⟨x.toArray++y.toArray⟩:Str)=⟨(x++y).toArray⟩
 simp
def bI:PV->PV->Option PV
 |.int i,.int j=>aa (.int (i+j))
 |.str x,.str y=>if(x++y).length<=bj then aa (.str (x++y))else ae
 |.tup xs,.tup a=>if xs≠[]/\a≠[]/\xs.length+a.length<=1000 then aa (.tup (xs++a))else ae
 |.lst xs,.lst a=>if xs.length+a.length<=bj then aa (.lst (xs++a))else ae
 |_,_=>ae
def jx:PV->PV->Option PV
 |.int i,.int j=>aa (.int (i-j))
 |_,_=>ae
def vG(i:Int):Bool:=decide (-(2^64)<i/\i<2^64)
def lJ:PV->PV->Option PV
 |.int i,.int j=>if vG i||vG j then aa (.int (i*j))else ae
 |.str x,.int j=>if 0<=j/\j<=100/\x.length<=100 then aa (.str (bE j.toNat x).flatten)else ae
 |_,_=>ae
def iC:PV->PV->Option PV
 |.int i,.int j=>if 0<j then aa (.int (i % j))else ae
 |_,_=>ae
def uY:PV->PV->Option PV
 |.int i,.int j=>if 0<=j/\j<=1000000/\i.natAbs<2^64 then aa (.int (i^j.toNat))else ae
 |_,_=>ae
def d7:PV->Option PV
 |.int i=>aa (.int (-i))
 |_=>ae
def G5:R2:=λx y H Q=>∃l b xs a,x=.ref l/\y=.ref b/\Rd H l (.lst xs)/\Rd H b (.lst a)/\xs.length+a.length<=bf/\∀p,H p=ae->Q (.ref p) (upd H p (.lst (xs++a)))
def xW(K:ay):R2:=λx y H Q=>((mn λi j=>V.int (i+j)) x y H Q\/∃i j,x=.str i/\y=.str j/\i.length+j.length<=bf/\Q (.str (i++j)) H)\/(FG K x y H Q\/G5 x y H Q)
def Hf:R2:=λx y H Q=>rI BG (λi j=>.int (i*j)) x y H Q\/∃(z:Tx) (n:Nat),x=tV z/\y=.int n/\n<=100/\z.length<=100/\Q (tV (bE n z).flatten) H
section
variable{X:Cx}{K:ay}
theorem uJ:P2 K (mn λi j=>.int (i-j)) jx:=λF H x y v u Q pv b a e q=>by
 unfold jx at e;split at e
 .cases e;exact⟨_,_,b,a,q _ F H (Al.refl ..) rfl⟩
 .cases e
theorem vN:P2 K (rI (λ_ j=>0<j) λi j=>.int (i % j)) iC:=λF H x y v u Q pv b a e q=>by
 unfold iC at e;split at e
 .split at e
  .cases e;exact⟨_,_,b,a,by assumption,q _ F H (Al.refl ..) rfl⟩
  .cases e
 .cases e
theorem UO:P2 K (rI F6 λi j=>.int (i^j.toNat)) uY:=λF H x y v u Q pv b a e q=>by
 unfold uY at e;split at e
 .split at e
  .cases e;exact⟨_,_,b,a,by assumption,q _ F H (Al.refl ..) rfl⟩
  .cases e
 .cases e
theorem nX:P1 K (rU λi=>.int (-i)) d7:=λF H x v Q pv a e q=>by
 unfold d7 at e;split at e
 .cases e;exact⟨_,a,q _ F H (Al.refl ..) rfl⟩
 .cases e
theorem BV{c:List (af×Obj)}{b:St}{H:Hp}{s:am}{l:af}{xs:List V}(I:Inv X c b H s)(h:Rd H l (.lst xs)):∃(a:List ai) (n:Nat),bt xs a/\s.heap.get? l=aa {cls:=.type "list",data:=.seq a.toArray n}/\xs.length<=bf:=by obtain⟨z,a,n,r,e⟩:=h.ok I.hok;exact⟨a,n,r,e,z⟩
theorem NH:bT X (il .Add) G5:=by
 intro C s p H x y v u Q I i g h;obtain⟨l,b,xs,w,rfl,rfl,f,j,A,q⟩:=h;cases i;cases g;obtain⟨c,n,r,e,_⟩:=BV I f;obtain⟨a,z,d,o,_⟩:=BV I j;have f:=r.length;have B:=d.length;refine PySem.P.add_list e o ?_ (by rw[cM,cM];lia);have m:c.toArray++a.toArray=(c++a).toArray:=by simp
 rw[m];exact⟨.ref _,_,I.lnew (t':=s.toks) (r.append d) (by rw[fz];lia),rfl,q _ I.fresh⟩
theorem fW:bT X (il .Add) (xW X.K):=(VB.or Nr).or (Vv.or NH)
theorem fQ:P2 K (xW K) bI:=λF H x y v u Q pv l j e q=>by
 unfold bI at e;split at e
 .cases e;exact .inl (.inl ⟨_,_,l,j,q _ F H (Al.refl ..) rfl⟩)
 .rename_i x y;split at e
  .rename_i c;cases e;refine .inl (.inr ⟨_,_,l.1,j.1,?_,?_⟩)
   .rw[kT,kT];rw[fz]at c;exact cX c mz
   .exact q _ F H (Al.refl ..) ⟨by rw[MR];rfl,c⟩
  .cases e
 .rename_i xs s;split at e
  .rename_i c;cases e;obtain⟨a,n,rfl,r,f⟩:=l;obtain⟨b,m,rfl,o,d⟩:=j;have h:=f.len;have g:=d.len;refine .inr (.inl ⟨a,b,n,m,rfl,rfl,cL.of r,cL.of o,λz=>c.1 (by rw[z]at h;exact pB h.symm),by rw[h,g];exact A9 c.2.2,λz=>absurd (by rw[z]at g;exact pB g.symm) c.2.1,λ_ p i=>?_⟩);exact q _ F _ (Al.new0 i) ⟨p,_,rfl,upd_same,(Al.new0 i).reps (f.app d)⟩
  .cases e
 .rename_i xs s;split at e
  .rename_i c;cases e;obtain⟨a,n,rfl,r,A,f⟩:=l;obtain⟨b,m,rfl,o,w,d⟩:=j;have h:=f.len;have g:=d.len;refine .inr (.inr ⟨a,b,n,m,rfl,rfl,r,o,by rw[h,g];exact cX c mz,λp i=>?_⟩);exact q _ _ _ (Al.new i) ⟨p,_,rfl,.inl upd_same,.inr rfl,(Al.new i).reps (f.app d)⟩
  .cases e
 .cases e
theorem Bg:bT X (il .Mult) Hf:=Vq.or QK
theorem AT:P2 K Hf lJ:=λF H x y v u Q pv b a e q=>by
 unfold lJ at e;split at e
 .rename_i i j;split at e
  .rename_i h;cases e;refine .inl ⟨_,_,b,a,?_,q _ F H (Al.refl ..) rfl⟩;rw[C5]at h;exact h.imp of_decide_eq_true of_decide_eq_true
  .cases e
 .rename_i x j;split at e
  .rename_i h;cases e;refine .inr ⟨x,j.toNat,b.1,?_,∅,h.2.2,q _ F H (Al.refl ..) ⟨rfl,?_⟩⟩
   .rw[show u=V.int j from a];congr 1;lia
   .rw[ye];have c:j.toNat<=100:=∅
    exact cX (tT c h.2.2) (by decide)
  .cases e
 .cases e
def dE(f:Int->Int->Bool):PV->PV->Option PV
 |.int i,.int j=>aa (.bl (f i j))
 |_,_=>ae
theorem kg{f:Int->Int->Bool}:P2 K (mn λi j=>.bl (f i j)) (dE f):=λF H x y v u Q pv b a e q=>by
 unfold dE at e;split at e
 .cases e;exact⟨_,_,b,a,q _ F H (Al.refl ..) rfl⟩
 .cases e
def eD:PV->Option V
 |.non=>aa .non
 |.bl b=>aa (.bl b)
 |.int i=>aa (.int i)
 |.str x=>aa (tV x)
 |_=>ae
theorem j7{H:Hp}{F:af->Prop}{x:PV}{v w:V}(r:aY K H F x v)(e:eD x=aa w):v=w:=by
 cases x <;> simp[eD]at e <;> subst e
 .exact r
 .exact r
 .exact r
 .exact r.1
theorem uA{x:PV}{w:V}(e:eD x=aa w):gQ w=ah:=by
 cases x <;> simp[eD]at e <;> subst e <;> rfl
mutual
def dH:PV->PV->Option Bool
 |.tup xs,y=>match y with
  |.tup a=>iO xs a
  |_=>ae
 |.lst xs,y=>match y with
  |.lst a=>iO xs a
  |_=>ae
 |.non,y=>(eD y).map (fS .non)
 |.bl b,y=>(eD y).map (fS (.bl b))
 |.int i,y=>(eD y).map (fS (.int i))
 |.str x,y=>(eD y).map (fS (tV x))
 |.raw _,_=>ae
 |.exc _,_=>ae
def iO:List PV->List PV->Option Bool
 |[],c=>aa c.isEmpty
 |x::xs,c=>match c with
  |[]=>aa aj
  |y::c=>(dH x y).bind λa=>(iO xs c).map λb=>a&&b
end
mutual
def kj:PV->Nat
 |.tup xs=>jA xs+1
 |.lst xs=>jA xs+1
 |_=>0
def jA:List PV->Nat
 |[]=>0
 |x::xs=>max (kj x) (jA xs)
end
theorem IT{H:Hp}{d a:Nat}{x y:V}{k:Bool}(h:i7 K H d x y k)(l:d<=a):i7 K H a x y k:=λX g i b s u v A I f c j=>h X g i b s u v A I f c ∅
theorem yr{H:Hp}{F:af->Prop}{w:V}{y:PV}{u:V}{k:Bool}{d:Nat}(b:gQ w=ah)(e:(eD y).map (fS w)=aa k)(a:aY K H F y u):i7 K H d w u k:=by
 cases q:eD y with
 |none=>rw[q]at e;cases e
 |some z=>
  rw[q]at e;cases e;rw[j7 a q];exact Mh b (uA q)
theorem LD{H:Hp}{a:af}{xs b:List V}(h:Rd H a (.lst xs))(g:Rd H a (.lst b)):xs=b:=by
 rcases h with h|⟨o,h⟩ <;> rcases g with g|⟨c,g⟩ <;> rw[h]at g <;> cases g <;> rfl
theorem Uy{a:Bool}{e:Nat->Bool}{n m:Nat}:gB (λj=>if j=0 then a else e (j-1)) (n+1) (m+1)=(a&&gB e n m):=by
 unfold gB;rw[show min (n+1) (m+1)=min n m+1 by lia,CY,tI,CZ,if_pos rfl,Bool.and_assoc];congr 1;congr 1
 .simp
mutual
theorem A4{H:Hp}{F:af->Prop}:∀(x y:PV) {v:V}{k:Bool},dH x y=aa k->aY K H F x v->aY K H F y v->k=ah
 |.tup xs,y,v,k,e,d,c=>by
  unfold dH at e;split at e
  .obtain⟨a,m,rfl,i,f⟩:=d;obtain⟨b,l,j,g,h⟩:=c;cases j;rw[i]at g;cases g;exact BN xs _ e f h
  .cases e
 |.lst xs,y,v,k,e,d,c=>by
  unfold dH at e;split at e
  .obtain⟨a,m,rfl,i,_,f⟩:=d;obtain⟨b,l,j,g,_,h⟩:=c;cases j;rw[LD i g]at f;exact BN xs _ e f h
  .cases e
 |.non,y,v,k,e,d,c=>by
  unfold dH at e;cases q:eD y with
  |none=>rw[q]at e;cases e
  |some z=>rw[q]at e;cases e;rw[<-j7 c q,show v=V.non from d];rfl
 |.bl b,y,v,k,e,d,c=>by
  unfold dH at e;cases q:eD y with
  |none=>rw[q]at e;cases e
  |some z=>rw[q]at e;cases e;rw[<-j7 c q,show v=V.bl b from d];exact beq_self_eq_true b
 |.int b,y,v,k,e,d,c=>by
  unfold dH at e;cases q:eD y with
  |none=>rw[q]at e;cases e
  |some z=>rw[q]at e;cases e;rw[<-j7 c q,show v=V.int b from d];exact beq_self_eq_true b
 |.str b,y,v,k,e,d,c=>by
  unfold dH at e;cases q:eD y with
  |none=>rw[q]at e;cases e
  |some z=>rw[q]at e;cases e;rw[<-j7 c q,show v=tV b from d.1];exact beq_self_eq_true (tS b)
 |.raw _,_,_,_,e,_,_=>by unfold dH at e;cases e
 |.exc _,_,_,_,e,_,_=>by unfold dH at e;cases e
theorem BN{H:Hp}{F:af->Prop}:∀(xs c:List PV) {d:List V}{k:Bool},iO xs c=aa k->Reps K H F xs d->Reps K H F c d->k=ah
 |[],c,d,k,e,h,f=>by
  unfold iO at e;rw[show d=[] from h]at f;have:=f.len;cases c with
  |nil=>cases e;rfl
  |cons=>simp at this
 |x::xs,c,d,k,e,h,f=>by
  unfold iO at e;obtain⟨v,r,rfl,l,j⟩:=h;cases c with
  |nil=>have:=f.len;simp at this
  |cons y c=>
   obtain⟨p,q,o,n,m⟩:=f;cases o;simp only at e;cases g:dH x y with
   |none=>rw[g]at e;cases e
   |some a=>
    cases i:iO xs c with
    |none=>rw[g,i]at e;cases e
    |some b=>
     rw[g,i]at e;cases e;rw[A4 x y g l n,BN xs c i j m];rfl
end
mutual
theorem UR{H:Hp}{F:af->Prop}:∀(x y:PV) {v u:V}{k:Bool},dH x y=aa k->aY K H F x v->aY K H F y u->i7 K H (kj x) v u k
 |.tup xs,y,v,u,k,e,d,c=>by
  have o:=e;unfold dH at e;split at e
  .rename_i h;obtain⟨a,q,rfl,n,j⟩:=id d;obtain⟨b,p,rfl,m,i⟩:=id c;by_cases g:a=b
   .subst g;rw[A4 _ _ o d c];exact EU
   .obtain⟨f,l,rfl⟩:=vm xs h e j i;unfold kj;exact M_ (cL.of n) (cL.of m) g l
  .cases e
 |.lst xs,y,v,u,k,e,d,c=>by
  have o:=e;unfold dH at e;split at e
  .rename_i h;obtain⟨a,q,rfl,n,_,j⟩:=id d;obtain⟨b,p,rfl,m,_,i⟩:=id c;by_cases g:a=b
   .subst g;rw[A4 _ _ o d c];exact EU
   .obtain⟨f,l,rfl⟩:=vm xs h e j i;unfold kj;exact KG (.inl n) (.inl m) g l
  .cases e
 |.non,y,v,u,k,e,d,c=>by unfold dH at e;rw[show v=V.non from d];exact yr rfl e c
 |.bl b,y,v,u,k,e,d,c=>by unfold dH at e;rw[show v=V.bl b from d];exact yr rfl e c
 |.int b,y,v,u,k,e,d,c=>by unfold dH at e;rw[show v=V.int b from d];exact yr rfl e c
 |.str b,y,v,u,k,e,d,c=>by unfold dH at e;rw[show v=tV b from d.1];exact yr rfl e c
 |.raw _,_,_,_,_,e,_,_=>by unfold dH at e;cases e
 |.exc _,_,_,_,_,e,_,_=>by unfold dH at e;cases e
theorem vm{H:Hp}{F:af->Prop}:∀(xs c:List PV) {d g:List V}{k:Bool},iO xs c=aa k->Reps K H F xs d->Reps K H F c g -> ∃f:Nat->Bool,(∀(j:Nat) x y,d[j]?=aa x->g[j]?=aa y->i7 K H (jA xs) x y (f j))/\k=gB f d.length g.length
 |[],c,d,g,k,e,m,i=>by
  unfold iO at e;rw[show d=[] from m];refine⟨λ_=>ah,λj x y h=>by simp at h,?_⟩;have:=i.len;cases e;unfold gB;cases c with
  |nil=>simp at this;simp[this]
  |cons=>rw[this];simp
 |x::xs,c,d,g,k,e,m,i=>by
  unfold iO at e;obtain⟨v,r,rfl,A,z⟩:=m;cases c with
  |nil=>
   cases e;rw[show g=[] from i];exact⟨λ_=>ah,λj x y _ h=>by simp at h,by simp[gB]⟩
  |cons y c=>
   obtain⟨u,D,rfl,C,B⟩:=i;simp only at e;cases l:dH x y with
   |none=>rw[l]at e;cases e
   |some a=>
    cases n:iO xs c with
    |none=>rw[l,n]at e;cases e
    |some b=>
     rw[l,n]at e;cases e;obtain⟨f,w,rfl⟩:=vm xs c n z B;refine⟨λj=>if j=0 then a else f (j-1),λj p q s o=>?_,by rw[cE,cE,Uy]⟩;cases j with
     |zero=>simp at s o;subst s o;show i7 K H _ _ _ (if(0:Nat)=0 then a else f (0-1));rw[if_pos rfl];exact IT (UR x y l A C) (by unfold jA;exact Nat.le_max_left _ _)
     |succ j=>show i7 K H _ _ _ (if j+1=0 then a else f (j+1-1));rw[if_neg ∅];exact IT (w j p q (~~~s) (~~~o)) (show jA xs<=max (kj x) (jA xs)from Nat.le_max_right _ _)
end
def eqT(neg:Bool)(x y:PV):Option PV:=match eD x,eD y with
 |some v,aa u=>if vq v u then aa (.bl (neg^^decide (v=u)))else ae
 |none,ae=>if kj x<=8 then(dH x y).map λk=>.bl (neg^^k)else ae
 |_,_=>ae
def yX(K:ay):R2:=λx y H Q=>G9 x y H Q\/uU K aj x y H Q
def ER(K:ay):R2:=λx y H Q=>Ge x y H Q\/uU K ah x y H Q
theorem qT(a:X.A.units+64<cLine):bT X (dX .Eq) (yX X.K):=Vx.or (La a)
theorem su(a:X.A.units+64<cLine):bT X (dX .NotEq) (ER X.K):=VL.or (Rg a)
theorem HY{H:Hp}{F:af->Prop}{x y:PV}{v u:V}{k:Bool}{Q:VK}{neg:Bool}(g:eD x=ae)(e:dH x y=aa k)(A:kj x<=8)(w:aY K H F x v)(s:aY K H F y u)(q:Q (.bl (neg^^k)) H):uU K neg v u H Q:=by
 have c:∀{d:Bool},k=d->Q (.bl (if neg=ah then !d else d)) H:=λ{d} z=>by subst z;cases neg <;> simpa using q
 cases x with
 |tup xs=>
  unfold dH at e;split at e
  .rename_i h;obtain⟨a,j,rfl,p,m⟩:=w;obtain⟨b,i,rfl,o,l⟩:=s;obtain⟨f,n,r⟩:=vm xs h e m l;unfold kj at A;exact⟨a,b,j,i,jA xs,f,rfl,rfl,.inr ⟨cL.of p,cL.of o⟩,∅,n,c r⟩
  .cases e
 |lst xs=>
  unfold dH at e;split at e
  .rename_i h;obtain⟨a,j,rfl,p,_,m⟩:=w;obtain⟨b,i,rfl,o,_,l⟩:=s;obtain⟨f,n,r⟩:=vm xs h e m l;unfold kj at A;exact⟨a,b,j,i,jA xs,f,rfl,rfl,.inl ⟨.inl p,.inl o⟩,∅,n,c r⟩
  .cases e
 |raw _=>unfold dH at e;cases e
 |exc _=>unfold dH at e;cases e
 |non=>cases g
 |bl _=>cases g
 |int _=>cases g
 |str _=>cases g
theorem qt:P2 K (yX K) (eqT aj):=λF H x y v u Q pv g f e q=>by
 unfold eqT at e;split at e
 .rename_i a b d h;split at e
  .rename_i i;cases e;rw[j7 g d,j7 f h];refine .inl ⟨i,?_⟩;have:=q (.bl (decide (a=b))) F H (Al.refl ..) (by simp[aY]);exact this
  .cases e
 .rename_i d h;split at e
  .rename_i j;cases c:dH x y with
   |none=>rw[c]at e;cases e
   |some k=>
    rw[c]at e;cases e;exact .inr (HY (neg:=aj) d c j g f (q _ F H (Al.refl ..) rfl))
  .cases e
 .cases e
theorem sW:P2 K (ER K) (eqT ah):=λF H x y v u Q pv g f e q=>by
 unfold eqT at e;split at e
 .rename_i a b d h;split at e
  .rename_i i;cases e;rw[j7 g d,j7 f h];refine .inl ⟨i,?_⟩;have:=q (.bl (!decide (a=b))) F H (Al.refl ..) (by simp[aY]);exact this
  .cases e
 .rename_i d h;split at e
  .rename_i j;cases c:dH x y with
   |none=>rw[c]at e;cases e
   |some k=>
    rw[c]at e;cases e;exact .inr (HY (neg:=ah) d c j g f (q _ F H (Al.refl ..) rfl))
  .cases e
 .cases e
end
open L2
section
variable{X:Cx}{K:ay}
def xm(i j:Tx):Bool:=!(Jd (tS j) (tS i) 0 (tS j).length 1).isEmpty
def k8:List PV->Option (List V)
 |[]=>aa []
 |x::xs=>(eD x).bind λv=>(k8 xs).map λr=>v::r
theorem xx{H:Hp}{F:af->Prop}:∀{xs:List PV}{c a:List V},Reps K H F xs c->k8 xs=aa a->c=a/\a.all gQ=ah
 |[],_,_,r,e=>by cases e;exact⟨r,rfl⟩
 |x::xs,_,a,⟨v,r,rfl,f,d⟩,e=>by
  unfold k8 at e;cases q:eD x with
  |none=>rw[q]at e;cases e
  |some w=>
   cases b:k8 xs with
   |none=>rw[q,b]at e;cases e
   |some i=>
    rw[q,b]at e;cases e;obtain⟨h,g⟩:=xx d b;exact⟨by rw[j7 f q,h],by rw[tI,uA q,g];rfl⟩
def sr(neg:Bool):PV->PV->Option PV
 |.str x,.str y=>aa (.bl (neg^^xm x y))
 |x,.lst a=>(eD x).bind λv=>(k8 a).map λb=>.bl (neg^^u6 v b)
 |x,.tup a=>(eD x).bind λv=>(k8 a).map λb=>.bl (neg^^u6 v b)
 |_,_=>ae
def Iw(K:ay):R2:=λx y H Q=>(∃i j,x=.str i/\y=.str j/\Q (.bl (!(Jd j i 0 j.length 1).isEmpty)) H)\/Bf K aj x y H Q
theorem SK:bT X (dX .In) (Iw X.K):=Vt.or S6
theorem FH{H:Hp}{F:af->Prop}{x:PV}{c:List PV}{v:V}{p:af}{b:List V}{Q:VK}{neg:Bool}{pv:PV}(g:aY K H F x v)(i:b_ K H p b\/cL K H p b)(h:Reps K H F c b)(e:((eD x).bind λv=>(k8 c).map λf=>PV.bl (neg^^u6 v f))=aa pv) (q:∀w,aY K H F pv w->Q w H):Bf K neg v (.ref p) H Q:=by
 cases a:eD x with
 |none=>rw[a]at e;cases e
 |some w=>
  cases d:k8 c with
  |none=>rw[a,d]at e;cases e
  |some f=>
   rw[a,d]at e;cases e;obtain⟨rfl,j⟩:=xx h d;rw[j7 g a];refine⟨p,b,rfl,i,uA a,j,?_⟩;have:=q _ rfl;cases neg <;> simpa using this
theorem KR:P2 K (Iw K) (sr aj):=λF H x y v u Q pv d c e q=>by
 unfold sr at e;split at e
 .cases e;exact .inl ⟨_,_,d.1,c.1,by have:=q _ F H (Al.refl ..) rfl;simpa[xm]using this⟩
 .obtain⟨a,h,rfl,g,_,f⟩:=c;exact .inr (FH (neg:=aj) d (.inl (.inl g)) f e λw b=>q w F H (Al.refl ..) b)
 .obtain⟨a,h,rfl,g,f⟩:=c;exact .inr (FH (neg:=aj) d (.inr (cL.of g)) f e λw b=>q w F H (Al.refl ..) b)
 .cases e
def bH:List PV->Option PV
 |[.str x]=>aa (.int x.length)
 |[.lst xs]=>aa (.int xs.length)
 |[.tup xs]=>aa (.int xs.length)
 |_=>ae
theorem fU{H:Hp}{F:af->Prop}{x:PV}{a:List V}(r:Reps K H F [x] a):∃v,a=[v]/\aY K H F x v:=by obtain⟨v,b,rfl,d,c⟩:=r;rw[show b=[] from c];exact⟨v,rfl,d⟩
theorem jz:PL K (λxs H Q=>∃x n,xs=[x]/\Fs K x H n/\Q (.int n) H) bH:=λF H xs h Q pv c e q=>by
 unfold bH at e;split at e
 .cases e;obtain⟨v,rfl,g⟩:=fU c;rw[g.1];exact⟨_,_,rfl,⟨by rw[kT];exact cX g.2 mz,rfl⟩,by rw[kT];exact q _ F H (Al.refl ..) rfl⟩
 .cases e;obtain⟨v,rfl,a,b,rfl,f,_,d⟩:=fU c;exact⟨_,_,rfl,.inl ⟨b,.inl f,rfl⟩,by rw[d.len];exact q _ F H (Al.refl ..) rfl⟩
 .cases e;obtain⟨v,rfl,a,b,rfl,f,d⟩:=fU c;exact⟨_,_,rfl,.inr ⟨b,cL.of f,rfl⟩,by rw[d.len];exact q _ F H (Al.refl ..) rfl⟩
 .cases e
def yv:List PV->Option PO
 |[.lst xs]=>aa (.lst xs)
 |[.tup xs]=>aa (.lst xs)
 |_=>ae
theorem Qi:oV K (λxs H Q=>∃p c,xs=[.ref p]/\(b_ K H p c\/cL K H p c)/\∀l,H l=ae->Q (.ref l) (upd H l (.lst c))) yv:=λF H xs j Q m i h e q=>by
 unfold yv at e;split at e
 .cases e;obtain⟨v,rfl,a,d,rfl,g,_,f⟩:=fU h;exact⟨a,d,rfl,.inl (.inl g),λl b=>q l F _ _ (Al.new0 b) (xU b f) (yf b i trivial)⟩
 .cases e;obtain⟨v,rfl,a,d,rfl,g,f⟩:=fU h;exact⟨a,d,rfl,.inr (cL.of g),λl b=>q l F _ _ (Al.new0 b) (xU b f) (yf b i trivial)⟩
 .cases e
def vc:List PV->Option PV
 |[.lst xs]=>aa (.tup xs)
 |[.tup xs]=>aa (.tup xs)
 |_=>ae
theorem SR:PL K (λxs H Q=>∃p d,xs=[.ref p]/\((b_ K H p d/\∀l,H l=ae->Q (.ref l) (upd H l (.tup d)))\/(cL K H p d/\Q (.ref p) H))) vc:=λF H xs i Q pv g e q=>by
 unfold vc at e;split at e
 .cases e;obtain⟨v,rfl,a,b,rfl,c,_,f⟩:=fU g;exact⟨a,b,rfl,.inl ⟨.inl c,λl h=>q _ F _ (Al.new0 h) ⟨l,b,rfl,upd_same,(Al.new0 h).reps f⟩⟩⟩
 .cases e;obtain⟨v,rfl,a,b,rfl,c,f⟩:=fU g;exact⟨a,b,rfl,.inr ⟨cL.of c,q _ F H (Al.refl ..) ⟨a,b,rfl,c,f⟩⟩⟩
 .cases e
def fI:List PV->Option (List Tx)
 |[]=>aa []
 |.str x::xs=>(fI xs).map (x::·)
 |_=>ae
def ao(a:List Tx):List PV:=a.map .str
theorem qc(a:List Tx):fI (ao a)=aa a:=by
 induction a with
 |nil=>rfl
 |cons x a b=>show(fI (ao a)).map (x::·)=_;rw[b];rfl
theorem p_:∀{xs:List PV}{a:List Tx},fI xs=aa a->xs=ao a
 |[],a,e=>by cases e;rfl
 |.str x::xs,a,e=>by
  unfold fI at e;cases q:fI xs with
  |none=>rw[q]at e;cases e
  |some r=>rw[q]at e;cases e;rw[p_ q];rfl
 |.non::_,_,e=>by cases e
 |.bl _::_,_,e=>by cases e
 |.int _::_,_,e=>by cases e
 |.tup _::_,_,e=>by cases e
 |.lst _::_,_,e=>by cases e
 |.raw _::_,_,e=>by cases e
 |.exc _::_,_,e=>by cases e
theorem Vr{H:Hp}{F:af->Prop}:∀{a:List Tx}{b:List V},Reps K H F (ao a) b↔b=cR a/\∀x∈a,x.length<=bj
 |[],b=>by simp[ao,Reps,cR]
 |x::a,b=>by
  show(∃v r,b=v::r/\(v=tV x/\x.length<=bj)/\Reps K H F (ao a) r)↔_;constructor
  .rintro⟨v,r,rfl,⟨rfl,f⟩,h2⟩;obtain⟨rfl,d⟩:=Vr.mp h2;exact⟨rfl,λy c=>by
    rcases bn.mp c with rfl|c
    .exact f
    .exact d y c⟩
  .rintro⟨rfl,h⟩;exact⟨tV x,cR a,rfl,⟨rfl,h x (by simp)⟩,Vr.mpr ⟨rfl,λy c=>h y (by simp[c])⟩⟩
def nt:List PV->Option (List Bool)
 |[]=>aa []
 |.bl b::xs=>(nt xs).map (b::·)
 |_=>ae
theorem GJ{H:Hp}{F:af->Prop}:∀{xs:List PV}{a:List V}{bs:List Bool},Reps K H F xs a->nt xs=aa bs->a=bs.map V.bl
 |[],_,_,r,e=>by cases e;exact r
 |.bl b::xs,_,bs,⟨v,r,rfl,d,c⟩,e=>by
  unfold nt at e;cases q:nt xs with
  |none=>rw[q]at e;cases e
  |some f=>rw[q]at e;cases e;rw[GJ c q,show v=V.bl b from d];rfl
 |.non::_,_,_,_,e=>by cases e
 |.str _::_,_,_,_,e=>by cases e
 |.int _::_,_,_,_,e=>by cases e
 |.tup _::_,_,_,_,e=>by cases e
 |.lst _::_,_,_,_,e=>by cases e
 |.raw _::_,_,_,_,e=>by cases e
 |.exc _::_,_,_,_,e=>by cases e
def sV:List PV->Option PV
 |[.lst xs]=>(nt xs).map λbs=>.bl (bs.all id)
 |_=>ae
theorem IZ:PL K (λxs H Q=>∃(p:af) (bs:List Bool),xs=[.ref p]/\b_ K H p (bs.map V.bl)/\Q (.bl (bs.all id)) H) sV:=λF H xs h Q pv f e q=>by
 unfold sV at e;split at e
 .rename_i d;cases b:nt d with
  |none=>rw[b]at e;cases e
  |some bs=>
   rw[b]at e;cases e;obtain⟨v,rfl,a,i,rfl,c,_,g⟩:=fU f;rw[GJ g b]at c;exact⟨a,bs,rfl,.inl c,q _ F H (Al.refl ..) rfl⟩
 .cases e
def tt:PV->Option String
 |.non=>aa "NoneType"
 |.bl _=>aa "bool"
 |.int _=>aa "int"
 |.str _=>aa "str"
 |.tup _=>aa "tuple"
 |.lst _=>aa "list"
 |_=>ae
def eu:List PV->Option PV
 |[x,.raw (.ty T)]=>(tt x).bind λt=>(fe [] (.type t) (.type T)).map λb=>.bl b
 |_=>ae
theorem qb:d4 X (.builtin "isinstance") (λxs H Q=>∃x t T b,xs=[x,.ty T]/\jd X.K H x (.type t)/\fe X.K (.type t) (.type T)=aa b/\Q (.bl b) H):=by
 intro l s g H xs i Q I r h;obtain⟨x,t,T,b,rfl,ty,e,q⟩:=h;cases r with
 |cons f d=>
  cases d with
  |cons c a=>
   cases a;cases c;exact N5 I f ty e λj=>⟨.bl b,H,I.tok _,rfl,q⟩
theorem OI{H:Hp}{F:af->Prop}{x:PV}{v:V}{t:String}(r:aY K H F x v)(e:tt x=aa t):jd K H v (.type t):=by
 cases x with
 |non=>cases e;rw[show v=V.non from r];exact .non
 |bl b=>cases e;rw[show v=V.bl b from r];exact .bl b
 |int b=>cases e;rw[show v=V.int b from r];exact .int b
 |str b=>cases e;rw[show v=tV b from r.1];exact .str _
 |tup xs=>cases e;obtain⟨a,d,rfl,c,_⟩:=r;exact .tup c
 |lst xs=>
  cases e;obtain⟨a,d,rfl,c,_⟩:=r;rcases c with c|⟨o,c⟩
  .exact .lst c
  .exact .frz c
 |raw _=>cases e
 |exc _=>cases e
theorem qA:PL K (λxs H Q=>∃x t T b,xs=[x,.ty T]/\jd K H x (.type t)/\fe K (.type t) (.type T)=aa b/\Q (.bl b) H) eu:=λF H xs i Q pv d e q=>by
 unfold eu at e;split at e
 .rename_i x T;cases a:tt x with
  |none=>rw[a]at e;cases e
  |some t=>
   cases c:fe [] (.type t) (.type T)with
   |none=>rw[a,gk,c]at e;cases e
   |some b=>
    rw[a,gk,c]at e;cases e;obtain⟨v,j,rfl,h,g⟩:=d;obtain⟨u,rfl,f⟩:=fU g;rw[show u=V.ty T from f];exact⟨v,t,T,b,rfl,OI h a,c,q _ F H (Al.refl ..) rfl⟩
 .cases e
theorem qd{E:XK}{x:Str}{T:String}{f:Pos}(c:X.mg x=ae)(a:fk x=aa (.type T))(d:Gl X x:=by rfl)(b:x≠"__name__":=by decide)(g:ad x:=by decide):DE X E (.Name x f) (dC (.raw (.ty T))):=λF S i h H Q r q=>b9 (OB (v:=.ty T) d c a rfl b g) (q F S H r (bq.refl ..) _ rfl)
def aR:PV->PV->Option PV
 |.lst xs,.int i=>fE xs i
 |.tup xs,.int i=>fE xs i
 |.str x,.int i=>(fE x i).map λc=>.str [c]
 |_,_=>ae
theorem E3{H:Hp}{F:af->Prop}{xs:List PV}{a:List V}{i:Int}{x:PV}(r:Reps K H F xs a)(e:fE xs i=aa x):∃v,fE a i=aa v/\aY K H F x v:=by
 unfold fE at e ⊢;rw[r.len];cases q:nJ xs.length i with
 |none=>rw[q]at e;cases e
 |some j=>rw[q]at e;exact r.get e
theorem eV:P2 K (HS K) aR:=λF H x y v u Q pv b f e q=>by
 unfold aR at e;split at e
 .rename_i xs i;obtain⟨a,d,rfl,j,_,g⟩:=b;obtain⟨w,m,l⟩:=E3 g e;exact .inl ⟨a,d,i,w,rfl,f,.inl j,m,q _ F H (Al.refl ..) l⟩
 .rename_i xs i;obtain⟨a,d,rfl,j,g⟩:=b;obtain⟨w,m,l⟩:=E3 g e;exact .inr (.inl ⟨a,d,i,w,rfl,f,cL.of j,m,q _ F H (Al.refl ..) l⟩)
 .rename_i x i;cases h:fE x i with
  |none=>rw[h]at e;cases e
  |some c=>
   rw[h]at e;cases e;rw[b.1];exact .inr (.inr ⟨_,i,c,rfl,f,by rw[kT];exact cX b.2 mz,by rw[jw];exact h,q _ F H (Al.refl ..) ⟨rfl,by show 1<=bj;decide⟩⟩)
 .cases e
def dG{a:Type}(xs:List a)(b c:Option Int):List a:=(xs.drop (HT.sIx xs.length 0 b)).take (HT.sIx xs.length xs.length c-HT.sIx xs.length 0 b)
theorem Ql{a:Type}(xs:List a)(b c:Option Int):(dG xs b c).length<=xs.length:=by unfold dG;rw[lQ,mP];lia
def b7:PV->Option Int->Option Int->Option PV
 |.str x,a,b=>aa (.str (dG x a b))
 |.lst xs,a,b=>aa (.lst (dG xs a b))
 |.tup xs,a,b=>if HT.sIx xs.length 0 a=0/\HT.sIx xs.length xs.length b=xs.length then ae else aa (.tup (dG xs a b))
 |_,_,_=>ae
def x0(K:ay):V->Option Int->Option Int->Hp->VK->Prop:=λx a b H Q=>GP x a b H Q\/(Gg K x a b H Q\/Hy K x a b H Q)
theorem ij:lD X (x0 X.K):=Vo.or (Vs.or NY)
theorem Fp{H:Hp}{F:af->Prop}{xs:List PV}{a:List V}(r:Reps K H F xs a)(b c:Option Int):Reps K H F (dG xs b c) (oU a b c):=by unfold dG oU;rw[r.len];exact(r.drop _).take _
theorem gU:Bm K (x0 K) b7:=λF H x h i v Q pv b e q=>by
 unfold b7 at e;split at e
 .cases e;rw[b.1];refine .inl ⟨_,rfl,by rw[kT];exact cX b.2 mz,?_⟩;refine q _ F H (Al.refl ..) ⟨?_,cX (Ql ..) b.2⟩;unfold mw dG;rw[kT,jw];rfl
 .cases e;obtain⟨a,f,rfl,g,_,d⟩:=b;exact .inr (.inl ⟨a,f,rfl,.inl g,λp c=>q _ _ _ (Al.new c) ⟨p,_,rfl,.inl upd_same,.inr rfl,(Al.new c).reps (Fp d h i)⟩⟩)
 .split at e
  .cases e
  .rename_i j;cases e;obtain⟨a,f,rfl,g,d⟩:=b;exact .inr (.inr ⟨a,f,rfl,cL.of g,by rw[d.len];exact j,λp c=>q _ _ _ (Al.new0 c) ⟨p,_,rfl,upd_same,(Al.new0 c).reps (Fp d h i)⟩⟩)
 .cases e
variable{E:XK}{g l a b:aC}{d:ac PV}{m:ac (List PV)}{p f:Pos}
def hZ:PV->Option (List PV)
 |.lst xs=>aa xs
 |.tup xs=>aa xs
 |.str x=>aa (x.map λc=>.str [c])
 |_=>ae
def br(d:ac PV):ac (List PV):=λε=>(d ε).bind λx ε1=>aM (hZ x) ε1
theorem FZ{H:Hp}{F:af->Prop}:∀(x:Tx),Reps K H F (x.map λc=>PV.str [c]) (x.map sg)
 |[]=>rfl
 |c::x=>⟨sg c,x.map sg,rfl,⟨rfl,by show 1<=bj;decide⟩,FZ x⟩
theorem ii(he:DE X E l d):DI X E g l (br d):=λF S ε Z H Rr rl h=>Bx.mk λag s I=>by
 have w:=he F S ε Z H (λv r=>∃B D u x,aS X.K B D u Z r/\aY X.K r B x v/\Ok X.K E Z B D r (aM (hZ x) u) (λpvs _ F' S' H'=>∀J L RR,Reps X.K H' F' pvs L->L.length<=bf->Walk J L RR->(∀S'' F'' Y,bq (U S') (U S'') F' F'' H' Y->RR Y)->Rr J H')) rl
  ((Ok.bind h).imp λx u B D r G g1 q v N=>⟨B,D,u,x,G,N,q⟩)
 refine aW (w.run ag s I) λv c ζ=>?_;obtain⟨x,r,y,rx,B,D,u,pv,G,N,q⟩:=ζ;cases pv with
 |lst xs=>
  obtain⟨a,M,rfl,C,hF,ra⟩:=N;cases rx;obtain⟨O,rr,pp,P⟩:=y.list (.inl C);refine Jw pp.isList ?_;refine⟨c.heap.objs.size,[c.heap.objs.size],_,_,r,rfl,y.kept (t':=c.toks) λb o e=>bw _ e,PY a _,⟨_,cz _ rfl,rfl,rfl⟩,λb T=>?_,q B D r G (bq.refl ..) (AA X.K a) M (λH=>b_ X.K H a M) ra P Qg λS2 F2 H2 g2=>.inl (g2.lst G.fit hF C)⟩;have e:b=c.heap.objs.size:=by simpa using T
  subst e;exact y.fpOk (aZ _) (y.hok.fresh (aZ _))
 |tup xs=>
  obtain⟨a,M,rfl,C,ra⟩:=N;cases rx;obtain⟨O,rr,pp,P⟩:=y.tuple (cL.of C);refine Dg (show c.heap.IsTuple a O.toArray from pp) ?_;refine⟨c.heap.objs.size,[c.heap.objs.size],_,_,r,rfl,y.kept (t':=c.toks) λb o e=>bw _ e,SO a _,⟨_,cz _ rfl,rfl,rfl⟩,λb T=>?_,q B D r G (bq.refl ..) (BI X.K a) M (λH=>cL X.K H a M) ra P Lg λS2 F2 H2 g2=>cL.of (g2.imm G.fit C id)⟩;have e:b=c.heap.objs.size:=by simpa using T
  subst e;exact y.fpOk (aZ _) (y.hok.fresh (aZ _))
 |str z=>
  obtain⟨rfl,P⟩:=N;obtain⟨t,rfl⟩:=rx;have qq:Rr (vJ (tS z)) r:=q B D r G (bq.refl ..) (vJ (tS z)) (z.map sg) (λ_=>True) (FZ z) (by rw[cN];exact cX P mz) (by have:=Q1 (z:=tS z);rw[jw]at this;exact this) λ_ _ _ _=>trivial;have W:∀(n:String) (j:Nat->aB->Prop),(∀i h,j i h->∃o n L,h.get? c.heap.objs.size=aa o/\o.cls=.type n/\o.data=.fields L /\ ["enumerate","zip","dict_itemiterator","dict_reverseitemiterator","odict_iterator","itertools.zip_longest","itertools.pairwise"].contains n=aj) ->
    (∀(A:aT) (i:Nat) (s:am) (Q:ai->am->Prop) (E:ai->am->Prop),j i s.heap->Q (.ref c.heap.objs.size) s->ar (au X.prog X.w) A (n8 (.ref c.heap.objs.size)) Q E s) ->
    (∀A:aT,A.handled=ae->Walks X.prog X.w A c.heap.objs.size [c.heap.objs.size] [c.heap.objs.size] (tS z).cps.size (SignAt (tS z)) j) ->
    j 0 (c.heap.push {cls:=.type n,data:=.fields #[.str (tS z) t,.int 0 0]}) ->
    xz X ag Z g Rr (.ref c.heap.objs.size) {c with heap:=c.heap.push {cls:=.type n,data:=.fields #[.str (tS z) t,.int 0 0]}}:=λn j q h2 h3 h4=>by
   refine⟨c.heap.objs.size,[c.heap.objs.size],j,vJ (tS z),r,rfl,y.kept (t':=c.toks) λb o e=>bw _ e,Sq q h2 h3,h4,λb T=>?_,qq⟩;have e:b=c.heap.objs.size:=by simpa using T
   subst e;exact y.fpOk (aZ _) (y.hok.fresh (aZ _))
  cases C:(tS z).cps.all (· < 128)
  .refine wpAny_pyIter_wide C (W "str_iterator" (λi h=>h.IsStrIter c.heap.objs.size "str_iterator" (tS z) t i) (λi h ⟨o,e1,e2,e3⟩=>⟨o,_,_,e1,e2,e3,by decide⟩) (λA i s Q E st h=>wpAny_pyIter_striter_wide st h) (λA' hA=>Walks.strWide hA _ (tS z) t) ⟨_,cz _ rfl,rfl,rfl⟩)
  .refine wpAny_pyIter_ascii C (W "str_ascii_iterator" (λi h=>h.IsStrIter c.heap.objs.size "str_ascii_iterator" (tS z) t i) (λi h ⟨o,e1,e2,e3⟩=>⟨o,_,_,e1,e2,e3,by decide⟩) (λA i s Q E st h=>wpAny_pyIter_striter_ascii st h) (λA' hA=>Walks.strAscii hA _ (tS z) t) ⟨_,cz _ rfl,rfl,rfl⟩)
 |non=>exact(show False from q).elim
 |bl _=>exact(show False from q).elim
 |int _=>exact(show False from q).elim
 |raw _=>exact(show False from q).elim
 |exc _=>exact(show False from q).elim
def gy(c:Int)(n:Nat):List PV:=(cr n).map λi=>PV.int (c+(i:Nat))
theorem Me{H:Hp}{F:af->Prop}(c:Int)(n:Nat):Reps K H F (gy c n) (sG c n):=by
 unfold gy sG
 induction (cr n)with
 |nil=>rfl
 |cons x xs h=>exact⟨_,_,rfl,rfl,h⟩
def iK:List PV->Option (List PV)
 |[.int j]=>if j<=1000000/\-1000000<=j then aa (gy 0 j.toNat)else ae
 |_=>ae
theorem uP(x:X.mg "range"=ae)(z:DA X E [a] m)(y:Gl X "range":=by rfl)(w:aU [a] X.env=[(aj,aX a X.env)]:=by rfl):DI X E g (.Call (.Name "range" p) [a] [] f) (dL iK m):=λF S o i H J r h=>by
 refine NE (Ut y x gS w) (z F S o i H _ r ((Ok.bind h).imp λxs n C A B s I c D u=>?_));unfold iK at c;split at c
 .rename_i j;split at c
  .rename_i G;obtain⟨v,rfl,q⟩:=fU u;refine⟨j,by rw[show v=V.int j from q],∅,∅,c C A B s (bq.refl ..) _ _ _ (Me 0 j.toNat) (by rw[AK,lO];lia) Od λ_ _ _ _=>trivial⟩
  .exact c.elim
 .exact c.elim
end
section
variable{K:ay}{F:af->Prop}{S:Nat->af->Prop}{f:ak}{l:St}{H:Hp}{i:Nat}{p m:List PV}{d:List V}{a:af}
theorem aS.lstAt(r:aS K F S f l H)(e:f[i]?=aa (.own (.lst p))):∃a c,l[i]?=aa (aa (.ref a))/\H a=aa (.lst c)/\Reps K H F p c/\S i a/\∀b,S i b->b=a:=by obtain⟨a,o,⟨c,n,j⟩,g⟩:=r.own i _ e;exact⟨a,c,o,n,j,(g a).mpr rfl,λb h=>(g b).mp h⟩
theorem aS.upd(r:aS K F S f l H)(e:f[i]?=aa (.own (.lst p)))(E:l[i]?=aa (aa (.ref a)))(h:Reps K H F m d):aS K F S (f.set i (.own (.lst m))) l (upd H a (.lst d))/\bq (U S) (U S) F F H (upd H a (.lst d)):=by
 obtain⟨O,L,G,N,M,y,C⟩:=r.lstAt e;rw[E]at G;cases G;have B:i<f.length:=(c_.mp e).1;have g:bq (U S) (U S) F F H (L2.upd H a (.lst d)):=⟨λ_ z=>z,λb o q n=>by rw[bh (by rintro rfl;exact n ⟨i,y⟩)];exact q,λb o q=>by
  by_cases D:b=a
  .subst D;exact⟨_,upd_same⟩
  .exact⟨o,by rw[bh D];exact q⟩,λ_ z=>.inl z,λ_ z=>.inl z⟩
 refine⟨⟨by rw[jk];exact r.len,λb z=>let ⟨o,q⟩:=r.ex b z;g.there b o q,λj pv q=>?_,λj A q=>?_,λj b z=>?_,r.dist⟩,g⟩
 .have s:i≠j:=by rintro rfl;rw[fZ B]at q;cases q
  rw[eK s]at q;obtain⟨v,x,u⟩:=r.val j pv q;exact⟨v,x,u.grow g r.fit⟩
 .by_cases s:i=j
  .subst s;rw[fZ B]at q;cases q;exact⟨a,E,⟨d,upd_same,h.grow g r.fit⟩,λb=>⟨C b,λz=>by rw[z];exact y⟩⟩
  .rw[eK s]at q;obtain⟨c,x,u⟩:=r.own j A q;refine⟨c,x,u.mono (λ_ _ z=>z.grow g r.fit) (λ_ _ z=>z.grow g r.fit) λb o z w=>?_⟩;rw[bh (by rintro rfl;exact s (r.dist i j b y z))];exact w
 .obtain⟨⟨A,x⟩,u,o,J,I⟩:=r.foot j b z;by_cases s:i=j
  .subst s;rw[C b z];exact⟨⟨_,fZ B⟩,by rw[<-C b z];exact u,_,upd_same,trivial⟩
  .exact⟨⟨A,by rw[eK s];exact x⟩,u,o,by rw[bh (by rintro rfl;exact s (r.dist i j b y z))];exact J,I⟩
end
section
variable{X:Cx}{E:XK}{pin:List Nat}{e b:aC}{de f:ac PV}{d:Pos}
def fR(a:ak)(i:Nat):Option (List PV):=match a[i]? with
 |some (.own (.lst xs))=>aa xs
 |_=>ae
theorem lH{a:ak}{i:Nat}{xs:List PV}(h:fR a i=aa xs):a[i]?=aa (.own (.lst xs)):=by
 unfold fR at h;split at h
 .cases h;assumption
 .cases h
def kZ(i:Nat)(de:ac PV):ac aK:=λa=>(aM (fR a i) a).bind λ_ a=>(de a).bind λy ε1=>(aM (fR ε1 i) ε1).bind λxs ε1=>if xs.length<bj then .ok .next (ε1.set i (.own (.lst (xs++[y]))))else .no
theorem ym(i:Nat){x:Str}{p g c:Pos}(O:DE X E e de)(T:X.N[i]?=aa x:=by rfl)(L:fh X.env.scope x:=by first|exact Or.inl rfl|exact Or.inr (Or.inl rfl)|exact Or.inr (Or.inr rfl))(P:ad x:=by decide)(bA:(x==("__classdict__":Str))=aj:=by decide) (h1:kr (.Name x p) "append" X.env (aX (.Name x p) X.env)=aX (.Name x p) X.env:=by rfl)(Z:((c7 c (aU [e] X.env)).all (λx=>!x.1)&&(pi c (pq [] X.env)).all (λx=>x.1.isSome)&&decide ([e].length+([]:List jD).length+(if([]:List jD).isEmpty then 0 else 1)<30))=ah:=by rfl)(Y:(g.endLine == c.line)=ah:=by rfl) (A:aU [e] X.env=(aj,aX e X.env)::aU [] X.env:=by rfl) (W:(c7 c (aU [] X.env)).any (·.1)=aj:=by rfl)(M:lj (.Call (.Attribute (.Name x p) "append" g) [e] [] c) ae d.line X.env=pure aj:=by rfl):DS X E pin (.Expr (.Call (.Attribute (.Name x p) "append" g) [e] [] c) d) (kZ i de):=λF S s r H D u h=>by
 unfold kZ at h;cases o:fR s i with
 |none=>rw[o]at h;exact h.elim
 |some B=>
  rw[o]at h;simp only[cJ,R.bind_ok]at h;obtain⟨a,C,n,Q,_,_,_⟩:=u.lstAt (lH o);refine iM (Bv (vD Dj PySem.F.slot_list_append PySem.F.type_list_append G2 (gC T L P bA) (i9 bQ ka A) h1 Z Y A W) M) ⟨.ref a,n,.inl ⟨rfl,_,b_.of Q⟩,?_⟩;refine O F S s r H _ u (h.bindE.imp λy m F1 S1 H1 z g1 q v I=>?_);cases l:fR m i with
  |none=>rw[l]at q;exact q.elim
  |some xs=>
   rw[l]at q;simp only[cJ,R.bind_ok]at q;obtain⟨a',G,j,J,w,_,_⟩:=z.lstAt (lH l);rw[n]at j;cases j;split at q
   .rename_i N;obtain⟨K,g2⟩:=z.upd (lH l) n (w.app (.one I));exact⟨a,G,v,rfl,rfl,J,by rw[w.len];exact gE N mz,q F1 S1 r _ K g2 (jn.refl _ _)⟩
   .exact q.elim
def PN:V->List V->Hp->VK->Prop:=λx c H Q=>∃l b xs a,x=.ref l/\c=[.ref b]/\H l=aa (.lst xs)/\Rd H b (.lst a)/\xs.length+a.length<=bf/\Q .non (L2.upd H l (.lst (xs++a)))
theorem Qw:zk X "list.extend" PN:=by
 intro N s C H x G v J Q I m o h;obtain⟨l,b,xs,D,rfl,rfl,j,y,K,q⟩:=h;cases m;obtain⟨u,rfl,p⟩:=o.one;cases p;obtain⟨z,c,n,r,L,e⟩:=I.lstM j;obtain⟨a,w,i,A,_⟩:=BV I y;have M:=i.length;have g:c.toArray.size+a.toArray.size<=bf:=by rw[cM,cM];lia
 have B:¬(!c.toArray.isEmpty&&zw (c.toArray.size+a.toArray.size))=ah:=by rw[Sd g,C3];exact eX
 refine rh F.slot_list_extend ⟨_,e,rfl⟩ F.entry_list_extend (F.args_list_extend_2 _ _)
  (AutoSeq1.list_extend_list_list_0 l c.toArray n b a.toArray w B (by rw[cM];lia) ∅) ⟨e,A,?_⟩
 refine⟨.non,_,I.lset (its':=c++a) j e (by simp) (r.append i) ?_,rfl,q⟩;rw[fz];lia
def yz(i:Nat)(de:ac PV):ac aK:=λc=>(aM (fR c i) c).bind λ_ c=>(de c).bind λy a=>(aM (fR a i) a).bind λxs a=>match y with
 |.lst g=>if xs.length+g.length<=bj then .ok .next (a.set i (.own (.lst (xs++g))))else .no
 |_=>.no
theorem Gm(i:Nat){x:Str}{p j g:Pos}(T:DE X E e de)(hN:X.N[i]?=aa x:=by rfl)(O:fh X.env.scope x:=by first|exact Or.inl rfl|exact Or.inr (Or.inl rfl)|exact Or.inr (Or.inr rfl))(W:ad x:=by decide)(bA:(x==("__classdict__":Str))=aj:=by decide) (h1:kr (.Name x p) "extend" X.env (aX (.Name x p) X.env)=aX (.Name x p) X.env:=by rfl)(h2:((c7 g (aU [e] X.env)).all (λx=>!x.1)&&(pi g (pq [] X.env)).all (λx=>x.1.isSome)&&decide ([e].length+([]:List jD).length+(if([]:List jD).isEmpty then 0 else 1)<30))=ah:=by rfl)(h3:(j.endLine == g.line)=ah:=by rfl) (C:aU [e] X.env=(aj,aX e X.env)::aU [] X.env:=by rfl) (h5:(c7 g (aU [] X.env)).any (·.1)=aj:=by rfl)(P:lj (.Call (.Attribute (.Name x p) "extend" j) [e] [] g) ae d.line X.env=pure aj:=by rfl):DS X E pin (.Expr (.Call (.Attribute (.Name x p) "extend" j) [e] [] g) d) (yz i de):=λF S u s H D w h=>by
 unfold yz at h;cases r:fR u i with
 |none=>rw[r]at h;exact h.elim
 |some G=>
  rw[r]at h;simp only[cJ,R.bind_ok]at h;obtain⟨a,I,o,Z,_,_,_⟩:=w.lstAt (lH r);refine iM (Bv (vD Dj PySem.F.slot_list_extend PySem.F.type_list_extend Qw (gC hN O W bA) (i9 bQ ka C) h1 h2 h3 C h5) P) ⟨.ref a,o,.inl ⟨rfl,_,b_.of Z⟩,?_⟩;refine T F S u s H _ w (h.bindE.imp λy n F1 S1 H1 B g1 q v L=>?_);cases m:fR n i with
  |none=>rw[m]at q;exact q.elim
  |some xs=>
   rw[m]at q;simp only[cJ,R.bind_ok]at q;obtain⟨a',J,l,M,A,_,_⟩:=B.lstAt (lH m);rw[o]at l;cases l;split at q
   .rename_i ys;split at q
    .rename_i Q;obtain⟨c,K,rfl,Y,_,z⟩:=L;obtain⟨N,g2⟩:=B.upd (lH m) o (A.app z);exact⟨a,c,J,K,rfl,rfl,M,Y,by rw[A.len,z.len];exact cX Q mz,q F1 S1 s _ N g2 (jn.refl _ _)⟩
    .exact q.elim
   .exact q.elim
end
mutual
def imm:PV->Bool
 |.lst _=>aj
 |.tup xs=>sD xs
 |_=>ah
def sD:List PV->Bool
 |[]=>ah
 |x::xs=>imm x&&sD xs
end
mutual
theorem aY.imm{K:ay}{H:Hp}{F g:af->Prop}:∀(x:PV) {v:V},imm x=ah->aY K H F x v->aY K H g x v
 |.non,_,_,h=>h
 |.bl _,_,_,h=>h
 |.int _,_,_,h=>h
 |.str _,_,_,h=>h
 |.raw _,_,_,h=>h
 |.exc _,_,_,h=>h
 |.lst _,_,e,_=>by simp[Pu.imm]at e
 |.tup xs,_,e,⟨a,b,f,d,c⟩=>⟨a,b,f,d,Reps.imm xs (by simpa[Pu.imm]using e) c⟩
theorem Reps.imm{K:ay}{H:Hp}{F g:af->Prop}:∀(xs:List PV) {a:List V},sD xs=ah->Reps K H F xs a->Reps K H g xs a
 |[],_,_,h=>h
 |x::xs,_,e,⟨v,r,f,d,c⟩=>by
  have b:imm x=ah/\sD xs=ah:=by simpa[sD]using e
  exact⟨v,r,f,aY.imm x b.1 d,Reps.imm xs b.2 c⟩
end
section
variable{K:ay}{F:af->Prop}{S:Nat->af->Prop}{d:ak}{c:St}{H:Hp}{i:Nat}{f:List PV}
theorem aS.look(r:aS K F S d c H)(e:d[i]?=aa (.own (.lst f))):∃a,c[i]?=aa (aa (.ref a))/\¬F a/\aY K H (λb=>F b\/b=a) (.lst f) (.ref a)/\(∀b,F b\/b=a->∃o,H b=aa o) /\ (∀{h g},Al (λb=>F b\/b=a) h H g->Al F (λb=>h b/\b≠a) H g):=by
 obtain⟨a,m,q,l,p,n,s⟩:=r.lstAt e;have j:¬F a:=(r.foot i a n).2.1;refine⟨a,q,j,⟨a,m,rfl,.inl l,.inr rfl,Reps.mono (λ_ z=>.inl z) (λ_ _ _ z=>z) (λ_ _ z _=>z) _ _ p⟩,λb z=>z.elim (r.ex b) λz=>by rw[z];exact⟨_,l⟩,λ{h g} al=>⟨λb z=>⟨al.fro b (.inl z),by rintro rfl;exact j z⟩,al.same,λb z=>?_⟩⟩;rcases al.fnew b z.1 with(w|w)|w
 .exact .inl w
 .exact absurd w z.2
 .exact .inr w
end
section
variable{X:Cx}{E:XK}{e b:aC}{de j:ac PV}{c p:Pos}{x y:Str}{d T:String}{r:List V->Hp->VK->Prop}{f:List PV->Option PV}{g:List PV->Option PO}
def uT(o:Option PV):Option PV:=o.bind λv=>if imm v then aa v else ae
theorem KS{o:Option PV}{v:PV}(h:uT o=aa v):o=aa v/\imm v=ah:=by
 cases o with
 |none=>cases h
 |some w=>
  have h:(if imm w then aa w else ae)=aa v:=h;split at h
  .cases h;exact⟨rfl,by assumption⟩
  .cases h
def Sj:PO->Bool
 |.lst xs=>sD xs
 |_=>aj
def sX{h:Type}(f:List PV->Option h)(i:Nat):ac h:=λa=>(aM (fR a i) a).bind λxs a=>aM (f [.lst xs]) a
theorem Ur{F:af->Prop}{S:Nat->af->Prop}{n:ak}{m:St}{H:Hp}{Q:VK}{i:Nat}(C:PL X.K r f)(u:aS X.K F S n m H)(h:Ok X.K E m F S H (sX (λxs=>uT (f xs)) i n) (λpv _ A _ l=>∀v,aY X.K l A pv v->Q v l)):∃a,m[i]?=aa (aa (.ref a))/\r [.ref a] H Q:=by
 unfold sX at h;cases s:fR n i with
 |none=>rw[s]at h;exact h.elim
 |some xs=>
  rw[s]at h;simp only[cJ,R.bind_ok]at h;obtain⟨a,G,K,B,D,z⟩:=u.look (lH s);refine⟨a,G,?_⟩;cases q:uT (f [.lst xs])with
  |none=>rw[q]at h;exact h.elim
  |some pv=>rw[q]at h;obtain⟨J,I⟩:=KS q;exact C _ H [.lst xs] [.ref a] Q pv (.one B) J λw A l al o=>h _ S l (u.al (z al)) (z al).grow w (aY.imm pv I o)
theorem Rq(i:Nat)(B:d4 X (.builtin d) r)(u:PL X.K r f)(w:X.mg x=ae)(o:fk x=aa (.builtin d))(C:X.N[i]?=aa y:=by rfl)(D:fh X.env.scope y:=by first|exact Or.inl rfl|exact Or.inr (Or.inl rfl)|exact Or.inr (Or.inr rfl))(A:ad y:=by decide) (J:(y==("__classdict__":Str))=aj:=by decide) (z:Gl X x:=by rfl) (v:x≠"__name__":=by decide) (n:ad x:=by decide) {h:Pos}(l:aU [.Name y h] X.env=(aj,aX (.Name y h) X.env)::aU [] X.env:=by rfl) (I:(c7 c (aU [] X.env)).any (·.1)=aj:=by rfl):DE X E (.Call (.Name x p) [.Name y h] [] c) (sX (λxs=>uT (f xs)) i):=λF S L K H Q m q=>by obtain⟨a,G,s⟩:=Ur u m q;exact b9 (nY B z w o (i9 (gC C D A J) ka l) v n l I) ⟨_,G,s⟩
def HD(o:Option PO):Option PO:=o.bind λv=>if Sj v then aa v else ae
end
open L2
def lF(h:aB)(e T:af)(c g:ai):Prop:=∃a b f d,h.get? e=aa a/\a.cls=c/\(a.data=.fields b/\a.dict=ae)/\b[1]?=aa (.ref T)/\T≠e/\h.get? T=aa f/\f.data=.fields d/\d[3]?=aa g
def Made(h:aB)(e:af)(c:ai):Prop:=∃a b,h.get? e=aa a/\a.cls=c/\(a.data=.fields b/\a.dict=ae)/\b[1]?=aa .none
structure Kp(fs:List af)(X:af->Prop)(h h':aB):Prop where
 keep:∀b o,h.get? b=aa o->b∉fs->¬X b->h'.get? b=aa o
 slot:∀b o,h.get? b=aa o->b∈fs->¬X b->∃sl,h'.get? b=aa {o with slots:=sl}
 there:∀b o,h.get? b=aa o->∃o',h'.get? b=aa o'
theorem Kp.trans{fs:List af}{X Y:af->Prop}{h g f:aB}(a:Kp fs X h g)(b:Kp fs Y g f):Kp fs (λc=>X c\/Y c) h f where
 keep:=λc o e n x=>b.keep c o (a.keep c o e n λz=>x (.inl z)) n λz=>x (.inr z)
 slot:=λc o e n x=>by obtain⟨j,e1⟩:=a.slot c o e n λz=>x (.inl z);obtain⟨d,i⟩:=b.slot c _ e1 n λz=>x (.inr z);exact⟨d,i⟩
 there:=λc o e=>let ⟨o',e'⟩:=a.there c o e;b.there c o' e'
theorem Kp.imp{fs d:List af}{X Y:af->Prop}{h j:aB}(a:Kp fs X h j)(f:∀b,b∈fs->b∈d)(g:∀b o,h.get? b=aa o->X b->Y b):Kp d Y h j where
 keep:=λc o e n x=>a.keep c o e (λz=>n (f c z)) λz=>x (g c o e z)
 slot:=λc o e n x=>by
  by_cases i:c∈fs
  .exact a.slot c o e i λz=>x (g c o e z)
  .exact⟨o.slots,a.keep c o e i λz=>x (g c o e z)⟩
 there:=a.there
theorem N4(f:Array ai->Array ai)(o:Obj):(lY f o).dict=o.dict:=by
 obtain⟨c,d,dt,a⟩:=o;cases dt <;> rfl
section
variable{M:Model}{A:aT}{E:ai->am->Prop}{s:am}
theorem FS{z:aB}{l:Env}{g:List Env}{L e:af}{w:Obj}{G:Array ai}{F:ai}{U5:Bool}{Q:Unit->am->Prop}(m_:A.frames=aa (l::g)) (P:s.heap.FunFrames z (l::g)) (hf:l.frame=aa L) (S:s.heap.get? e=aa w) (I:w.data=.fields G) (Z:w.dict=ae) (v:1<G.size)(h:∀K T,Kp (fF (l::g)) (λb=>b=e) s.heap K->lF K e T w.cls .none->s.heap.objs.size<=T->Q () {s with heap:=K}):ar M A (do let a <-frameOf l;let r <-entryPlaceOf L U5;let b <-EntryCells.newEntry F a .none (dY L) .none r;lV (.ref e) 1 b) (λ_ Y=>ar M A (zK (.ref e) ae) Q E Y) E s:=by
 have y:e∉(l::g).filterMap (·.frame):=λhm=>by obtain⟨_,o,D,X⟩:=P.mem hm;rw[S]at D;injection D with D;subst D;exact X G I
 refine aq (wpAny_frameOf_fun m_ P hf λc d=>?_);refine aq (wpAny_entryPlaceOf λr W=>?_);unfold EntryCells.newEntry newFields;refine aq (lq ?_ (W.sizeOk5 _ _ _ _ _));have n:c.get? e=aa w:=(d.2.1 e y).trans S;have m:=bw (h:=c) {cls:=.type "traceback",dict:=ae,data:=.fields ([F,.ref L,.none,dY L,.none]++(if r.isEmpty then bE 6 Value.none else r)).toArray} n;refine pF m I v ?_;have B:c.objs.size≠e:=tE (bC n);have j:=rn I (·.setIfInBounds 1 (Value.ref c.objs.size));have i:=pC (lY (·.setIfInBounds 1 (Value.ref c.objs.size))) m (zL j);have p:=(rg (c.push {cls:=.type "traceback",dict:=ae,data:=.fields ([F,.ref L,.none,dY L,.none]++(if r.isEmpty then bE 6 Value.none else r)).toArray}) (lY (·.setIfInBounds 1 (Value.ref c.objs.size))) (dW B)).trans (cz c rfl);unfold zK;refine aq (re i j (x:=.ref c.objs.size) (by simp[v]) ?_);rw[if_pos (show(Value.ref c.objs.size != Value.none)=ah from by simp)];refine pF p rfl (by simp only[cM,fz,cE,mT] <;> lia) (h _ c.objs.size ?_ ?_ ?_)
 .have keep:∀b o,b≠e->c.get? b=aa o ->
    (((c.push {cls:=.type "traceback",dict:=ae,data:=.fields ([F,.ref L,.none,dY L,.none]++(if r.isEmpty then bE 6 Value.none else r)).toArray}).update e (lY (·.setIfInBounds 1 (Value.ref c.objs.size)))).update c.objs.size (lY (·.setIfInBounds 3 ((ae:Option af).elim Value.none λf=>dY f)))).get? b=aa o:=λb o C u=>by
   have J:c.objs.size≠b:=tE (bC u);rw[rg _ _ J,rg _ _ (dW C)];exact bw _ u
  refine⟨λb o u O H=>keep b o H ((d.2.1 b O).trans u),λb o u O H=>?_,λb o u=>?_⟩
  .obtain⟨N,q⟩:=d.2.2 b o u;exact⟨N,keep b _ H q⟩
  .by_cases C:b=e
   .subst C;exact⟨_,(rg _ _ B).trans i⟩
   .obtain⟨N,q⟩:=d.2.2 b o u;exact⟨_,keep b _ C q⟩
 .refine⟨_,_,_,_,(rg _ _ B).trans i,Obj.cls_mapFields _ _,⟨j,by rw[N4];exact Z⟩,by simp[v],B,pC _ p (zL (rn rfl _)),rn rfl _,by first | (simp;done) | (rcases W with rfl|⟨_,_,_,_,_,_,_,rfl⟩ <;> simp)⟩
 .exact oh d.1.symm
theorem Q5{f:aB}{d:Env}{a:List Env}{L e:af}{c:ai}{Q:Unit->am->Prop}(o:A.frames=aa (d::a))(q:s.heap.FunFrames f (d::a))(i:d.frame=aa L)(p:Made s.heap e c)(h:∀g T,Kp (fF (d::a)) (λb=>b=e) s.heap g->lF g e T c .none->s.heap.objs.size<=T->Q () {s with heap:=g}):ar M A (leaving d (.ref e)) Q E s:=by obtain⟨v,u,j,r,⟨l,n⟩,m⟩:=p;subst r;unfold leaving noteFrame;simp only[i];refine aq (aq (re j l m ?_));rw[if_neg (by decide)];exact FS o q i j l n (mV.mp m).1 h
theorem Hd{l:aB}{g:Env}{outer:List Env}{L e T:af}{c:ai}{Q:Unit->am->Prop}(H:A.frames=aa (g::outer))(N:s.heap.FunFrames l (g::outer))(u:g.frame=aa L)(J:lF s.heap e T c .none)(h:∀j T',Kp (fF (g::outer)) (λb=>b=e\/b=T) s.heap j->lF j e T' c .none->s.heap.objs.size<=T'->Q () {s with heap:=j}):ar M A (noteFrame (.ref e) g) (λ_ C=>ar M A (zK (.ref e) ae) Q E C) E s:=by
 obtain⟨S,r,W,B,v,F,⟨w,D⟩,y,G,n,m,x⟩:=J;subst F;unfold noteFrame;simp only[u];refine aq (re v w y ?_);rw[if_pos (show(Value.ref T != Value.none)=ah from by simp)];refine aq (re n m x ?_);rw[if_neg (show ¬((Value.none == dY L)=ah)from by simp[dY])];refine aq (pF n m (mV.mp x).1 ?_);have a:∀b,b≠T->(s.heap.update T (lY (·.setIfInBounds 3 Value.none))).get? b=s.heap.get? b:=λb d=>rg _ _ (dW d);have f:∀b o,s.heap.get? b=aa o->(∀r,o.data≠.fields r)->b≠T:=λb o d p q=>by rw[q,n]at d;injection d with d;subst d;exact p B m
 refine FS H (N.of_keeps λb o d p=>⟨o,(a b (f b o d p)).trans d,rfl⟩) u ((a e (dW G)).trans v) w D (mV.mp y).1 λj T' k O K=>?_;have I:Kp (fF (g::outer)) (λb=>b=T) s.heap (s.heap.update T (lY (·.setIfInBounds 3 Value.none))):=by
  refine⟨λb o d _ i=>(a b i).trans d,λb o d _ i=>⟨o.slots,(a b i).trans d⟩,λb o d=>?_⟩;by_cases i:b=T
  .subst i;exact⟨_,pC _ n (zL (rn m _))⟩
  .exact⟨o,(a b i).trans d⟩
 refine h j T' ((I.trans k).imp (λ_ z=>z) λb o _ z=>z.symm) O ?_;have P:(s.heap.update T (lY (·.setIfInBounds 3 Value.none))).objs.size<=T':=K;rwa[JL]at P
theorem Tg{f:aB}{d:Env}{a:List Env}{L e T:af}{c:ai}{Q:Unit->am->Prop}(j:A.frames=aa (d::a))(m:s.heap.FunFrames f (d::a))(n:d.frame=aa L)(l:lF s.heap e T c .none)(h:∀g i,Kp (fF (d::a)) (λb=>b=e\/b=T) s.heap g->lF g e i c .none->s.heap.objs.size<=i->Q () {s with heap:=g}):ar M A (leaving d (.ref e)) Q E s:=by unfold leaving;exact aq (Hd j m n l h)
theorem SM{e T:af}{c D:ai}{Q:Unit->am->Prop}(B:lF s.heap e T c D)(h:∀l,Kp [] (λb=>b=T) s.heap l->lF l e T c .none->Q () {s with heap:=l}):ar M A (zK (.ref e) ae) Q E s:=by
 obtain⟨y,v,F,w,n,z,⟨p,x⟩,r,m,q,j,C⟩:=B;have u:3<w.size:=(mV.mp C).1;have a:∀b,b≠T->(s.heap.update T (lY (·.setIfInBounds 3 ((ae:Option af).elim Value.none λf=>dY f)))).get? b=s.heap.get? b:=λb g=>rg _ _ (dW g);have d:=pC (lY (·.setIfInBounds 3 ((ae:Option af).elim Value.none λf=>dY f))) q (zL (rn j _));unfold zK;refine aq (re n p r ?_);rw[if_pos (show(Value.ref T != Value.none)=ah from by simp)];refine pF q j u (h _ ⟨λb o g _ i=>(a b i).trans g,λb o g _ i=>⟨o.slots,(a b i).trans g⟩,λb o g=>?_⟩ ⟨y,v,_,_,(a e (dW m)).trans n,z,⟨p,x⟩,r,m,d,rn j _,by simp[u]⟩);by_cases i:b=T
 .subst i;exact⟨_,d⟩
 .exact⟨o,(a b i).trans g⟩
end
def cf(P:aN)(w:aG):gA:=λb H s E e s'=>∃(a T:af) (c:ai) (d:Hp),e=.ref a/\s'.os=s.os/\n5 s'.gens/\Un (fF b) [] H d s.heap s'.heap/\df P w d s'.heap/\lF s'.heap a T c .none /\
 (s.heap.get? a=ae/\s.heap.get? T=ae/\d a=ae/\d T=ae)/\E c ae d
theorem KF{P:aN}{w:aG}{H:Hp}{h:aB}{a:af}{o:HO}(x:bR P w H h a o):∃u,h.get? a=aa u:=by
 cases o with
 |lst xs=>obtain⟨_,_,_,_,e⟩:=x;exact⟨_,e⟩
 |tup xs=>obtain⟨_,_,_,⟨o,e,_⟩,_⟩:=x;exact⟨_,e⟩
 |dK b=>obtain⟨_,_,_,_,o,_,_,e,_⟩:=x;exact⟨_,e⟩
 |dT b=>obtain⟨_,_,_,_,o,_,_,e,_⟩:=x;exact⟨_,e⟩
 |dN b=>obtain⟨_,_,_,_,o,_,_,e,_⟩:=x;exact⟨_,e⟩
 |set S n=>obtain⟨o,_,_,_,e,_⟩:=x;exact⟨_,e⟩
 |ins C l fs=>obtain⟨_,_,_,e,_⟩:=x;exact⟨_,e⟩
 |own y=>exact x
 |xd fs=>obtain⟨_,⟨_,_,_,e,_⟩,_⟩:=x;exact⟨_,e⟩
 |rng i j=>obtain⟨_,_,_,e⟩:=x;exact⟨_,e⟩
 |frz g u=>obtain⟨e,_⟩:=x;exact⟨_,e⟩
 |tbl d=>obtain⟨_,e,_⟩:=x;exact⟨_,e⟩
 |met f y=>exact⟨_,x⟩
 |ext c=>obtain⟨_,e,_⟩:=x;exact e
theorem Nh{P:aN}{w:aG}{H:Hp}{h:aB}{a:af}(x:df P w H h)(e:h.get? a=ae):H a=ae:=by
 cases q:H a with
 |none=>rfl
 |some u=>obtain⟨o,z⟩:=KF (x a u q);rw[e]at z;cases z
theorem tm{fs:List af}{H c:Hp}{h b:aB}{a:af}(u:Un fs [] H c h b)(e:b.get? a=ae):h.get? a=ae:=by
 cases q:h.get? a with
 |none=>rfl
 |some o=>obtain⟨d,z⟩:=u.there a o q (by simp);rw[e]at z;cases z
theorem B8{fs a:List af}{H p:Hp}{h l j:aB}{X:af->Prop}(u:Un fs [] H p h l)(k:Kp a X l j)(r:∀b o,h.get? b=aa o->b∈a->b∈fs)(g:∀b o,h.get? b=aa o->¬X b):Un fs [] H p h j where
 keep:=λb o e n d c=>k.keep b o (u.keep b o e n d c) (λz=>d (r b o e z)) (g b o e)
 slot:=λb o e n d c=>by
  obtain⟨q,m⟩:=u.slot b o e n d c;by_cases i:b∈a
  .obtain⟨f,s⟩:=k.slot b _ m i (g b o e);exact⟨f,s⟩
  .exact⟨q,k.keep b _ m i (g b o e)⟩
 free:=u.free
 there:=λb o e c=>let ⟨o',e'⟩:=u.there b o e c;k.there b o' e'
 tups:=u.tups
 frzs:=u.frzs
 tbls:=u.tbls
theorem Bh{P:aN}{w:aG}{fs:List af}{H:Hp}{h d:aB}{X:af->Prop}(x:df P w H h)(k:Kp fs X h d)(f:∀b∈fs,H b=ae)(g:∀b,X b->H b=ae):df P w H d:=λb u e=>
 (x b u e).stay (λc v a q=>k.keep c v q (λz=>by
   have:=f c z;rcases a with rfl|a
   .rw[e]at this;cases this
   .rw[a]at this;cases this) λz=>by
   have:=g c z;rcases a with rfl|a
   .rw[e]at this;cases this
   .rw[a]at this;cases this) (λ_ q=>q) λ_ _ q=>q
section
variable{P:aN}{w:aG}{K:ay}{n:Str->Option ai}{l:aB}{N:List Str}{j:Str}{g:d9}{f:af}{p:ai}{A:aT}{i:List Env}{d:am}{m:Hp}{E:XK}
theorem fg:sQ (cf P w) (js (cf P w) P w K n l N j g f p A i d m E) E:=λag Y H s e s' I h=>by
 obtain⟨a,T,c,X,rfl,J,M,un,B,Q,⟨S,W,G,nT⟩,O⟩:=h;have r:=I.call' (s':=s') (ch:=[]) J un B M (λb z=>absurd z (by simp));refine Tg (L:=d.heap.objs.size) I.ok.frames r.stack rfl Q λZ F k C y=>?_;have qx:(js (cf P w) P w K n l N j g f p A i d m E).ex=[]:=rfl;have v:d.heap.get? a=ae:=tm I.base S;have D:d.heap.get? T=ae:=tm I.base W;have x:d.heap.get? F=ae:=tm r.base (CG y);have u:∀b o,d.heap.get? b=aa o->b≠a/\b≠T:=λb o e=>⟨(by rintro rfl;rw[v]at e;cases e),(by rintro rfl;rw[D]at e;cases e)⟩
 refine⟨a,F,c,X,rfl,r.os,r.bare,B8 r.base k (λb o e z=>?_) (λb o e z=>z.elim (u b o e).1 (u b o e).2),Bh r.hok k r.stkFree (λb z=>by rcases z with rfl|rfl <;> assumption),C,⟨v,x,G,r.hok.fresh y⟩,O⟩;rcases bn.mp (I.stkSub b z)with q|q
 .exact absurd (bC e) (by rw[q];exact fj _)
 .exact q
end
section
variable{X:Cx}{E:XK}{pin:List Nat}{e:aC}{de:ac PV}{x:Str}{C:af}{i:List ai}{d f B:String}{l g j:Pos}
def Ej(X:Cx)(E:XK):Prop:=∀(n:List (af×Obj)) (m:St) (H:Hp) (s:am) (a:af) (c:ai) (h:aB),Inv X n m H s->(∀b o,s.heap.get? b=aa o->h.get? b=aa o)->Made h a c->s.heap.get? a=ae->(E c ae H)->X.xe (.ref a) {s with heap:=h}
def qh(c:ai)(de:ac PV):ac aK:=λb=>(de b).bind λ_ a=>.er c a
theorem Qo{h c:aB}{e:af}{a:ai}{b:List ai}(m:Heap.MadeExcOf h c e a b):Made c e a:=by obtain⟨t,n,_,_⟩:=m.there;exact⟨_,_,n,rfl,⟨rfl,rfl⟩,rfl⟩
theorem Bw(hx:Ej X E)(hc:X.calm=ah)(O:OwnCls x C i d X.mg X.base)(Q:ExcBaseFacts B d f i)(he:DE X.nox E0 e de)(hg:Gl X x:=by rfl)(hd:ad x:=by decide)(M:aU [e] X.env=[(aj,aX e X.env)]:=by rfl):DS X E pin (.Raise (aa (.Call (.Name x l) [e] [] g)) ae j) (qh (.ref C) (λw=>cg (de w))):=λF S w n H D Z q=>Bx.mk λP s I=>by
 obtain⟨W,N,nm,qn,bs,hdct,sn,sub,ab,col,dd,k0,k1,k2,k3,k5,mN,hC,hN,J,T⟩:=O.obj;refine wpAny_Raise_call_subT (C:=C) (nm:=nm) (q:=qn) (N:=N) (bs:=bs) (bm:=W) (hdct:=hdct) (sn:=sn) (sub:=sub) (ab:=ab) (col:=col) (dd:=dd) (k0:=k0) (k1:=k1) (k2:=k2) (k3:=k3) (k5:=k5)
  Q (mN:=mN) (T.hasType Q.hasBase) (I.ok.hd hc) (by rw[M];rfl) J (vM I hg O.bound ⟨rfl,?_⟩ hd)
 have q2:Ok X.K E0 n F S H (de w) (λ_ b r o p=>gT X.K E pin n r o p (.er (.ref C) b) D):=by
  have q:gT X.K E pin n F S H ((cg (de w)).bind λ_ b=>.er (.ref C) b) D:=q;cases K:de w with
  |no=>rw[K]at q;exact q.elim
  |er c A=>rw[K]at q;exact q.elim
  |ok v A=>rw[K]at q;exact λF' S' H' r' g'=>q.from g' (jn.refl _ _)
 rw[M];refine Js (eW (CJ (eW ((he F S w n H (λv p=>∃r o b,aS X.K r o b n p/\gT X.K E pin n r o p (.er (.ref C) b) D) Z (q2.imp λv b r o p L g1 h v' rv=>⟨r,o,b,L,h⟩)).run P s (I.wish _)) (λu Y ⟨v,p,y,L,r,o,b,G,ok⟩=>?_) λ_ _ z=>z.elim)) (λ_ _ z=>z) λ_ _ z=>z);have y:=y.unwish;refine Jg ⟨rfl,(by show 1<=bf;decide),y.bk _ _ hC,hN.keeps y.bk,T.keeps y.bk,λh' a m=>?_⟩;exact hx P n p Y a (.ref C) h' y m.keeps (Qo m) m.new (ok ae r o n p G (bq.refl ..) (jn.refl _ _))
end
section
variable{P:aN}{w:aG}{K:ay}{m:Str->Option ai}{j:aB}{N:List Str}{i:Str}{g:d9}{f:af}{n:ai}{A:aT}{h:List Env}{d:am}{l:Hp}{E:XK}
theorem Aw:Ej (js (cf P w) P w K m j N i g f n A h d l E) E:=λM D H s a c B I G F new J=>by
 have p:Inv _ M D H {s with heap:=B}:=I.kept (t':=s.toks) G;refine Q5 (s:={s with heap:=B}) (L:=d.heap.objs.size) I.ok.frames p.stack rfl F λO C k x v=>?_;have r:d.heap.get? a=ae:=tm I.base new;have u:d.heap.get? C=ae:=tm p.base (CG v);have y:H a=ae:=Nh I.hok new;refine⟨a,C,c,H,rfl,p.os,p.bare,B8 p.base k (λb o e z=>?_) (λb o e z=>by rw[show b=a from z,r]at e;cases e),Bh p.hok k p.stkFree (λb z=>by rw[show b=a from z];exact y),x,⟨r,u,y,p.hok.fresh v⟩,J⟩;rcases bn.mp (I.stkSub b z)with q|q
 .exact absurd (bC e) (by rw[q];exact fj _)
 .exact q
end
section
variable{X:Cx}{f:List (af×Obj)}{a:St}{H:Hp}{s:am}
theorem Nz{M:Model}{A:aT}{E:ai->am->Prop}{i:Nat}{x:Str}{v:V}{Q:Unit->am->Prop}(I:Inv X f a H s)(hN:X.N.Nodup)(P:X.N[i]?=aa x)(D:X.env.scope.names.lookup x=aa .local)(L:a[i]?=aa (aa v))(h:∀s',Inv X f (a.set i ae) H s'->Q () s'):ar M A (unbindName X.env x) Q E s:=by
 obtain⟨m,N,O⟩:=id I.loc;have oC:(X.env.scope.kind == .class||(X.env.scope.kind == .module&&X.env.locals != X.env.globals))=aj:=by rw[I.ok.kind];rfl
 have r:i<a.length:=(c_.mp L).1;obtain⟨u,_,lk⟩:=O i x v P L (.inl D);have hm:m x=aa u:=by
  rcases lk with⟨_,z⟩|⟨z,_⟩
  .exact z
  .have z:X.env.scope.names.lookup x=aa .cell\/X.env.scope.names.lookup x=aa .free:=z;rcases z with z|z <;> rw[D]at z <;> cases z
 refine wpAny_unbindName_local D N hm oC λh' u' W l=>?_;obtain⟨oL,_,_,m8,_⟩:=id N;have up:∀b o,X.s₀.heap.get? b=aa o->h'.get? b=s.heap.get? b:=λb o e=>l.2 b (cZ (gE (bC e) I.ok.above));refine h _ ⟨I.ok,I.os,I.bare,⟨λb o e n G g=>(up b o e).trans (I.base.keep b o e n G g),λb o e n G g=>?_,I.base.free,λb o e g=>?_,I.base.tups,I.base.frzs,I.base.tbls⟩,⟨_,W,λj y T S C e3=>?_⟩,λy c e=>?_,I.free,I.freeC,λp hp=>?_,λb ob e=>?_,by rw[jk];exact I.len⟩
 .obtain⟨Y,q⟩:=I.base.slot b o e n G g;exact⟨Y,(up b o e).trans q⟩
 .obtain⟨o',q⟩:=I.base.there b o e g;exact⟨o',(up b o e).trans q⟩
 .by_cases F:j=i
  .subst F;rw[fZ r]at C;cases C
  .rw[eK (dW F)]at C;obtain⟨w,Z,q⟩:=O j y T S C e3;refine⟨w,Z,?_⟩;rcases q with⟨k,e⟩|⟨k,c,e,z⟩
   .have:y≠x:=λe=>F (Av hN S (e ▸ P));exact .inl ⟨k,by simp[this,e]⟩
   .exact .inr ⟨k,c,e,z.sameBut l (I.cne y c e)⟩
 .obtain⟨J,z⟩:=I.cell y c e;exact⟨J,z.sameBut l (I.cne y c e)⟩
 .obtain⟨e,n,K,nf,d⟩:=I.pin p hp;exact⟨(l.2 p.1 K).trans e,n,K,nf,d⟩
 .refine(I.hok b ob e).stay (λc J B q=>(l.2 c ?_).trans q) (λ_ q=>q) λ_ _ q=>q;rintro rfl;rcases B with rfl|B
  .rw[I.free]at e;cases e
  .rw[I.free]at B;cases B
end
def XP(X:Cx)(g:List (af×Obj))(d:St)(h:ai->Hp->Prop)(e:ai)(f:am):Prop:=∃a b,Inv X g d b a/\cf X.prog X.w X.stack b a (λc _ i=>h c i) e f
def DX(X:Cx)(e:aC)(d:ac Slot):Prop :=
 ∀F S h a H Q (i:ai->Hp->Prop),aS X.K F S h a H->Ok X.K (λc _ f=>i c f) a F S H (d h) (λs _ l m f=>∀v j,k9 X.K f l s v j->(∀b,j b->H b=ae/\¬l b/\¬U m b/\∃o,f b=aa o/\ef o)->Q v f) ->
  ∀g s,Inv X g a H s->ar (au X.prog X.w) X.A (aX e X.env) (EP X g a Q) (XP X g a i) s
section
variable{X:Cx}{e:aC}{f:List aC}{a:ac (List bX)}{b:Pos}{x:Str}{k:Nat}{c:List Str}{g:ac Slot}{p:Pos}{d:ac Slot}
def jT(g:ac Slot)(a:ac (List bX)):ac Slot:=λj=>(cg (a j)).bind λi h=>(aM (if(cG i).Nodup then eI h i else ae) h).bind λl h=>fA h i (g l)
end
abbrev hand(X:Cx)(a:af):Cx:={X with A:=X.A.mark (aa (.ref a)),calm:=aj,xe:=λ_ _=>False}
section
variable{X:Cx}{c:List (af×Obj)}{b:St}{H:Hp}{s:am}{a:af}
theorem Inv.hand(I:Inv X c b H s)(d:(X.A.mark (aa (.ref a))).frames=X.A.frames:=by rfl):Inv (Pu.hand X a) c b H s :=
 ⟨⟨I.ok.mod,I.ok.kind,I.ok.glob,I.ok.blt,I.ok.above,I.ok.inj,I.ok.has,I.ok.cab,(λz=>by cases z),d.trans I.ok.frames,I.ok.stk,I.ok.exf,I.ok.bs,I.ok.bsz,I.ok.noex,I.ok.exfs,I.ok.funs,I.ok.frf,I.ok.tab⟩,I.os,I.bare,I.base,I.loc,I.cell,I.free,I.freeC,I.pin,I.hok,I.len⟩
theorem Inv.unhand(I:Inv (Pu.hand X a) c b H s)(ok:X.Ok):Inv X c b H s:=⟨ok,I.os,I.bare,I.base,I.loc,I.cell,I.free,I.freeC,I.pin,I.hok,I.len⟩
end
def Under(h:aB)(D:af)(c:ai):Prop:=∃C g N j q bs b i d s f r p o n m l a,c=.ref C/\h.get? C=aa (Dk j q C N bs g b i d s f r p o n m l a)/\(Value.ref C::g).contains (.ref D)=ah
def qP(h:aB)(D:af):Prop:=∃f N i q bs b g c r d p o n m l j a,h.get? D=aa (Dk i q D N bs f b g c r d p o n m l j a)/\f.contains (.type "BaseException")=ah
theorem Under.keeps{h d:aB}{D:af}{c:ai}(x:Under h D c)(k:∀b o,h.get? b=aa o->d.get? b=aa o):Under d D c:=by obtain⟨C,bm,N,nm,q,bs,hdct,sn,sub,ab,col,dd,k0,k1,k2,k3,k5,a,e,g,f⟩:=x;exact⟨C,bm,N,nm,q,bs,hdct,sn,sub,ab,col,dd,k0,k1,k2,k3,k5,a,e,k _ _ g,f⟩
theorem qP.keeps{h c:aB}{D:af}(x:qP h D)(k:∀b o,h.get? b=aa o->c.get? b=aa o):qP c D:=by obtain⟨bm,N,nm,q,bs,hdct,sn,sub,ab,col,dd,k0,k1,k2,k3,k5,a,f,d⟩:=x;exact⟨bm,N,nm,q,bs,hdct,sn,sub,ab,col,dd,k0,k1,k2,k3,k5,a,k _ _ f,d⟩
theorem LS{M:Model}{A:aT}{E:ai->am->Prop}{s:am}{e D:af}{o:Obj}{c:ai}{Q:Bool->am->Prop}(J:Under s.heap D c)(b:qP s.heap D)(L:s.heap.get? e=aa o)(x:o.cls=c)(K:Q ah s):ar M A (excMatches (.ref e) (.ref D)) Q E s:=by
 obtain⟨C,bm,N,nm,q,bs,p,X,v,ab,S,dd,k0,k1,k2,k3,k5,i,rfl,r,I⟩:=J;obtain⟨m,N',y,Y,T,j,w,n,W,u,P,H,G,F,B,z,a,b,O⟩:=b;obtain⟨h,g,d,t,Z⟩:=s;have l:(Value.ref D::m).contains (.type "BaseException")=ah:=by rw[List.contains_cons,O,Bool.or_true]
 have f:=tc_notTuple;unfold excMatches
 repeat (first | (with_reducible refine JM L ?_;rw[x])|with_reducible refine JM r ?_|with_reducible refine JM b ?_ | (with_reducible refine wpAny_isSubtype_exc r ?_;rw[I]) | (with_reducible refine wpAny_isSubtype_exc b ?_;rw[l])|wp_step)
 exact K
def sR(i:Nat)(b:ai->Bool)(h:ac Slot)(j:ac aK):ac aK:=λg=>match h g with
 |.ok s a=>.ok (.ret s) a
 |.er c a=>if b c=ah/\i<a.length then(match j (a.set i (.val (.exc c)))with
  |.ok f d=>(match d[i]? with
   |some (.val _)=>.ok f (d.set i .none)
   |_=>.no)
  |_=>.no)else .no
 |.no=>.no
section
variable{X:Cx}{E:XK}{pin:List Nat}{e:aC}{A:ac Slot}{B:ac aK}{J L G C:Pos}{x n:Str}{D:af}{l:List a8}{m:a8}{g:ai->Bool}
theorem aS.unset{K:ay}{F:af->Prop}{S:Nat->af->Prop}{a:ak}{h:St}{H:Hp}{i:Nat}(r:aS K F S a h H):aS K F (λj b=>S j b/\j≠i) (a.set i .none) (h.set i ae) H:=by
 have c:=r.drop i;have o:∀{j:Nat}{s:Slot},(a.set i .none)[j]?=aa s->s≠.none->j≠i:=λ{j s} e q z=>by
  subst z;by_cases u:j<a.length
  .rw[fZ u]at e;exact q (dO e).symm
  .rw[lX (by rw[jk];lia)]at e;cases e
 refine⟨by rw[jk,jk];exact r.len,r.ex,λj pv e=>?_,λj p e=>?_,c.foot,c.dist⟩
 .obtain⟨v,f,d⟩:=c.val j pv e;exact⟨v,by rw[eK (dW (o e (by intro z;cases z)))];exact f,d⟩
 .obtain⟨v,f,d⟩:=c.own j p e;exact⟨v,by rw[eK (dW (o e (by intro z;cases z)))];exact f,d⟩
theorem Ti{P:aN}{w:aG}{H:Hp}{h:aB}{a T:af}{c I:ai}(ok:df P w H h)(j:H a=ae)(f:lF h a T c I):df P w (upd H a (nI a c)) h:=λb u q=>by
 by_cases r:b=a
 .subst r;rw[upd_same]at q;cases q;obtain⟨i,v,_,_,p,F,y,_⟩:=f;exact⟨⟨i,v,p,F,y⟩,⟨i,p⟩,λQ O ⟨o,s,N,M,K⟩ k=>⟨o,s,k o N,M,K⟩⟩
 .rw[bh r]at q;exact(ok b u q).stay (λ_ _ _ z=>z) (λd z=>by rw[bh (kR z j)];exact z) λd xs z=>by rw[bh (kR z j)];exact z
def ID(X:Cx)(r:List a8)(d:ac Slot):Prop :=
 ∀F S i a H Q (j:ai->Hp->Prop),aS X.K F S i a H->Ok X.K (λc _ f=>j c f) a F S H (d i) (λs _ q y f=>∀v p,k9 X.K f q s v p->(∀b,p b->H b=ae/\¬q b/\¬U y b/\∃o,f b=aa o/\ef o)->Q v f) ->
  ∀h s,Inv X h a H s->ar (au X.prog X.w) X.A (execs r X.env) (λw s'=>∃u,w=.ret u/\EP X h a Q u s') (XP X h a j) s
theorem Tc(d:DX X e A):ID X [.Return (aa e) J] A:=λF S b a H Q i c h f s I=>Jb (wpAny_Return_some (eW (d F S b a H Q i c h f s I) (λu j q=>⟨u,rfl,q⟩) λ_ _ q=>q))
theorem M5{ss:List a8}(i:Nat)(hN:X.N.Nodup)(hx:ID X ss A)(hD:X.mg x=aa (.ref D))(hE:qP X.base D)(hcg:∀c,g c=ah->Under X.base D c)(hh:∀a,gz (hand X a) E0 pin (m::l) B)(dZ:i∉pin:=by decide) (hi:X.N[i]?=aa n:=by rfl) (hl:X.env.scope.names.lookup n=aa .local:=by rfl) (hg:Gl X x:=by rfl) (hd:ad x:=by decide) (eY:X.stack=X.env::X.outer:=by rfl) (hfm:X.env.frame=aa X.env.locals:=by rfl) (hf:X.fn n=ah\/X.env.scope.names.lookup n=aa .local:=by first|exact .inl rfl|exact .inr rfl):DS X E pin (.Try ss [.ExceptHandler (aa (.Name x L)) (aa n) (m::l) G] [] [] C) (sR i g A B):=λF S ε σ H Dn rl q=>Bx.mk λag s I=>by
 refine wpAny_Try_except ?_;have body:=hx F S ε σ H (λv r=>Dn.rt v r) (λc r=>∃K W N,aS X.K K W N σ r/\bq (U S) (U W) F K H r/\g c=ah/\i<N.length/\gT X.K E pin σ F S H (match B (N.set i (.val (.exc c)))with
  |.ok f ε2=>(match ε2[i]? with
   |some (.val _)=>.ok f (ε2.set i .none)
   |_=>.no)
  |_=>.no) Dn) rl (by
  unfold sR at q;cases e0:A ε with
  |no=>rw[e0]at q;exact q.elim
  |ok sl N=>rw[e0]at q;intro K W r r' O v Sr rv fr;exact q v K W σ r Sr r' ⟨O.fro,O.keep,O.there,O.fnew,λb z=>z.elim (O.onew b) λw=>.inr (fr b w).1⟩ (jn.refl _ _) rv λb z=>(fr b z).2
  |er c N=>
   rw[e0]at q;intro y K W r r' O;dsimp only at q;by_cases hc:g c=ah/\i<N.length
   .rw[if_pos hc]at q;exact⟨K,W,N,r',O,hc.1,hc.2,q⟩
   .rw[if_neg hc]at q;exact q.elim) ag s I
 refine eW body (λfl Z ⟨u,efl,v,H1,I1,r1,q1⟩=>?_) λev Z xp=>?_
 .subst efl;exact⟨v,σ,H1,I1,r1,q1⟩
 obtain⟨s0,H0,I0,a,T,c,H1,rfl,ho,hg1,un,hok,fl,⟨fa,fT,na,nT⟩,F1,S1,ε1,rl1,g1,hcc,a6,h⟩:=xp;have I1:=I0.call' (s':=Z) (ch:=[]) ho un hok hg1 (λb z=>absurd z (by simp));have kpI:∀{h2:aB}{Y:af->Prop}{T':af},Kp (fF X.stack) Y Z.heap h2->(∀b o,s0.heap.get? b=aa o->¬Y b)->(∀b,Y b->H1 b=ae)->lF h2 a T' c .none->∀tk,Inv X ag σ (upd H1 a (nI a c)) {Z with heap:=h2,toks:=tk}:=λ{h2 Y T'} k hY1 hY2 f2 tk=>by
  refine I0.call' (s':={Z with heap:=h2,toks:=tk}) (ch:=[]) ho ?_ (Ti (Bh hok k (λb hb=>I1.stkFree b hb) hY2) na f2) hg1 (λb z=>absurd z (by simp));have u2:=B8 un k (λb o _ z=>z) hY1;have na':∀b o,H1 b=aa o->b≠a:=λb o e=>kR e na;refine⟨u2.keep,u2.slot,λb o e n hx=>?_,u2.there,λb xs e=>?_,λb o u e=>?_,λb ps e=>?_⟩
  .rw[bh (by rintro rfl;rw[fa]at e;cases e)];exact u2.free b o e n hx
  .have:=u2.tups b xs e;rw[bh (na' b _ this)];exact this
  .have:=u2.frzs b o u e;rw[bh (na' b _ this)];exact this
  .have:=u2.tbls b ps e;rw[bh (na' b _ this)];exact this
 have H1T:∀b,b=a\/b=T->H1 b=ae:=λb z=>by rcases z with rfl|rfl <;> assumption
 have old1:∀b o,s0.heap.get? b=aa o->¬(b=a\/b=T):=λb o e z=>by
  rcases z with rfl|rfl
  .rw[fa]at e;cases e
  .rw[fT]at e;cases e
 refine Hd (outer:=X.outer) (by rw[I0.ok.frames,eY]) (by rw[<-eY];exact I1.stack) hfm fl λh2 T' k fl2 fT'=>?_;rw[<-eY]at k;have I2:=kpI k old1 H1T fl2 Z.toks;refine wpAny_handleBy_cons (codeAny_handlers_test ?_) (by intro z;cases z);have I2h:Inv (hand X a) ag σ (upd H1 a (nI a c)) {Z with heap:=h2}:=Inv.hand I2;refine vM (X:=hand X a) I2h hg hD ?_ hd;obtain⟨oe,vs,oT,ts,he2,Vf,_⟩:=id fl2;refine LS (s:={Z with heap:=h2}) ((hcg c hcc).keeps I2.bk) (hE.keeps I2.bk) he2 Vf ?_;show mO _ _ _ _ _;refine codeAny_handlers_suite_as (SM (s:={Z with heap:=h2}) fl2 λh3 k3 fl3=>?_);have k':Kp (fF X.stack) (λb=>(b=a\/b=T)\/b=T') Z.heap h3:=k.trans (k3.imp (λb z=>by simp at z) λb o _ z=>z);have I3:=kpI (T':=T') k' (λb o e z=>by
  rcases z with z|rfl
  .exact old1 b o e z
  .rw[tm un (CG fT')]at e;cases e) (λb z=>by
  rcases z with z|rfl
  .exact H1T b z
  .exact I1.hok.fresh fT') fl3 Z.toks
 have I3h:Inv (hand X a) ag σ (upd H1 a (nI a c)) {Z with heap:=h3}:=Inv.hand I3;refine yH (X:=hand X a) (v:=.ref a) I3h hN hi (.inl hl) rfl (λs4 I4=>?_) hf;have al:Al F1 F1 H1 (upd H1 a (nI a c)):=Al.new0 na;have r2:=rl1.al al;have r3:=r2.set (i:=i) (pv:=.exc c) (v:=.ref a) ⟨a,rfl,upd_same⟩;have g3:bq (U S) (U λj b=>S1 j b/\j≠i) F F1 H (upd H1 a (nI a c)):=(g1.trans al.grow).trans (bq.less i);have less:∀{W:Nat->af->Prop}{K:af->Prop}{r:Hp},bq (U W) (U λj b=>W j b/\j≠i) K K r r:=λ{W K r}=>bq.less i;have pn:∀{d:St},jn pin (σ.set i (aa (.ref a))) d->jn pin σ (d.set i ae):=λ{d} p=>((jn.set dZ).trans p).trans (jn.set dZ);have okd:gT (hand X a).K E0 pin (σ.set i (aa (.ref a))) F1 (λj b=>S1 j b/\j≠i) (upd H1 a (nI a c)) (B (ε1.set i (.val (.exc c)))) {nx:=λd r=>Dn.nx (d.set i ae) r,rt:=Dn.rt,bk:=λd r=>Dn.bk (d.set i ae) r,ct:=λd r=>Dn.ct (d.set i ae) r}:=by
  cases ed:B (ε1.set i (.val (.exc c)))with
  |no=>rw[ed]at h;exact h.elim
  |er c' ε2=>rw[ed]at h;exact h.elim
  |ok f ε2=>
   rw[ed]at h;dsimp only at h;split at h
   .cases f with
    |next=>exact λK W d r r' O p'=>h K _ _ r r'.unset ((g3.trans O).trans less) (pn p')
    |brk=>exact λK W d r r' O p'=>h K _ _ r r'.unset ((g3.trans O).trans less) (pn p')
    |cont=>exact λK W d r r' O p'=>h K _ _ r r'.unset ((g3.trans O).trans less) (pn p')
    |ret sl=>
     intro v K W d r Sr r' O p' rv lo;refine h v K _ _ r Sr r'.unset ?_ (pn p') rv λb z=>⟨(lo b z).1,λ⟨j,w⟩=>(lo b z).2.1 ⟨j,w.1⟩,(lo b z).2.2⟩
     have gg:=g3.trans O;exact⟨gg.fro,gg.keep,gg.there,gg.fnew,λb z=>gg.onew b (z.imp (λ⟨j,w⟩=>⟨j,w.1⟩) id)⟩
   .exact h.elim
 refine eW ((hh a F1 _ _ _ _ _ r3 okd).run ag s4 I4) (λf s5 sp=>?_) λ_ _ z=>z.elim;have P:∀{M:St}{H5:Hp}{Q:Unit->am->Prop},Inv (hand X a) ag M H5 s5->(∀s6,Inv X ag (M.set i ae) H5 s6->Q () s6)->ar (au X.prog X.w) X.A (do bindName X.env n .none;unbindBehindTheSuite X.env n G) Q X.xe s5:=λ{M H5 Q} I5 hQ=>by
  have I5':=Inv.unhand I5 I0.ok;refine aq (wpAny_bindName (yH (v:=.non) I5' hN hi (.inl hl) rfl (λs6 I6=>?_) hf));unfold unbindBehindTheSuite;refine wpAny_onRaise ?_;have hiσ:i<M.length:=by rw[I5'.len];exact(c_.mp hi).1
  refine Nz I6 hN hi hl (fZ hiσ) λs7 I7=>hQ s7 ?_;rw[List.set_set]at I7;exact I7
 cases f with
 |next=>obtain⟨M,H5,I5,q5⟩:=sp;exact P I5 λs6 I6=>⟨_,H5,I6,q5⟩
 |brk=>obtain⟨M,H5,I5,q5⟩:=sp;exact P I5 λs6 I6=>⟨_,H5,I6,q5⟩
 |cont=>obtain⟨M,H5,I5,q5⟩:=sp;exact P I5 λs6 I6=>⟨_,H5,I6,q5⟩
 |ret u=>obtain⟨v,M,H5,I5,rv,q5⟩:=sp;exact P I5 λs6 I6=>⟨v,_,H5,I6,rv,q5⟩
theorem NZ(i:Nat)(s:X.N.Nodup)(f:DX X e A)(v:X.mg x=aa (.ref D))(u:qP X.base D)(d:∀c,g c=ah->Under X.base D c)(o:∀a,gz (hand X a) E0 pin (m::l) B)(y:i∉pin:=by decide) (j:X.N[i]?=aa n:=by rfl) (h:X.env.scope.names.lookup n=aa .local:=by rfl) (p:Gl X x:=by rfl) (r:ad x:=by decide) (w:X.stack=X.env::X.outer:=by rfl) (b:X.env.frame=aa X.env.locals:=by rfl) (q:X.fn n=ah\/X.env.scope.names.lookup n=aa .local:=by first|exact .inl rfl|exact .inr rfl):DS X E pin (.Try [.Return (aa e) J] [.ExceptHandler (aa (.Name x L)) (aa n) (m::l) G] [] [] C) (sR i g A B):=M5 i s (Tc f) v u d o y j h p r w b q
end
structure kY(k:Nat)(A:aT):Prop where
 dp:A.depth+3*k+5<recursionLimit
 un:A.units+16*k+200<cLine
theorem eT.hand{k:Nat}{A:aT}{v:Option ai}(r:eT k A):kY k (A.mark v):=⟨r.dp,r.un⟩
theorem kY.mono{j k:Nat}{A:aT}(r:kY k A)(h:j<=k):kY j A:=⟨by have:=r.dp;lia,by have:=r.un;lia⟩
theorem kY.deeper{k:Nat}{A:aT}(r:kY (k+1) A)(a:Env):kY k (A.deeper a) :=⟨by have:=r.dp;show A.depth+1+3*k+5<_;lia,by have:=r.un;show A.units+3+16*k+200<_;lia⟩
theorem kY.units{k:Nat}{A:aT}(r:kY k A):A.units+64<cLine:=by have:=r.un;lia
def vI(P:aN)(w:aG)(K:ay)(g:Str->Option ai)(d:aB)(N:List Str)(c:Str)(a:d9)(f:af)(h:ai)(A:aT)(b:List Env)(s:am)(H:Hp):Cx :=
 {(js A0 P w K g d N c a f h A b s H E0)with calm:=aj,xe:=λ_ _=>False}
structure AH(P:aN)(w:aG)(K:ay)(mg:Str->Option ai)(base:aB)(k:Nat)(f:af)(fd:gh)(ps:List Str)(sp:Sp):Prop where
 len:∀vs H Q E,sp vs H Q E->vs.length=ps.length
 run:∀(A:aT) (outer:List Env) (s:am) (H:Hp) (args:Args) (us:List ai) (vs:List V) (Q:VK),kY k A->sA P w K mg base A outer s H->BindsTo s fd args (ps.zip us)->bt vs us->sp vs H Q E0 ->
  mO (au P w) A (.call (.ref f) args) (CR A0 outer P w H s Q E0) s
structure xR(P:aN)(w:aG)(K:ay)(mg:Str->Option ai)(base:aB)(x:Str)(k:Nat)(ps:List Str)(sp:Sp):Prop where
 ex:∃f fd,mg x=aa (.ref f)/\AH P w K mg base k f fd ps sp/\Binds K fd ps []/\n9 K (.ref f)=ah
theorem NG{P:aN}{w:aG}{K:ay}{F:Str->Option ai}{h:aB}{k:Nat}{f:af}{B g:Str}{i:Arguments}{l:List a8}{a:d9}{dV kV M pm C ct oc:ai}{an od:Option af}{Z:Array (Option ai)}{N O:List Str}{T:Sp} (lk:K.lookup f=aa ⟨oc,od,.func (jh B g i l a dV kV M pm an C ct),Z⟩) (bA:vV K C g=ah) (S:cy N O a)(len:∀p H Q E,T p H Q E->p.length=O.length)(iV:∀(A:aT) (c:List Env) (s:am) (H:Hp) (p:List V) (Q:VK),kY k (A.deeper (jC g a s.heap.objs.size f C))->T p H Q E0 -> oX (vI P w K F h N g a f C A c s H) l {nx:=λ_ D=>Q .non D,rt:=Q} (L2.start N p) H):AH P w K F h (k+1) f (jh B g i l a dV kV M pm an C ct) O T:=by
 refine⟨len,λA c s H args us p Q hr j hb r jI=>?_⟩;have hl:=len _ _ _ _ jI;have KX:K.In s.heap:=j.mod.kin.keeps λb o e=>(j.bs b o e).1;have lim:s.heap.NoLimit:=j.mod.nolimit.keeps λb o e=>(j.bs b o e).1;have D7:∀y∈O.zip us,a.names.lookup y.1=aa .local\/(a.names.lookup y.1=aa .cell/\((f8 (s.heap.objs.size+1) a.names []).lookup y.1).isSome=ah):=λ⟨n,v⟩ hy=>(S.par n (vU hy).1).imp id λq=>⟨q,Ji _ _ _ (.inl q)⟩
 refine codeAny_call_function (by have:=hr.dp;lia) (KX _ _ lk) rfl S.co S.gen rfl (PySem.W.codeRec_of KX bA) (hb _ _ _ _ ?_);refine wpAny_newFunctionEnv_cells S.kind D7 λenv he W x=>?_;subst he;refine⟨lim.keeps x.toInCall.keep,codeAny_func ?_⟩;have e1:sA P w K F h {A with handled:=ae} c s H:=⟨j.frames,j.mod,j.bs,j.bsz,j.funs,j.frf,j.hok,j.bare,j.tab⟩
 have d:Inv (js A0 P w K F h N g a f C {A with handled:=ae} c s H E0) [] (L2.start N p) H W:=GC S rfl e1 hl r x;have I:Inv (vI P w K F h N g a f C A c s H) [] (L2.start N p) H W :=
  ⟨⟨d.ok.mod,d.ok.kind,d.ok.glob,d.ok.blt,d.ok.above,d.ok.inj,d.ok.has,d.ok.cab,(λz=>by cases z),Around.frames_deeper j.frames,d.ok.stk,d.ok.exf,d.ok.bs,d.ok.bsz,d.ok.noex,d.ok.exfs,d.ok.funs,d.ok.frf,d.ok.tab⟩,d.os,d.bare,d.base,d.loc,d.cell,d.free,d.freeC,d.pin,d.hok,d.len⟩
 refine eW ((iV A c s H p Q (hr.deeper _) jI).run [] W I) (λfl X G=>?_) λe X G=>G.elim;have L:∀{m:St}{D:Hp}{v:V}{u:ai},Inv (vI P w K F h N g a f C A c s H) [] m D X->RelV v u->Q v D->CE c P w H s Q u X:=λ{m D v u} J Y q=>⟨v,D,J.os,J.bare,J.base,J.hok,Y,q⟩
 cases fl with
 |ret u=>obtain⟨v,m,D,J,Y,q⟩:=G;exact L J Y q
 |next=>obtain⟨m,D,J,q⟩:=G;exact L (v:=V.non) (u:=Value.none) J rfl q
 |brk=>obtain⟨_,_,_,q⟩:=G;exact im q
 |cont=>obtain⟨_,_,_,q⟩:=G;exact im q
theorem Kl{P:aN}{w:aG}{K:ay}{u:Str->Option ai}{j:aB}{x:Str}{c:a8}{N l:List Str}{k n:Nat}{g:ac Slot}{d:ac aK}{p:List Nat}(D:cU K u x c)(Y:cy N l (a_ c))(M:N.length=l.length+n)(T:∀(kV q y:ai) (E:Option af) (o B:ai) (r:List ai),r.length=l.length->gF (jh x x (j_ c) (gD c) (a_ c) .none kV q y E o B) ⟨r,[]⟩=pure (l.zip r))(C:∀b,g b≠.no->b.length=l.length) (z:∀b,g b≠.no->∀(i:Nat) m,b[i]?=aa (.own m)->i∈p/\gM m=ah) (S:∀b,g b≠.no->bu n d b=g b)(J:∀(f:af) (o:ai) (A:aT) (a:List Env) (s:am) (H:Hp),kY k (A.deeper (jC x (a_ c) s.heap.objs.size f o))->gz (vI P w K u j N x (a_ c) f o A a s H) E0 p (gD c) d):xR P w K u j x (k+1) l (bB K g):=by obtain⟨f,W,O,v⟩:=D.ex;refine⟨f,W,O,?_,v.binds T,v.kp⟩;obtain⟨oc,od,kV,q,y,E,o,B,F,rfl,G,X⟩:=v.ex;exact NG G X Y (EW C) λA a s H Z Q L I=>IA M C (λb h i m e=>(z b h i m e).1) (λb rs aO h=>.inr λi m e=>(z b (by rw[h];exact nofun) i m e).2) S (J f o A a s H L) I
section
variable{X:Cx}{E:XK}{e:aC}{d:List aC}{j:ac (List bX)}{b:Pos}{x:Str}{k:Nat}{i:List Str}{g:ac Slot}{p:Pos}
theorem Re{f:af}{y:gh}{v:Sp}{t:TA}(z:AH X.prog X.w X.K X.mg X.base k f y i v)(B:kY k X.A)(G:Gl X x)(C:X.mg x=aa (.ref f))(F:n9 X.K (.ref f)=ah)(L:Binds X.K y i [])(M:PA X (e::d) t) (K:ad x) (J:aU (e::d) X.env=(aj,aX e X.env)::aU d X.env) (O:(c7 b (aU d X.env)).any (·.1)=aj):PE X (.Call (.Name x p) (e::d) [] b) (λm H Q=>t m H λn o=>v n o Q E0):=λP s m H Q I h=>by
 refine CL (vM I G C ?_ K);refine Jh (h₀:=X.base) I.ok.mod.kin F (aW (M b P s m H _ I h) λc w ⟨n,o,l,r,q⟩=>⟨l.kIn,?_⟩) J O;have D:c.length=i.length:=by rw[<-r.length];exact z.len _ _ _ _ q
 refine zt (q_ (z.run X.A X.stack w o ⟨c,[]⟩ c n Q B l.env0 (by have:=L w c l.kIn (by rw[iR];exact D);rwa[iR]at this) r q) λA S a=>?_);cases A with
 |error er=>exact(show False from a).elim
 |ok N=>
  cases N with
  |ret u=>exact l.after a
  |next=>exact im a
  |brk=>exact im a
  |cont=>exact im a
theorem Ki{n m:Type}{K:ay}{E o:XK}{c:St}{F:af->Prop}{S:Nat->af->Prop}{H:Hp}{C:m->ak->(af->Prop)->(Nat->af->Prop)->Hp->Prop}{r:R n}{f:n->ak->R m}(h:Ok K E c F S H (cg (r.bind f)) C):Ok K E c F S H r λa l F S H=>Ok K o c F S H (f a l) C:=by
 cases r with
 |ok a l=>
  intro w u v s q;have h:Ok K E c F S H (cg (f a l)) C:=h;cases e:f a l with
  |ok=>rw[e]at h;exact Ok.from (E:=o) h q
  |_=>rw[e]at h;exact h.elim
 |_=>exact h.elim
theorem P3(c:xR X.prog X.w X.K X.mg X.base x k i (bB X.K g))(r:kY k X.A)(z:DG X E (e::d) j)(v:Gl X x:=by rfl)(w:ad x:=by decide) (B:aU (e::d) X.env=(aj,aX e X.env)::aU d X.env:=by rfl) (A:(c7 b (aU d X.env)).any (·.1)=aj:=by rfl):DR X E (.Call (.Name x p) (e::d) [] b) (λa=>cg (a9 g j a)):=λF S a l H Q n h=>by obtain⟨f,J,s,G,y,u⟩:=c.ex;exact b9 (Re G r v s u y gS w B A) (z F S a l H _ n ((Ki h).imp λK m N L M o C q I D=>HG o C D q))
end
structure oZ(K:ay)(C:af):Prop where
 ga:q8 K (.ref C) "__getattribute__"=aa (aa (.builtin "BaseException.__getattribute__"))
 gt:q8 K (.ref C) "__getattr__"=aa ae
 cl:q8 K (.ref C) "__class__"=aa (aa (.builtin "object.__class__"))
 gs:Jf K (.builtin "object.__class__") "__get__"=aa (aa (.builtin "getset_descriptor.__get__"))
 tk:PySem.W.takesIn K (.builtin "object.__class__")=aa ah
 ob:zr K C (.type "object")=aa ah
 be:zr K C (.type "BaseException")=aa ah
 cs:(Dl K C).isSome=ah
section
variable{b:aN}{w:aG}{A:aT}{E:ai->am->Prop}{K:ay}{h:aB}{g:Array GenState}{d:Drawn}{t:Nat}{c:OsState}{a C:af}{o:Obj}
theorem SF{M:Model}{f:ai}{Q:Unit->am->Prop}(X:K.In h)(k:oZ K C)(I:vT h a o C ae)(j:Q () ⟨h,g,d,t,c⟩):ar M A (JE "BaseException.__getattribute__" ⟨[.ref a,f],[]⟩) Q E ⟨h,g,d,t,c⟩:=by
 have l:builtinKind "BaseException.__getattribute__"=aa .slot:=by decide +kernel
 have m:splitId "BaseException.__getattribute__"=aa ("BaseException","__getattribute__"):=by decide +kernel
 have p:=F.args_bexc_ga (.ref a) f;have n:=I.type (M:=M);have i:=PySem.W.looks_mroIn (M:=M) X k.be;simp only[JE,l,m];refine aq ?_
 .unfold zF
  repeat (first|with_reducible refine aq (n.at ?_)|with_reducible refine i.at ?_|with_reducible refine aq (i.at ?_)|wp_step)
  exact j
theorem Q3{i:Tok}{Q:Fin->am->Prop}(X:K.In h)(k:oZ K C)(I:vT h a o C ae)(j:Q (.done (.ret (.ref C))) ⟨h,g,d,t,c⟩):ar (au b w) A (Builtin.«object.__getattribute__» ⟨[.ref a,.str "__class__" i],[]⟩) Q E ⟨h,g,d,t,c⟩:=by
 have q:=I.type (M:=au b w);have l:PySem.W.findObj K C ae "__class__"=aa (.bind (.builtin "getset_descriptor.__get__") (.builtin "object.__class__")):=by obtain⟨u,m⟩:=CM.mp k.cs;unfold PySem.W.findObj;rw[m,gk,k.cl,gk];simp[k.gs,k.tk]
 have p:=PySem.W.looks_find (M:=au b w) X I l;have n:mO (au b w) A (.call (.builtin "getset_descriptor.__get__") ⟨[.builtin "object.__class__",.ref a,.ref C],[]⟩) (λr f=>r=.ok (.ret (.ref C))/\f=⟨h,g,d,t,c⟩) ⟨h,g,d,t,c⟩:=PySem.W.class_get (s:=⟨h,g,d,t,c⟩) X I k.ob ⟨rfl,rfl⟩;refine aq (aD (aq (aD (aq (q.at (aq (p.at ?_)))))));show ar _ _ (do ret (<-holding [Value.builtin "object.__class__"] (call (.builtin "getset_descriptor.__get__") [.builtin "object.__class__",.ref a,.ref C]))) _ _ _;refine aq (jW (zt (q_ n λr f z=>?_)));obtain⟨rfl,rfl⟩:=z;exact aD j
theorem Lk{i:Tok}{Q:ai->am->Prop}(X:K.In h)(k:oZ K C)(I:vT h a o C ae)(q:Q (.ref C) ⟨h,g,d,t,c⟩):ar (au b w) A (getAttrBy (.ref a) (.str "__class__" i) aj) Q E ⟨h,g,d,t,c⟩:=by
 have p:=I.type (M:=au b w);have n:=PySem.W.looks_findIn (M:=au b w) X k.ga;have f:=PySem.W.looks_findIn (M:=au b w) X k.gt;have l:(Value.builtin "BaseException.__getattribute__" == Value.builtin "object.__getattribute__")=aj:=by decide +kernel
 have j:(onTheHeap (Value.ref C)&&Value.builtin "BaseException.__getattribute__" == Value.builtin "object.__getattribute__")=aj:=by rw[l];rfl
 unfold getAttrBy;refine jW (aq (p.at (aq (n.at ?_))));dsimp only;rw[j];rw[if_neg (by decide)];have f3:=F.attr_ValueError.ga.bind (.ref a);have m:(aj&&onTheHeap (Value.builtin "BaseException.__getattribute__"))=aj:=rfl
 repeat (any_goals (first|assumption|with_reducible refine f.at ?_|with_reducible refine aq (f.at ?_)|wp_step))
 refine codeAny_call_builtin F.attr_ValueError.ga.plain F.entry_bexc_ga (SF X k I (Q3 X k I ?_))
 repeat (any_goals (first|assumption|wp_step))
theorem Kn{Q:Option ai->am->Prop}(X:K.In h)(k:oZ K C)(I:vT h a o C ae)(f:Q (aa (.ref C)) ⟨h,g,d,t+1,c⟩):ar (au b w) A (getAttr? (.ref a) "__class__") Q E ⟨h,g,d,t,c⟩:=by
 unfold getAttr? getAttrBy?
 repeat (any_goals (first|assumption|with_reducible apply Lk X k I|wp_step))
theorem Ny(k:oZ K C):PySem.W.KitX K (.ref a) (.ref C) (λh=>∃o,vT h a o C ae) where
 ty:=λ_ _ _ ⟨o,I⟩=>I.type
 it:=λ_ _ X _=>by
  obtain⟨x,f⟩:=CM.mp k.cs;unfold Dl at f;split at f
  .rename_i y v m i l;intro J G H D r q;unfold isType loadHead;exact aq (wpAny_loadPart (r _ _ (X _ _ l)) (aD q))
  .cases f
 ne:=λh p F u n B X j=>by
  obtain⟨x,f⟩:=CM.mp k.cs;refine zM.mpr λq=>?_;have e:C=p:=Value.ref.inj (beq_iff_eq.mp q);subst e;unfold Dl at f;split at f
  .rename_i y v m i l;have z:=(X _ _ l).symm.trans j;cases z
  .cases f
 ca:=λ{_ _ _ _ _ s} X I q=>by obtain⟨o,I⟩:=I;obtain⟨h,g,d,t,c⟩:=s;exact Kn X k I q
end
def yB:V->Option ai
 |.ref D=>aa (.ref D)
 |.ty T=>aa (.type T)
 |_=>ae
theorem LP{v:V}{u a:ai}(e:yB v=aa u)(r:RelV v a):a=u:=by
 cases v <;> simp[yB]at e <;> subst e <;> exact r
section
variable{X:Cx}{K:ay}
def IX(K:ay):List V->Hp->VK->Prop:=λxs H Q=>∃a C D u b,xs=[.ref a,D]/\H a=aa (nI a (.ref C))/\oZ K C/\yB D=aa u/\fe K (.ref C) u=aa b/\Q (.bl b) H
theorem Vm:d4 X (.builtin "isinstance") (IX X.K):=by
 intro B s w H xs y Q I r h;obtain⟨a,C,D,u,b,rfl,j,k,i,e,q⟩:=h;cases r with
 |cons g f=>
  cases f with
  |cons d c=>
   cases c;cases g;have v:=LP i d;subst v;obtain⟨⟨o,x,p,n,m,l⟩,_,_⟩:=I.hok a _ j;refine lP (Ny (a:=a) k) I.kIn ⟨o,p,n,?_,?_⟩ e (by intro z;cases z) λA=>⟨.bl b,H,I.tok _,rfl,q⟩
   .unfold PySem.W.notCls;rw[m]
   .rw[l];trivial
def jM(tab:ai->V->Option Bool):List PV->Option PV
 |[.exc c,.raw D]=>(tab c D).map .bl
 |xs=>eu xs
def GA(K:ay):List V->Hp->VK->Prop:=λxs H Q=>IX K xs H Q\/∃x t T b,xs=[x,.ty T]/\jd K H x (.type t)/\fe K (.type t) (.type T)=aa b/\Q (.bl b) H
theorem k_:d4 X (.builtin "isinstance") (GA X.K):=Vm.or qb
def AW(K:ay)(tab:ai->V->Option Bool):Prop:=∀c D b,tab c D=aa b->∃C u,c=.ref C/\oZ K C/\yB D=aa u/\fe K (.ref C) u=aa b
theorem kW{tab:ai->V->Option Bool}(j:AW K tab):PL K (GA K) (jM tab):=λF H xs g Q pv f e q=>by
 unfold jM at e;split at e
 .rename_i c D;cases d:tab c D with
  |none=>rw[d]at e;cases e
  |some b=>
   rw[d]at e;cases e;obtain⟨C,u,rfl,k,i,l⟩:=j c D b d;obtain⟨v,p,rfl,⟨a,rfl,m⟩,o⟩:=f;obtain⟨h,rfl,n⟩:=fU o;rw[show h=D from n];exact .inl ⟨a,C,D,u,b,rfl,m,k,i,l,q _ F H (Al.refl ..) rfl⟩
 .exact .inr (qA F H _ g Q pv f e q)
theorem ju{E:XK}{x:Str}{D:af}{d:Pos}(a:X.mg x=aa (.ref D))(b:Gl X x:=by rfl)(c:ad x:=by decide):DE X E (.Name x d) (dC (.raw (.ref D))):=λF S g f H Q r q=>b9 (BC (v:=.ref D) b a rfl c) (q F S H r (bq.refl ..) _ rfl)
variable{E:XK}{e:aC}{de:ac PV}{d:Pos}{y:Str}
def A8(xs:List PV)(y:PV):Option PV:=(eD y).bind λv=>(k8 xs).map λa=>.int (a.countP λz=>fS z v)
def BO(xs:List PV)(y:PV):Option PV:=(eD y).bind λv=>(k8 xs).bind λa=>(a.findIdx? λz=>fS z v).map λj=>.int j
def sM(f:List PV->PV->Option PV)(i:Nat)(de:ac PV):ac PV:=λb=>(aM (fR b i) b).bind λ_ b=>(de b).bind λk a=>(aM (fR a i) a).bind λxs a=>aM (f xs k) a
theorem Nf(i:Nat){p c b:Pos}(N:DE X E e de)(T:X.N[i]?=aa y:=by rfl)(L:fh X.env.scope y:=by first|exact Or.inl rfl|exact Or.inr (Or.inl rfl)|exact Or.inr (Or.inr rfl))(O:ad y:=by decide)(bA:(y==("__classdict__":Str))=aj:=by decide) (h1:kr (.Name y p) "count" X.env (aX (.Name y p) X.env)=aX (.Name y p) X.env:=by rfl)(Z:((c7 b (aU [e] X.env)).all (λx=>!x.1)&&(pi b (pq [] X.env)).all (λx=>x.1.isSome)&&decide ([e].length+([]:List jD).length+(if([]:List jD).isEmpty then 0 else 1)<30))=ah:=by rfl)(Y:(c.endLine == b.line)=ah:=by rfl) (u:aU [e] X.env=(aj,aX e X.env)::aU [] X.env:=by rfl) (W:(c7 b (aU [] X.env)).any (·.1)=aj:=by rfl):DE X E (.Call (.Attribute (.Name y p) "count" c) [e] [] b) (sM A8 i de):=λF S o A H Q r h=>by
 unfold sM at h;cases n:fR o i with
 |none=>rw[n]at h;exact h.elim
 |some B=>
  rw[n]at h;simp only[cJ,R.bind_ok]at h;obtain⟨a,C,z,P,_,_,_⟩:=r.lstAt (lH n);refine b9 (vD Dj PySem.F.slot_list_count PySem.F.type_list_count Nq (gC T L O bA) (i9 bQ ka u) h1 Z Y u W) ⟨.ref a,z,.inl ⟨rfl,_,b_.of P⟩,?_⟩;refine N F S o A H _ r ((Ok.bind h).imp λk j F1 S1 H1 s g1 q v G=>?_);cases m:fR j i with
  |none=>rw[m]at q;exact q.elim
  |some xs=>
   rw[m]at q;simp only[cJ,R.bind_ok]at q;obtain⟨a',D,g,J,I,_,_⟩:=s.lstAt (lH m);rw[z]at g;cases g;unfold A8 at q;cases f:eD k with
   |none=>rw[f]at q;exact q.elim
   |some w=>
    cases l:k8 xs with
    |none=>rw[f,l]at q;exact q.elim
    |some ws=>rw[f,l]at q;obtain⟨rfl,M⟩:=xx I l;rw[j7 G f];exact⟨a,D,w,rfl,rfl,J,uA f,M,q F1 S1 H1 s (bq.refl ..) _ rfl⟩
theorem LA(i:Nat){p c b:Pos}(he:DE X E e de)(hN:X.N[i]?=aa y:=by rfl)(Y:fh X.env.scope y:=by first|exact Or.inl rfl|exact Or.inr (Or.inl rfl)|exact Or.inr (Or.inr rfl))(hd:ad y:=by decide)(bA:(y==("__classdict__":Str))=aj:=by decide) (h1:kr (.Name y p) "index" X.env (aX (.Name y p) X.env)=aX (.Name y p) X.env:=by rfl)(h2:((c7 b (aU [e] X.env)).all (λx=>!x.1)&&(pi b (pq [] X.env)).all (λx=>x.1.isSome)&&decide ([e].length+([]:List jD).length+(if([]:List jD).isEmpty then 0 else 1)<30))=ah:=by rfl)(h3:(c.endLine == b.line)=ah:=by rfl) (G:aU [e] X.env=(aj,aX e X.env)::aU [] X.env:=by rfl) (h5:(c7 b (aU [] X.env)).any (·.1)=aj:=by rfl):DE X E (.Call (.Attribute (.Name y p) "index" c) [e] [] b) (sM BO i de):=λF S A J H Q B h=>by
 unfold sM at h;cases u:fR A i with
 |none=>rw[u]at h;exact h.elim
 |some L=>
  rw[u]at h;simp only[cJ,R.bind_ok]at h;obtain⟨a,N,I,ha,_,_,_⟩:=B.lstAt (lH u);refine b9 (vD Dj PySem.F.slot_list_index PySem.F.type_list_index QU (gC hN Y hd bA) (i9 bQ ka G) h1 h2 h3 G h5) ⟨.ref a,I,.inl ⟨rfl,_,b_.of ha⟩,?_⟩;refine he F S A J H _ B ((Ok.bind h).imp λk r F1 S1 H1 C g1 q v P=>?_);cases s:fR r i with
  |none=>rw[s]at q;exact q.elim
  |some xs=>
   rw[s]at q;simp only[cJ,R.bind_ok]at q;obtain⟨a',O,l,W,T,_,_⟩:=C.lstAt (lH s);rw[I]at l;cases l;unfold BO at q;cases f:eD k with
   |none=>rw[f]at q;exact q.elim
   |some w=>
    cases o:k8 xs with
    |none=>rw[f,o]at q;exact q.elim
    |some M=>
     cases n:M.findIdx? λz=>fS z w with
     |none=>rw[f,o]at q;simp only[gk]at q;rw[n]at q;exact q.elim
     |some j=>
      rw[f,o]at q;simp only[gk]at q;rw[n]at q;obtain⟨rfl,hf⟩:=xx T o;rw[j7 P f];rw[UX]at n;obtain⟨D,h6,h7⟩:=n;refine⟨a,O,w,j,rfl,rfl,W,uA f,hf,D,λz g=>?_,λm z Z g=>?_,q F1 S1 H1 C (bq.refl ..) _ rfl⟩
      .rw[eM D]at g;cases g;exact h6
      .have:=h7 m Z;rw[eM ∅]at g;cases g;simpa using this
end
def gK(g:Tx):List Tx->Tx
 |[]=>[]
 |[x]=>x
 |x::y::r=>x++g++gK g (y::r)
theorem Eu(a b:Tx):tS (a++b)=tS a++tS b:=by apply Str.ext';simp[tS,Str.cps_append]
theorem Ha(g:Tx):∀a:List Tx,Str.join (tS g) (a.map tS)=tS (gK g a)
 |[]=>rfl
 |[x]=>rfl
 |x::y::r=>by show tS x++tS g++Str.join (tS g) ((y::r).map tS)=tS (x++g++gK g (y::r));rw[Ha g (y::r),Eu,Eu]
theorem HA(g:Tx)(a:List Tx):Txt.join (tS g) (a.map tS)=tS (gK g a):=by unfold Txt.join;rw[StrLaws.glued_eq_join,Ha]
theorem LW(c:Nat)(x:Tx):xm [c] x=x.contains c:=by unfold xm;have:=StrLaws.found_one (tS x) c;rw[jw]at this;rw[show(tS [c])=⟨#[c]⟩from rfl,this];simp[List.contains_eq_mem]
theorem Cg:∀{b:List Tx}{a:List ai},bt (cR b) a->c8 a (b.map tS)
 |[],_,r=>by cases r;exact .nil
 |x::b,_,r=>by
  cases r with
  |cons d c=>obtain⟨t,rfl⟩:=d;exact .cons _ t (Cg c)
section
variable{X:Cx}{K:ay}
def mI(g:Tx)(a:List Tx):Nat:=(a.map ln).sum+a.length*g.length
theorem GY(g:Tx):∀a,(gK g a).length<=mI g a
 |[]=>jY _
 |[x]=>by simp[gK,mI]
 |x::y::r=>by have h:=GY g (y::r);show(x++g++gK g (y::r)).length<=_;generalize gK g (y::r)=z at h;unfold mI at *;simp only[fz,cn,mX,cE,Nat.add_mul]at *;lia
def AS(K:ay):V->List V->Hp->VK->Prop:=λx xs H Q=>∃g p a,x=tV g/\xs=[.ref p]/\(b_ K H p (cR a)\/cL K H p (cR a))/\mI g a<=bj/\Q (tV (gK g a)) H
theorem MN:vO X "str.join" (AS X.K):=by
 intro A s y H x xs v z Q I m o h;obtain⟨g,p,b,rfl,rfl,d,w,q⟩:=h;obtain⟨t,rfl⟩:=m;obtain⟨u,rfl,n⟩:=vals1 o;cases n;have c:((b.map tS).map (·.length)).sum+(b.map tS).length*(tS g).length<=16777216:=by
  have e:((b.map tS).map (·.length))=b.map ln:=by rw[dA];exact ji λa _=>kT a
  rw[e,cN,kT];unfold mI bj at w;lia
 rcases d with d|d
 .obtain⟨l,i,j,r⟩:=I.list d;exact join_list j.isList (by simpa using Cg i) c λf k=>⟨tV (gK g b),H,I.tok _,(by rw[HA];exact⟨f,rfl⟩),q⟩
 .obtain⟨l,i,j,r⟩:=I.tuple d;exact join_tuple j (by simpa using Cg i) c λf k=>⟨tV (gK g b),H,I.tok _,(by rw[HA];exact⟨f,rfl⟩),q⟩
def PM(K:ay)(r:V->List V->Hp->VK->Prop)(f:Tx->List PV->Option PV):Prop:=∀(F:af->Prop) (H:Hp) (x:Tx) (xs:List PV) (b:List V) (Q:VK) (pv:PV),x.length<=bj->Reps K H F xs b->f x xs=aa pv->(∀w c a,Al F c H a->aY K a c pv w->Q w a)->r (tV x) b H Q
def Hk:PV->Option Tx
 |.str x=>aa x
 |_=>ae
def A6(f:Tx->List PV->Option PV)(d:ac PV)(l:ac (List PV)):ac PV:=λc=>(d c).bind λx a=>(aM (Hk x) a).bind λy a=>(l a).bind λg b=>aM (f y g) b
variable{E:XK}{o e:aC}{j:List aC}{d:ac PV}{l:ac (List PV)}{c:Str}{i b:Pos}{m:String}{r:V->List V->Hp->VK->Prop}{f:Tx->List PV->Option PV}
theorem OC(n:PySem.Slot "str" c m)(N:typeOf (.builtin m)=pure (.type "method_descriptor"))(hm:vO X m r)(Z:PM X.K r f)(ho:DE X E o d)(ha:DA X E (e::j) l)(T:kr o c X.env (aX o X.env)=aX o X.env:=by rfl)(Aa:((c7 b (aU (e::j) X.env)).all (λx=>!x.1)&&(pi b (pq [] X.env)).all (λx=>x.1.isSome)&&decide ((e::j).length+([]:List jD).length+(if([]:List jD).isEmpty then 0 else 1)<30))=ah:=by rfl)(P:(i.endLine == b.line)=ah:=by rfl) (Y:aU (e::j) X.env=(aj,aX e X.env)::aU j X.env:=by rfl) (D6:(c7 b (aU j X.env)).any (·.1)=aj:=by rfl):DE X E (.Call (.Attribute o c i) (e::j) [] b) (A6 f d l):=λF S C s H Q J h=>by
 refine b9 (vD PySem.F.plainAttrs_str n N hm bQ gS T Aa P Y D6) (ho F S C s H _ J ((Ok.bind h).imp λx g B z A M g1 q v I=>?_));cases x <;> first|exact(show False from q).elim|skip
 rename_i y;obtain⟨rfl,W⟩:=I;refine⟨rfl,?_⟩;have q:Ok X.K E s B z A ((l g).bind λD a=>aM (f y D) a) _:=q;refine ha B z g s A _ M ((Ok.bind q).imp λxs a F2 S2 H2 L g2 p G O=>?_);cases e:f y xs with
 |none=>rw[e]at p;exact p.elim
 |some pv=>rw[e]at p;exact Z F2 H2 y xs G Q pv W O e λw F' H' al u=>p F' S2 H' (L.al al) al.grow w u
def xK(g:Tx):List PV->Option PV
 |[.lst xs]=>(fI xs).bind λa=>if mI g a<=bj then aa (.str (gK g a))else ae
 |[.tup xs]=>(fI xs).bind λa=>if mI g a<=bj then aa (.str (gK g a))else ae
 |_=>ae
theorem P6:PM K (AS K) xK:=λF H g xs D Q pv G z e q=>by
 have u:∀(w:List PV) (p:af) (h:List V),Reps K H F w h->(b_ K H p h\/cL K H p h)->((fI w).bind λs=>if mI g s<=bj then aa (PV.str (gK g s))else ae)=aa pv->AS K (tV g) [.ref p] H Q:=λw p h n C e=>by
  cases x:fI w with
  |none=>rw[x]at e;cases e
  |some s=>
   rw[x,gk]at e;split at e
   .rename_i A;cases e;have B:=(Vr.mp (p_ x ▸ n)).1;subst B;exact⟨g,p,s,rfl,rfl,C,A,q _ F H (Al.refl ..) ⟨rfl,cX (GY g s) A⟩⟩
   .cases e
 unfold xK at e;split at e
 .obtain⟨v,rfl,a,h,rfl,y,_,n⟩:=fU z;exact u _ a h n (.inl (.inl y)) e
 .obtain⟨v,rfl,a,h,rfl,y,n⟩:=fU z;exact u _ a h n (.inr (cL.of y)) e
 .cases e
end
theorem Uf:fillsNumberSlot (.type "tuple") "mul"=pure aj :=PySem.fillsNumberSlot_seq (id:="tuple.__mul__") (r:=aa (.builtin "tuple.__rmul__")) F.slot_tuple_mul.lookup (by decide +kernel) F.slot_tuple_rmul.lookup (by decide +kernel)
theorem QE:seqRepeat? (.type "tuple")=pure (aa (.builtin "tuple.__mul__")):=by unfold seqRepeat?;rw[PySem.seqSlot_of (T:="tuple") (name:="__mul__") (id:="tuple.__mul__") F.slot_tuple_mul.lookup (by decide +kernel),PySem.seqSlot_of (T:="tuple") (name:="__rmul__") (id:="tuple.__rmul__") F.slot_tuple_rmul.lookup (by decide +kernel)];rfl
theorem UJ(a:Int)(t:Tok)(l:af)(b:Array ai)(n:Nat)(i:Option af)(f:Array (Option ai)):Meets (Builtin.«int.__rmul__» ⟨[.int a t,.ref l],[]⟩) (λ_ R s=>s.heap.get? l=aa {cls:=.type "tuple",dict:=i,data:=.seq b n,slots:=f}/\R (.ok (.ret Value.notImplemented)) s) :=.of_wp λc w A R s h=>by obtain⟨o,g,d,j,m⟩:=s;obtain⟨p,h⟩:=h;wp_walk;exact⟨_,rfl,h⟩
theorem OA(l:af)(a:Array ai)(n:Nat)(j:Option af)(c:Array (Option ai))(x:Int)(u:Tok)(i:(decide (x < -(2^63))||decide (x ≥ 2^63))=aj)(z:(a.isEmpty||x == 1)=aj)(y:(decide (x<=0)||a.isEmpty)=aj)(f:¬(a.size*x > (2^63-1) / 8))(v:Builtin.Tuple.tupleTooMany (a.size*x)=aj)(r:((bE x.toNat a).foldl (·++·) #[]).size<=bf):Meets (Builtin.«tuple.__mul__» ⟨[.ref l,.int x u],[]⟩) (λ_ R s=>s.heap.get? l=aa {cls:=.type "tuple",dict:=j,data:=.seq a n,slots:=c}/\R (.ok (.ret (.ref s.heap.objs.size))) {s with heap:=s.heap.push {cls:=.type "tuple",data:=.seq ((bE x.toNat a).foldl (·++·) #[])}}) :=
 .of_wp λb w A R s h=>by
  obtain⟨p,g,d,m,o⟩:=s;obtain⟨q,h⟩:=h
  wp_walk
  refine wpAny_ite_false (decide_eq_false (by rw[i];exact eX)) ?_
  wp_walk
  refine wpAny_ite_false (decide_eq_false f) ?_
  wp_walk
  exact⟨_,rfl,h⟩
section
variable{X:Cx}{K:ay}
def Hw(K:ay):R2:=λx y H Q=>∃a k xs,x=.ref a/\y=.int k/\cL K H a xs/\xs≠[]/\2<=k/\k<=1000/\xs.length<=1000/\∀p,H p=ae->Q (.ref p) (upd H p (.tup (bE k.toNat xs).flatten))
theorem UK:bT X (il .Mult) (Hw X.K):=by
 intro ag s W H x y v u Q I D C h;obtain⟨l,k,xs,rfl,rfl,L,P,h1,M,G,q⟩:=h;cases D;obtain⟨t,rfl⟩:=C;obtain⟨a,r,E,_⟩:=I.tuple L;obtain⟨⟨O,m,p,d⟩,c,i,n,g⟩:=id E;simp only at i g;subst i g;have Z:=r.length;have S:a≠[]:=λz=>P (r.nil_iff.mp z);have j:List.foldl (λA w=>A++w) #[] (bE k.toNat a.toArray)=(bE k.toNat a).flatten.toArray:=by have:=foldl_rep a k.toNat [];rw[kw]at this;exact this
 have f:a.toArray.isEmpty=aj:=by cases a with|nil=>exact absurd rfl S|cons=>rfl
 have N:(k == 1)=aj:=by rw[beq_eq_false_iff_ne];lia
 have Ag:a.toArray.size*k<=1000000:=by
  rw[cM];have J:(a.length:Int)<=1000:=∅
  have:=Int.mul_le_mul J M ∅ ∅;lia
 refine wpAny_binaryOp_repeat_ref (T:="tuple") (U:="int") (by decide) ⟨_,c,rfl⟩ (λB=>zv B k t) Uf F.fills_int_mul Dm QE F.slot_int_index.lookup
  (rh Dm (zv s k t) F.entry_int_rmul (F.args_int_rmul_2 _ _) (UJ k t l a.toArray n m d) ⟨c,rfl,⟨_,c,rfl⟩,rh F.slot_tuple_mul ⟨_,c,rfl⟩ F.entry_tuple_mul (F.args_tuple_mul_2 _ _) (OA l a.toArray n m d k t ?_ ?_ ?_ ?_ ?_ ?_) ⟨c,?_⟩⟩)
 .rw[decide_eq_false ∅,decide_eq_false ∅];rfl
 .rw[f,N];rfl
 .rw[f,decide_eq_false ∅];rfl
 .lia
 .unfold Builtin.Tuple.tupleTooMany;exact decide_eq_false (by rw[lO];lia)
 .rw[j,cM,ye,lO];have:=tT (show k.toNat<=1000 by lia) (show a.length<=1000 by lia);lia
 .rw[j];refine⟨.ref s.heap.objs.size,_,I.laid (t':=s.toks) (o:=.tup (bE k.toNat xs).flatten) (λb Y q=>bw _ q) (aZ _) ?_,rfl,q _ (I.hok.fresh (aZ _))⟩;refine⟨?_,_,r.rep k.toNat,IY.new _ _⟩;rw[ye,lO];have:=tT (show k.toNat<=1000 by lia) G;lia
theorem _root_.Pu.Reps.rep{H:Hp}{F:af->Prop}{xs:List PV}{a:List V}(r:Reps K H F xs a):∀n:Nat,Reps K H F (bE n xs).flatten (bE n a).flatten
 |0=>rfl
 |n+1=>by rw[pr,pr,tJ,tJ];exact r.app (r.rep n)
def xQ:PV->PV->Option PV
 |.tup xs,.int k=>if xs≠[]/\2<=k/\k<=1000/\xs.length<=1000 then aa (.tup (bE k.toNat xs).flatten)else ae
 |_,_=>ae
theorem Uh:P2 K (Hw K) xQ:=λF H x y v u Q pv i g e q=>by
 unfold xQ at e;split at e
 .split at e
  .rename_i xs k h;cases e;obtain⟨a,f,rfl,j,b⟩:=i;have d:=b.len;exact⟨a,k,f,rfl,g,cL.of j,(λz=>h.1 (by rw[z]at d;exact pB d.symm)),h.2.1,h.2.2.1,∅,λp c=>q _ F _ (Al.new0 c) ⟨p,_,rfl,upd_same,(Al.new0 c).reps (b.rep _)⟩⟩
  .cases e
 .cases e
end
section
variable{X:Cx}{E:XK}{n:d9}{x:Str}{N':List Str}{cap:List Nat}
variable{pin:List Nat}
theorem L9{F:af->Prop}{S:Nat->af->Prop}{m:ak}{f:St}{H:Hp}{D:lG}{i:Nat}{dn:ac PO}(P:i∉pin)(rl:aS X.K F S m f H)(h:gT X.K E pin f F S H (bM i (dF dn) m) D):Ok X.K E f F S H (dn m) (λr _ q u l=>∀a d,gd X.K l q r a d->(∀b,d b->H b=ae/\¬q b/\¬U u b/\∃o,l b=aa o/\ef o)->D.nx (f.set i (aa (.ref a))) l):=by
 unfold bM dF at h;cases s:dn m with
 |no=>rw[s]at h;exact h.elim
 |er c I=>rw[s]at h;exact λx q u l M Z=>h x q u f l M Z (jn.refl _ _)
 |ok r G=>
  rw[s]at h;intro B A p L j a d N v;cases r with
  |dK g=>exact h.elim
  |lls kJ=>exact h.elim
  |ins C fs=>exact h.elim
  |dT g=>exact h.elim
  |dN g=>exact h.elim
  |inl C fs y xs=>exact h.elim
  |lst xs=>
   have W:∀b,d b->¬U A b/\∃o,p b=aa o:=λb z=>let ⟨_,_,x3,o,x4,_⟩:=v b z;⟨x3,o,x4⟩
   obtain⟨⟨J,Q,O⟩,T⟩:=N;have Y:bq (U S) (U A) F (λb=>B b\/d b) H p:=⟨λb z=>.inl (j.fro b z),j.keep,j.there,λb z=>z.elim (j.fnew b) λw=>.inr (.inl (v b w).1),j.onew⟩
   have K:aY X.K p (λb=>B b\/d b) (.lst xs) (.ref a):=⟨a,J,rfl,.inl Q,.inr ((T a).mpr rfl),Reps.mono (λ_ z=>.inl z) (λ_ _ _ z=>z) (λ_ _ z _=>z) _ _ O⟩
   exact h _ _ _ p ((L.more W).set K) (Y.trans (bq.less i)) (jn.set P)
section
variable{c a:aC}{y:Str}{g j f d:Pos}{l:ac (List PV)}{dt:ac Bool}{de:ac PV}{m:ac PO}{b:List aC}
theorem Ew(i:Nat)(T:X.N.Nodup)(B:jr X n x N' cap)(P:X.calm=ah)(M:DI X E (.Name x g) a l)(J:∀C o p r q,DF (cD X n N' C o p r q) E0 b dt) (O:∀C o p r q,DE (cD X n N' C o p r q) E0 c de)(L:i∉pin:=by decide) (A:X.N[i]?=aa y:=by rfl) (G:Loc X.env.scope y:=by first|exact Or.inl rfl|exact Or.inr rfl) (z:lj (.ListComp c [⟨.Name x g,a,b,0⟩] n f) (aa (.Name y j)) d.line X.env=pure ah:=by rfl)(N:X.fn y=ah\/X.env.scope.names.lookup y=aa .local:=by first|exact .inl rfl|exact .inr rfl) (K:∀x,mL a X.env x=pure x:=by intro _;rfl):DS X E pin (.Assign [.Name y j] (.ListComp c [⟨.Name x g,a,b,0⟩] n f) d) (bM i (dF (cW cap l dt de))):=λF S W u H D w h=>iM (T2 (wi:=tu X (.Name x g) a) (ts:=λu H Q=>∀C o p r q,yo (cD X n N' C o p r q) b u H Q) (te:=λu H Q=>∀C o p r q,jo (cD X n N' C o p r q) c u H Q) B P zj (λC o p r q v s u H Q I h=>(h C o p r q).run v s I) (λC o p r q v s u H Q I h=>(h C o p r q).run v s I) T A G z N K) (GG M J O w (L9 L w h))
end
end
def fV(a:List Nat):Nat->ak->Bool
 |_,[]=>ah
 |i,.own c::b=>a.contains i&&gM c&&fV a (i+1) b
 |i,_::b=>fV a (i+1) b
theorem sw{c:List Nat}:∀{b:ak}{k:Nat},fV c k b=ah->∀(i:Nat) a,b[i]?=aa (.own a)->k+i∈c/\gM a=ah
 |[],_,_,i,a,e=>by simp at e
 |.own q::b,k,h,0,a,e=>by simp only[List.getElem?_cons_zero,Option.some.injEq,Slot.own.injEq]at e;subst e;simp only[fV,g7]at h;exact⟨by simpa using h.1.1,h.1.2⟩
 |.own q::b,k,h,i+1,a,e=>by simp only[fV,g7]at h;have:=sw (k:=k+1) h.2 i a (~~~e);rwa[wb,zN]at this
 |.val q::b,k,h,0,a,e=>by simp at e
 |.none::b,k,h,0,a,e=>by simp at e
 |.val q::b,k,h,i+1,a,e=>by have:=sw (k:=k+1) (by simpa[fV]using h) i a (~~~e);rwa[wb,zN]at this
 |.none::b,k,h,i+1,a,e=>by have:=sw (k:=k+1) (by simpa[fV]using h) i a (~~~e);rwa[wb,zN]at this
def bv(len:Nat)(b:List Nat)(g:ac Slot):ac Slot:=λa=>if a.length=len/\fV b 0 a=ah then g a else .no
theorem dP{q:gA}{P:aN}{w:aG}{K:ay}{o:Str->Option ai}{g:aB}{x:Str}{c:a8}{N b:List Str}{k n:Nat}{d:ac aK}{pin:List Nat}(D:cU K o x c)(G:cy N b (a_ c))(y:N.length=b.length+n)(B:∀(kV p u:ai) (F:Option af) (l C:ai) (m:List ai),m.length=b.length->gF (jh x x (j_ c) (gD c) (a_ c) .none kV p u F l C) ⟨m,[]⟩=pure (b.zip m))(v:∀(f:af) (l:ai) (A:aT) (j:List Env) (s:am) (H:Hp) (E:XK),eT k (A.deeper (jC x (a_ c) s.heap.objs.size f l))->gz (js q P w K o g N x (a_ c) f l A j s H E) E pin (gD c) d):cP q P w K o g x (k+1) b (bB K (bv b.length pin (bu n d))):=by
 have no:∀{a},bv b.length pin (bu n d) a≠.no->a.length=b.length/\fV pin 0 a=ah:=λ{a} h=>by
  unfold bv at h;by_cases z:a.length=b.length/\fV pin 0 a=ah
  .exact z
  .rw[if_neg z]at h;exact absurd rfl h
 exact UH D G y B (λa h=>(no h).1) (λa h i r e=>by have:=sw (no h).2 i r e;rwa[tZ]at this) (λa h=>by unfold bv;rw[if_pos (no h)]) v
theorem On{f:af}{r:gh}{u:gA}{P:aN}{w:aG}{K:ay}{q:Str->Option ai}{j:aB}{x a:Str}{g:a8}{N c:List Str}{k n:Nat}{d:ac aK}{pin:List Nat}(J:qr K x a g f r)(I:cy N c (a_ g))(C:N.length=c.length+n)(D:∀(kV p y:ai) (G:Option af) (m F:ai) (o:List ai),o.length=c.length->gF (jh x a (j_ g) (gD g) (a_ g) .none kV p y G m F) ⟨o,[]⟩=pure (c.zip o))(B:∀(f:af) (m:ai) (A:aT) (l:List Env) (s:am) (H:Hp) (E:XK),eT k (A.deeper (jC a (a_ g) s.heap.objs.size f m))->gz (js u P w K q j N a (a_ g) f m A l s H E) E pin (gD g) d):jP P w K q j u (k+1) f r c (bB K (bv c.length pin (bu n d))):=by
 have no:∀{b},bv c.length pin (bu n d) b≠.no->b.length=c.length/\fV pin 0 b=ah:=λ{b} h=>by
  unfold bv at h;by_cases z:b.length=c.length/\fV pin 0 b=ah
  .exact z
  .rw[if_neg z]at h;exact absurd rfl h
 exact GT J I C D (λb h=>(no h).1) (λb h i v e=>by have:=sw (no h).2 i v e;rwa[tZ]at this) (λb h=>by unfold bv;rw[if_pos (no h)]) B
theorem MK{P:aN}{w:aG}{K:ay}{o:Str->Option ai}{g:aB}{x:Str}{c:a8}{N b:List Str}{k n:Nat}{d:ac aK}{pin:List Nat}(D:cU K o x c)(E:cy N b (a_ c))(v:N.length=b.length+n)(y:∀(kV p r:ai) (C:Option af) (l B:ai) (m:List ai),m.length=b.length->gF (jh x x (j_ c) (gD c) (a_ c) .none kV p r C l B) ⟨m,[]⟩=pure (b.zip m))(u:∀(f:af) (l:ai) (A:aT) (j:List Env) (s:am) (H:Hp),kY k (A.deeper (jC x (a_ c) s.heap.objs.size f l))->gz (vI P w K o g N x (a_ c) f l A j s H) E0 pin (gD c) d):xR P w K o g x (k+1) b (bB K (bv b.length pin (bu n d))):=by
 have no:∀{a},bv b.length pin (bu n d) a≠.no->a.length=b.length/\fV pin 0 a=ah:=λ{a} h=>by
  unfold bv at h;by_cases z:a.length=b.length/\fV pin 0 a=ah
  .exact z
  .rw[if_neg z]at h;exact absurd rfl h
 exact Kl D E v y (λa h=>(no h).1) (λa h i q e=>by have:=sw (no h).2 i q e;rwa[tZ]at this) (λa h=>by unfold bv;rw[if_pos (no h)]) u
theorem Ih{P:List ai->Prop}(h:∀a,P [a])(c:List ai)(d:c.length=1):P c:=by
 cases c with
 |nil=>cases d
 |cons a r=>cases r with
  |nil=>exact h a
  |cons b r=>cases d
theorem IB{P:List ai->Prop}(h:∀a b,P [a,b])(c:List ai)(d:c.length=2):P c:=by
 cases c with
 |nil=>cases d
 |cons a r=>exact Ih (P:=λr=>P (a::r)) (h a) r (Do d)
theorem FE{P:List ai->Prop}(h:∀a b c,P [a,b,c])(d:List ai)(f:d.length=3):P d:=by
 cases d with
 |nil=>cases f
 |cons a r=>exact IB (P:=λr=>P (a::r)) (h a) r (Do f)
theorem TD{P:List ai->Prop}(h:∀a b c d,P [a,b,c,d])(f:List ai)(g:f.length=4):P f:=by
 cases f with
 |nil=>cases g
 |cons a r=>exact FE (P:=λr=>P (a::r)) (h a) r (Do g)
theorem Vz{d:gh}{c:List Str}(h:∀a,gF d ⟨[a],[]⟩=pure (c.zip [a]))(b:List ai)(f:b.length=1):gF d ⟨b,[]⟩=pure (c.zip b):=Ih (P:=λb=>gF d ⟨b,[]⟩=pure (c.zip b)) h b f
theorem Vn{f:gh}{d:List Str}(h:∀a b,gF f ⟨[a,b],[]⟩=pure (d.zip [a,b]))(c:List ai)(g:c.length=2):gF f ⟨c,[]⟩=pure (d.zip c):=IB (P:=λc=>gF f ⟨c,[]⟩=pure (d.zip c)) h c g
theorem Vw{g:gh}{f:List Str}(h:∀a b c,gF g ⟨[a,b,c],[]⟩=pure (f.zip [a,b,c]))(d:List ai)(i:d.length=3):gF g ⟨d,[]⟩=pure (f.zip d):=FE (P:=λd=>gF g ⟨d,[]⟩=pure (f.zip d)) h d i
theorem VJ{i:gh}{g:List Str}(h:∀a b c d,gF i ⟨[a,b,c,d],[]⟩=pure (g.zip [a,b,c,d]))(f:List ai)(j:f.length=4):gF i ⟨f,[]⟩=pure (g.zip f):=TD (P:=λf=>gF i ⟨f,[]⟩=pure (g.zip f)) h f j
theorem jy{P:aN}{w:aG}{X:Cx}:sQ (cf P w) X E0:=λ_ _ _ _ _ _ _ h=>by obtain⟨a,T,c,b,_,_,_,_,_,_,_,z⟩:=h;exact z.elim
theorem i8:fk "len"=aa (.builtin "len"):=by decide +kernel
theorem IL:fk "all"=aa (.builtin "all"):=by decide +kernel
theorem QH:fk "any"=aa (.builtin "any"):=by decide +kernel
theorem u_:fk "sorted"=aa (.builtin "sorted"):=by decide +kernel
theorem hV:fk "isinstance"=aa (.builtin "isinstance"):=by decide +kernel
theorem QV:fk "int"=aa (.type "int"):=by decide +kernel
theorem QI:fk "bool"=aa (.type "bool"):=by decide +kernel
theorem Gu:fk "str"=aa (.type "str"):=by decide +kernel
theorem M8:fk "list"=aa (.type "list"):=by decide +kernel
theorem AV:fk "tuple"=aa (.type "tuple"):=by decide +kernel
theorem Ba:fk "set"=aa (.type "set"):=by decide +kernel
theorem Si:fk "ValueError"=aa (.type "ValueError"):=by decide +kernel
def mE:aC->Bool
 |.Starred _ _=>ah
 |_=>aj
theorem iy{e:aC}{b:List aC}{a:Env}(h:mE e=aj):aU (e::b) a=(aj,aX e a)::aU b a:=by
 cases e <;> first|rfl|cases h
section
variable{X:Cx}{E:XK}{e:aC}{a:List aC}{d:ac PV}{b:ac (List PV)}{c:ac (List bX)}
theorem aw(g:DE X E e d)(f:DA X E a b)(h:mE e=aj:=by rfl):DA X E (e::a) (ap d b):=O7 g f (iy h)
theorem bi(g:DE X E e d)(f:DG X E a c)(h:mE e=aj:=by rfl):DG X E (e::a) (gV d c):=Mt g f (iy h)
end
def vf:List ai:=[.type "ValueError",.type "Exception",.type "BaseException",.type "object"]
theorem Cb{K:ay}{h:aB}{C:af}{B:List ai}{nw:String}(X:K.In h)(q:pJ K C B nw=ah):∃i N w p bs E j a G c F D A z y x g,h.get? C=aa (Dk w p C N bs i E j a G c F D A z y x nw)/\h.Ns N g/\g "__init__"=ae/\OwnTail h B i:=by
 unfold pJ at q;split at q
 case h_2=>cases q
 case h_1 d0 cdata slots look=>
  split at q
  case h_2=>cases q
  case h_1 C2 tl s0 s1 s2 s3 nn s5 em es=>
   rw[g7,g7,g7,g7,g7]at q;obtain⟨⟨⟨⟨⟨v,u⟩,f⟩,s⟩,b⟩,r⟩:=q;have o:=beq_iff_eq.mp v;have n:=beq_iff_eq.mp u;have d:=beq_iff_eq.mp r;subst o n;cases cdata;dsimp only at em f b d;subst em;have m:=JN _ |>.mp f
   subst m;have l:slots=#[s0,s1,s2,s3,aa (.builtin nn),s5]:=by cases slots;exact congrArg Array.mk es
   subst l;exact⟨tl,_,_,_,_,_,_,_,_,_,d0,s0,s1,s2,s3,s5,_,X _ _ look,Heap.Ns.of_isNs (PySem.W.isNs_of_in X b),PySem.W.nsMap_none_of_in X b d,PySem.W.tail_of_in X s⟩
theorem AD{K:ay}{h:aB}{a:Str->Option ai}{x:Str}{C:af}{B:List ai}{nw:String}(X:K.In h)(e:a x=aa (.ref C))(q:pJ K C B nw=ah):OwnCls x C B nw a h:=⟨e,Cb X q⟩
theorem S5{K:ay}{h:aB}{C:af}{nw:String}(X:K.In h)(q:pJ K C vf nw=ah):qP h C:=by obtain⟨p,N,f,d,bs,n,c,a,r,b,o,m,l,j,i,g,s,e,_,_,t⟩:=Cb X q;exact⟨p,N,f,d,bs,n,c,a,r,b,o,m,l,j,i,g,nw,e,t.hasType rfl⟩
def subB(K:ay)(D C:af):Bool:=match K.lookup C with
 |some ⟨_,_,.cls a,_⟩=>a.mro.contains (.ref D)
 |_=>aj
theorem Na{K:ay}{h:aB}{C D:af}{B:List ai}{nw:String}(X:K.In h)(q:pJ K C B nw=ah)(s:subB K D C=ah):Under h D (.ref C):=by
 obtain⟨r,N,g,f,bs,o,d,a,u,c,p,n,m,l,j,i,y,e,_⟩:=Cb X q;refine⟨C,r,N,g,f,bs,o,d,a,u,c,p,n,m,l,j,i,nw,rfl,e,?_⟩;unfold subB at s;split at s
 .rename_i x w z v look;have b:=X _ _ look;rw[e]at b;unfold Dk at b;cases b;exact s
 .cases s
def yh(K:ay)(C:af):Bool :=
 q8 K (.ref C) "__getattribute__" == aa (aa (.builtin "BaseException.__getattribute__"))&&q8 K (.ref C) "__getattr__" == aa ae&&q8 K (.ref C) "__class__" == aa (aa (.builtin "object.__class__")) &&
 Jf K (.builtin "object.__class__") "__get__" == aa (aa (.builtin "getset_descriptor.__get__"))&&PySem.W.takesIn K (.builtin "object.__class__") == aa ah&&zr K C (.type "object") == aa ah&&zr K C (.type "BaseException") == aa ah&&(Dl K C).isSome
theorem FJ{K:ay}{C:af}(h:yh K C=ah):oZ K C:=by simp only[yh,g7,beq_iff_eq]at h;obtain⟨⟨⟨⟨⟨⟨⟨j,i⟩,g⟩,f⟩,d⟩,c⟩,b⟩,a⟩:=h;exact⟨j,i,g,f,d,c,b,a⟩
def Ah(K:ay):Bool:=K.all λp=>match p.2.cls with
 |.type t=>t != "list"
 |_=>ah
theorem HQ{a:af}{o:Obj}:∀{K:ay},K.lookup a=aa o->(a,o)∈K
 |[],e=>by cases e
 | (b,u)::K,e=>by
  rw[lr]at e;cases q:a == b with
  |true=>rw[q]at e;cases e;rw[beq_iff_eq.mp q];exact fK ..
  |false=>rw[q]at e;exact eJ _ (HQ e)
theorem GM{K:ay}{H:Hp}{F:af->Prop}:∀a:List Int,Reps K H F (a.map .int) (a.map V.int)
 |[]=>rfl
 |x::a=>⟨.int x,a.map V.int,rfl,rfl,GM a⟩
theorem Ss{K:ay}{H:Hp}{a:af}{xs:List V}(h:Ah K=ah)(s:b_ K H a xs):Rd H a (.lst xs):=by
 rcases s with s|⟨o,c,n,b,d,_⟩
 .exact s
 .have:=tP.mp h _ (HQ b);rw[d]at this;simp at this
theorem Tu{K:ay}{g:ac Slot}{H:Hp}{a:af}{c:List Int}{E:XK}(d:Rd H a (.lst (c.map V.int)))(h:g [.val (.lst (c.map .int))]=.ok (.val (.bl ah)) [.val (.lst (c.map .int))]):bB K g [.ref a] H (λv _=>v=.bl ah) E:=by
 refine⟨λb=>b=a,λ_ _=>False,[.val (.lst (c.map .int))],⟨rfl,λb e=>?_,λi pv e=>?_,λi l e=>?_,λi b z=>z.elim,λi j b z=>z.elim⟩,?_⟩
 .subst e;rcases d with d|⟨o,d⟩ <;> exact⟨_,d⟩
 .cases i with
  |zero=>cases e;exact⟨_,rfl,a,_,rfl,d,rfl,GM c⟩
  |succ i=>simp at e
 .cases i with
  |zero=>cases e
  |succ i=>simp at e
 .rw[h];exact λv q n p m _ _ f _ _=>f.1
theorem VE{K:ay}{x:Str}{i:Int}{t:Tok}(e:cS K bU x=aa (aa (.int i t))):∃t,cS K bU x=aa (aa (.int i t)):=⟨t,e⟩
theorem VA{K:ay}{x:Str}{l:Tx}{t:Tok}(e:cS K bU x=aa (aa (.str (tS l) t))):∃t,cS K bU x=aa (aa (.str (tS l) t)):=⟨t,e⟩
def dj(K:ay)(x:Str)(a:a8):Prop:=∃f oc g kV h d j b i c,cS K bU x=aa (aa (.ref f))/\K.lookup f=aa ⟨oc,g,.func (jh x x (j_ a) (gD a) (a_ a) .none kV h d j b i),c⟩/\vV K b x=ah/\n9 K (.ref f)=ah
theorem Vl{K:ay}{x:Str}{b:a8}{f:af}{oc kV j h d m:ai}{i n:Option af}{g:Array (Option ai)}(a:cS K bU x=aa (aa (.ref f)))(l:K.lookup f=aa ⟨oc,i,.func (jh x x (j_ b) (gD b) (a_ b) .none kV j h n d m),g⟩)(c:vV K d x=ah) (k:n9 K (.ref f)=ah):dj K x b:=⟨f,oc,i,kV,j,h,n,d,m,g,a,l,c,k⟩
theorem dj.at{K:ay}{h:aB}{b:Str->Option ai}{x:Str}{st:a8}(d:dj K x st)(X:K.In h)(G:h.Ns bU b):cU K b x st:=by obtain⟨f,oc,j,kV,m,i,o,n,ct,g,a,l,c,k⟩:=d;exact⟨f,_,gn X G a,HJ l c k⟩
def jN(a:List (aE×PV))(k:aE):Option PV:=(a.find? λb=>decide (b.1=k)).map (·.2)
def oR(a:List (aE×PV))(k:aE)(v:PV):List (aE×PV):=if(a.any λb=>decide (b.1=k))=ah then a.map (λb=>if b.1=k then(b.1,v)else b)else a++[(k,v)]
def iD:PV->Option aE
 |.int i=>aa (.inl i)
 |.str x=>aa (.inr (tS x))
 |_=>ae
section
variable{K:ay}{F:af->Prop}{S:Nat->af->Prop}{ε:ak}{l:St}{H:Hp}{i:Nat}{d:List (aE×PV)}{f:List (aE×V)}{a:af}
theorem ti{x:PV}{v:V}{k:aE}(r:aY K H F x v)(e:iD x=aa k):v=kV k:=by
 cases x <;> simp[iD]at e
 .subst e;exact r
 .subst e;exact r.1
theorem ik.len(h:ik K H F d f):f.length=d.length:=by
 unfold ik at h
 induction h with
 |nil=>rfl
 |cons _ _ b=>simp[b]
theorem ik.val(h:ik K H F d f)(k:aE):(∃x v,jN d k=aa x/\jS f k=aa v/\aY K H F x v)\/(jN d k=ae/\jS f k=ae):=by
 unfold ik at h
 induction h with
 |nil=>exact .inr ⟨rfl,rfl⟩
 |@cons p q ps qs r _ ih=>
  by_cases e:p.1=k
  .refine .inl ⟨p.2,q.2,by simp[jN,kt,e],?_,r.2⟩;rw[yL (by rw[<-r.1];exact e)]
  .have b:¬q.1=k:=by rw[<-r.1];exact e
   rw[ya b];have:jN (p::ps) k=jN ps k:=by simp[jN,kt,e]
   rw[this];exact ih
theorem ik.any(h:ik K H F d f)(k:aE):(d.any λb=>decide (b.1=k))=f.any λb=>decide (b.1=k):=by
 unfold ik at h
 induction h with
 |nil=>rfl
 |cons r _ c=>rw[og,og,c,r.1]
theorem ik.put(h:ik K H F d f)(k:aE){x:PV}{v:V}(r:aY K H F x v):ik K H F (oR d k x) (fX f k v):=by
 unfold oR fX;rw[h.any k];split
 .rename_i b;clear b;unfold ik at h ⊢
  induction h with
  |nil=>exact .nil
  |@cons p q ps qs r1 _ ih=>
   refine .cons ?_ ih;dsimp only;by_cases e:p.1=k
   .rw[if_pos e,if_pos (by rw[<-r1.1];exact e)];exact⟨r1.1,r⟩
   .rw[if_neg e,if_neg (by rw[<-r1.1];exact e)];exact r1
 .exact CT h ⟨rfl,r⟩
theorem aS.dkAt(r:aS K F S ε l H)(e:ε[i]?=aa (.own (.dK d))):∃a f,l[i]?=aa (aa (.ref a))/\H a=aa (.dK f)/\ik K H F d f/\S i a/\∀b,S i b->b=a:=by obtain⟨a,n,⟨g,m,j⟩,c⟩:=r.own i _ e;exact⟨a,g,n,m,j,(c a).mpr rfl,λb h=>(c b).mp h⟩
theorem aS.updO{p po':PO}{o':HO}(r:aS K F S ε l H)(e:ε[i]?=aa (.own p))(P:gM p=ah)(G:l[i]?=aa (aa (.ref a)))(O:ef o')(h:∀A,(∀x v,aY K H F x v->aY K A F x v)->(∀x v,Reps K H F x v->Reps K A F x v)->A a=aa o'->∀J:af->Prop,(∀b,J b↔b=a)->gd K A F po' a J):aS K F S (ε.set i (.own po')) l (L2.upd H a o')/\bq (U S) (U S) F F H (L2.upd H a o'):=by
 obtain⟨Q,I,N⟩:=r.own i p e;rw[G]at I;cases I;have s:=FR N P;have C:S i a:=(s a).mpr rfl;have E:∀b,S i b->b=a:=λb z=>(s b).mp z;have B:i<ε.length:=(c_.mp e).1;have g:bq (U S) (U S) F F H (L2.upd H a o'):=⟨λ_ z=>z,λb o q n=>by rw[bh (by rintro rfl;exact n ⟨i,C⟩)];exact q,λb o q=>by
  by_cases D:b=a
  .subst D;exact⟨_,upd_same⟩
  .exact⟨o,by rw[bh D];exact q⟩,λ_ z=>.inl z,λ_ z=>.inl z⟩
 refine⟨⟨by rw[jk];exact r.len,λb z=>let ⟨o,q⟩:=r.ex b z;g.there b o q,λj pv q=>?_,λj p q=>?_,λj b z=>?_,r.dist⟩,g⟩
 .have m:i≠j:=by rintro rfl;rw[fZ B]at q;cases q
  rw[eK m]at q;obtain⟨v,y,u⟩:=r.val j pv q;exact⟨v,y,u.grow g r.fit⟩
 .by_cases m:i=j
  .subst m;rw[fZ B]at q;cases q;exact⟨a,G,h _ (λ_ _ z=>z.grow g r.fit) (λ_ _ z=>z.grow g r.fit) upd_same _ s⟩
  .rw[eK m]at q;obtain⟨c,y,u⟩:=r.own j p q;refine⟨c,y,u.mono (λ_ _ z=>z.grow g r.fit) (λ_ _ z=>z.grow g r.fit) λb o z w=>?_⟩;rw[bh (by rintro rfl;exact m (r.dist i j b C z))];exact w
 .obtain⟨⟨p,y⟩,u,o,M,L⟩:=r.foot j b z;by_cases m:i=j
  .subst m;rw[E b z];exact⟨⟨_,fZ B⟩,by rw[<-E b z];exact u,_,upd_same,O⟩
  .exact⟨⟨p,by rw[eK m];exact y⟩,u,o,by rw[bh (by rintro rfl;exact m (r.dist i j b C z))];exact M,L⟩
end
def dq(b:ak)(i:Nat):Option (List (aE×PV)):=match b[i]? with
 |some (.own (.dK a))=>aa a
 |_=>ae
theorem lL{b:ak}{i:Nat}{a:List (aE×PV)}(h:dq b i=aa a):b[i]?=aa (.own (.dK a)):=by
 unfold dq at h;split at h
 .cases h;assumption
 .cases h
section
variable{X:Cx}{E:XK}{pin:List Nat}{e b c:aC}{de db f:ac PV}{d:Pos}
def sH:ac PO:=λa=>.ok (.dK []) a
theorem Fi:DN X E (.Dict [] [] d) sH:=λF S l i H Q g h=>b9 No λp a=>by
 have al:Al F F H (upd H p (.dK [])):=Al.new0 a;refine h F S _ (g.al al) al.grow p (λb=>b=p) ⟨⟨[],upd_same,.nil⟩,λb=>ou⟩ λb z=>?_;subst z;refine⟨a,λz=>?_,λ⟨j,z⟩=>?_,_,upd_same,trivial⟩
 .obtain⟨o,q⟩:=g.ex b z;rw[a]at q;cases q
 .obtain⟨_,_,o,q,_⟩:=g.foot j b z;rw[a]at q;cases q
def nV(i:Nat)(db:ac PV):ac PV:=λg=>(aM (dq g i) g).bind λ_ g=>(db g).bind λk a=>(aM (dq a i) a).bind λh a=>aM ((iD k).bind λk=>jN h k) a
theorem Gh(i:Nat){y:Str}{A:Pos}(hu:X.A.units+64<cLine)(L:DE X E b db)(N:X.N[i]?=aa y:=by rfl)(O:fh X.env.scope y:=by first|exact Or.inl rfl|exact Or.inr (Or.inl rfl)|exact Or.inr (Or.inr rfl))(K:ad y:=by decide) (P:(y==("__classdict__":Str))=aj:=by decide) (I:Bn b:=by exact λ_ _=>rfl):DE X E (.Subscript (.Name y A) b d) (nV i db):=λF S o z H Q p h=>by
 unfold nV at h;cases n:dq o i with
 |none=>rw[n]at h;exact h.elim
 |some s=>
  rw[n]at h;simp only[cJ,R.bind_ok]at h;obtain⟨a,B,w,_⟩:=p.dkAt (lL n);refine b9 (Kx ∅ (gC N O K P) bQ I) ⟨.ref a,w,L F S o z H _ p ((Ok.bind h).imp λk j Y T W r g1 q u C=>?_)⟩;cases m:dq j i with
  |none=>rw[m]at q;exact q.elim
  |some G=>
   rw[m]at q;simp only[cJ,R.bind_ok]at q;obtain⟨a',Z,g,M,J,_⟩:=r.dkAt (lL m);rw[w]at g;cases g;cases l:iD k with
   |none=>rw[l]at q;exact q.elim
   |some D=>
    rw[l,gk]at q;rw[ti C l];rcases J.val D with⟨x,v,h1,h2,h3⟩|⟨h1,h2⟩
    .rw[h1]at q;exact⟨a,v,rfl,by rw[<-h2];exact lC.k M,q Y T W r (bq.refl ..) v h3⟩
    .rw[h1]at q;exact q.elim
def iP(i:Nat)(db f:ac PV):ac PV:=λg=>(aM (dq g i) g).bind λ_ g=>(db g).bind λk h=>(f h).bind λz a=>(aM (dq a i) a).bind λj a=>aM ((iD k).map λk=>(jN j k).getD z) a
theorem yO(i:Nat){y:Str}{j g:Pos}(hu:X.A.units+64<cLine)(hb:DE X E b db)(hc:DE X E c f)(hN:X.N[i]?=aa y:=by rfl)(fq:fh X.env.scope y:=by first|exact Or.inl rfl|exact Or.inr (Or.inl rfl)|exact Or.inr (Or.inr rfl))(hd:ad y:=by decide) (bA:(y==("__classdict__":Str))=aj:=by decide)(l:kr (.Name y j) "get" X.env (aX (.Name y j) X.env)=aX (.Name y j) X.env:=by rfl) (B:(g.endLine == d.line)=ah:=by rfl) (s1:mE b=aj:=by rfl) (Z:mE c=aj:=by rfl):DE X E (.Call (.Attribute (.Name y j) "get" g) [b,c] [] d) (iP i db f):=λF S J I H Q L h=>by
 have K:aU [b,c] X.env=[(aj,aX b X.env),(aj,aX c X.env)]:=by rw[iy s1,iy Z];rfl
 have m:M2 X (.Name y j) "get" g b c d:=⟨l,by rw[K];rfl,B,by rw[K];rfl⟩
 unfold iP at h;cases G:dq J i with
 |none=>rw[G]at h;exact h.elim
 |some M=>
  rw[G]at h;simp only[cJ,R.bind_ok]at h;obtain⟨a,Y,O,A,_⟩:=L.dkAt (lL G);refine b9 (Nx ∅ (gC hN fq hd bA) bQ bQ m) ⟨.ref a,O,a,rfl,.inl ⟨_,.inl A⟩,hb F S J I H _ L ((Ok.bind h).imp λk p F1 S1 H1 r1 g1 q u ru=>?_)⟩;refine hc F1 S1 p I H1 _ r1 ((Ok.bind q).imp λz o W P T s g2 q w r=>?_);cases D:dq o i with
  |none=>rw[D]at q;exact q.elim
  |some kvs=>
   rw[D]at q;simp only[cJ,R.bind_ok]at q;obtain⟨a',ws,n,N,hk,_⟩:=s.dkAt (lL D);rw[O]at n;cases n;cases C:iD k with
   |none=>rw[C]at q;exact q.elim
   |some ky=>
    rw[C,pG]at q;rw[ti ru C];rcases hk.val ky with⟨x,v,l,h2,B⟩|⟨l,h2⟩
    .rw[l]at q;exact⟨aa v,by rw[<-h2];exact lC.k N,q W P T s (bq.refl ..) v B⟩
    .rw[l]at q;exact⟨ae,by rw[<-h2];exact lC.k N,q W P T s (bq.refl ..) w r⟩
def fO(i:Nat)(db de:ac PV):ac aK:=λj=>(de j).bind λy g=>(aM (dq g i) g).bind λ_ g=>(db g).bind λk a=>(aM (dq a i) a).bind λh a=>(aM (iD k) a).bind λk a=>if h.length<bj then .ok .next (a.set i (.own (.dK (oR h k y))))else .no
theorem qU(i:Nat){y:Str}{G j:Pos}(hu:X.A.units+64<cLine)(hb:DE X E b db)(he:DE X E e de)(hN:X.N[i]?=aa y:=by rfl)(fq:fh X.env.scope y:=by first|exact Or.inl rfl|exact Or.inr (Or.inl rfl)|exact Or.inr (Or.inr rfl))(hd:ad y:=by decide) (bA:(y==("__classdict__":Str))=aj:=by decide) (Y:lj e (aa (.Subscript (.Name y G) b j)) d.line X.env=pure aj:=by rfl):DS X E pin (.Assign [.Subscript (.Name y G) b j] e d) (fO i db de):=λF S L o H D Q h=>by
 refine iM (Fd ∅ (gC hN fq hd bA) bQ bQ Y) (he F S L o H _ Q (h.bindE.imp λy l F1 S1 H1 r g1 q v O=>?_));cases C:dq l i with
 |none=>rw[C]at q;exact q.elim
 |some J=>
  rw[C]at q;simp only[cJ,R.bind_ok]at q;obtain⟨a,M,A,ha0,_⟩:=r.dkAt (lL C);refine⟨.ref a,A,hb F1 S1 l o H1 _ r (q.bindE.imp λk p F2 S2 H2 I g2 g u P=>?_)⟩;cases n:dq p i with
  |none=>rw[n]at g;exact g.elim
  |some w=>
   rw[n]at g;simp only[cJ,R.bind_ok]at g;obtain⟨a',N,m,ha,K,_⟩:=I.dkAt (lL n);rw[A]at m;cases m;cases B:iD k with
   |none=>rw[B]at g;exact g.elim
   |some s=>
    rw[B]at g;simp only[cJ,R.bind_ok]at g;split at g
    .rename_i Z;rw[ti P B];have gu:=K.put s (O.grow g2 r.fit);obtain⟨T,g3⟩:=I.updO (po':=.dK (oR w s y)) (o':=.dK (fX N s v)) (lL n) rfl A trivial λH' W m2 z Sa x=>⟨⟨_,z,gu.mono W⟩,x⟩
     exact⟨a,_,rfl,zo.k ha (by rw[K.len];exact gE Z mz),g F2 S2 o _ T g3 (jn.refl _ _)⟩
    .exact g.elim
end
section
variable{X:Cx}
def iN(a d:af):HO:=.ext λh=>h.IsValuesView a d
theorem GX:vO X "dict.values" (λx xs H Q=>∃d b,x=.ref d/\xs=[]/\H d=aa (.dK b)/\∀a,H a=ae->Q (.ref a) (upd H a (iN a d))):=by
 intro A s r H x xs v u Q I g i h;obtain⟨d,b,rfl,rfl,p,q⟩:=h;cases g;cases i.zero;obtain⟨z,n,f,j,c⟩:=yC I.hok p;refine call_meetsIn JO c.typeIs PySem.F.entry_dict_values (PySem.F.args_dict_values_1 _) (meets_dict_values (gP X.prog X.w) d n) ⟨⟨f,c⟩,?_⟩;refine⟨.ref s.heap.objs.size,_,I.laid (a:=s.heap.objs.size) (o:=iN s.heap.objs.size d) (t':=s.toks) (λ_ _ q=>bw _ q) (aZ _) ?_,rfl,q _ I.fresh⟩;exact⟨⟨_,cz _ rfl,rfl,rfl⟩,⟨_,cz _ rfl⟩,λy w ⟨o,m,l⟩ k=>⟨o,k o m,l⟩⟩
theorem KV.at{a:List (aE×V)}{b:List (aE×ai)}(r:KV a b){i:Nat}{k:aE}{u:ai}(h:b[i]?=aa (k,u)):∃v,a[i]?=aa (k,v)/\RelV v u:=by
 unfold KV at r
 induction r generalizing i with
 |nil=>simp at h
 |@cons p q ps qs r1 _ ih=>
  cases i with
  |zero=>simp at h;subst h;exact⟨p.2,by simp[show k=p.1 from r1.1.symm],r1.2⟩
  |succ i=>exact ih (~~~h)
def lc(a:List (aE×V)):Option Bool:=match a with
 |[]=>aa aj
 | (_,.int i)::r=>(lc r).map λb=>(decide (i≠0))||b
 |_=>ae
theorem Gr:∀{a:List (aE×V)}{b:Bool},lc a=aa b->(∀(i:Nat) k v,a[i]?=aa (k,v)->∃n,v=.int n)/\b=(cr a.length).any λi=>match a[i]? with|aa (_,.int n)=>decide (n≠0)|_=>aj
 |[],b,h=>by simp[lc]at h;subst h;exact⟨by simp,rfl⟩
 | (k,.int n)::r,b,h=>by
  simp only[lc,mU]at h;obtain⟨l,j,g⟩:=h;obtain⟨f,d⟩:=Gr j;refine⟨λi c v e=>?_,?_⟩
  .cases i with
   |zero=>simp at e;exact⟨n,e.2.symm⟩
   |succ i=>exact f i c v (~~~e)
  .rw[cE,CY,og,List.any_map,<-g,d];rfl
 | (_,.non)::_,_,h=>by simp[lc]at h
 | (_,.bl _)::_,_,h=>by simp[lc]at h
 | (_,.str _)::_,_,h=>by simp[lc]at h
 | (_,.ref _)::_,_,h=>by simp[lc]at h
 | (_,.ty _)::_,_,h=>by simp[lc]at h
theorem MB(O:X.calm=ah):d4 X (.builtin "any") (λxs H Q=>∃(p d:af) (a:List (aE×V)) (b:Bool),xs=[.ref p]/\H p=aa (iN p d)/\H d=aa (.dK a)/\lc a=aa b/\Q (.bl b) H):=by
 intro Z s C H xs us Q I r h;obtain⟨p,d,a,b,rfl,m,N,S,q⟩:=h;obtain⟨u,rfl,E⟩:=vals1 r;cases E;obtain⟨l,_,_⟩:=(show bR X.prog X.w H s.heap p (iN p d)from I.hok p _ m)
 obtain⟨z,hs,g,f,Y⟩:=yC I.hok N;obtain⟨A,j⟩:=Y.dictAt;obtain⟨L,K⟩:=Gr S;refine call_any_walk (wpAny_pyIter_values l j ?_);refine⟨s.heap.objs.size,_,_,_,_,_,λi=>match a[i]? with|aa (_,.int n)=>decide (n≠0)|_=>aj,rfl,Walks.dictValues (uC (I.ok.hd O)) _ d (cZ j.lt_size) g A,⟨⟨_,cz _ rfl,rfl,rfl⟩,j.push _⟩,λi v s' Q' E' l y=>?_,λh' D k=>?_⟩
 .obtain⟨J,M⟩:=l;obtain⟨w,B,W⟩:=KV.at f M;obtain⟨n,rfl⟩:=L i J w B;obtain⟨t,rfl⟩:=W;dsimp only at y;rw[B]at y;exact PyProof.Rows.truthy_int (by rw[show(n != 0)=decide (n≠0) by by_cases z:n=0 <;> simp[z]];exact y)
 .have I1:Inv X Z C H {s with heap:=s.heap.push {cls:=.type "dict_valueiterator",data:=.fields #[.ref d,.int 0 0,.int g.length 0,.int A 0]},toks:=s.toks}:=I.kept (t':=s.toks) λb o e=>bw _ e;have T:(cr g.length).any (λi=>match a[i]? with|aa (_,.int n)=>decide (n≠0)|_=>aj)=b:=by rw[<-f.length];exact K.symm
  rw[T];exact⟨.bl _,H,Inv.turned (t':=D) I1 (it:=s.heap.objs.size) (λb o P e=>k b o (~~~P) e) I.fresh (tE I.lt) (.inr I.sz) (λx c e z=>by obtain⟨v,F⟩:=I.cell x c e;exact absurd F.lt (by rw[z];exact fj _)) (λG m z=>absurd (bC (I.pin G m).1) (by rw[z];exact fj _)),rfl,q⟩
end
section
variable{X:Cx}{E:XK}{pin:List Nat}{e b c:aC}{de db I:ac PV}{A:Pos}
def qK:List (aE×PV)->Option Bool
 |[]=>aa aj
 | (_,.int i)::r=>(qK r).map λb=>(decide (i≠0))||b
 |_=>ae
theorem Q8{K:ay}{H:Hp}{F:af->Prop}{a:List (aE×PV)}{d:List (aE×V)}{k:Bool}(h:ik K H F a d)(e:qK a=aa k):lc d=aa k:=by
 unfold ik at h
 induction h generalizing k with
 |nil=>exact e
 |@cons p q D qs r _ ih=>
  obtain⟨l,pv⟩:=p;obtain⟨j,g⟩:=q;cases pv <;> simp only[qK,mU]at e <;> try cases e
  obtain⟨i,f⟩:=r;obtain rfl:g=V.int _:=f;rename_i h;simp only[lc,ih h.1,pG];rw[<-h.2]
def u8(i:Nat):ac PV:=λa=>(aM (dq a i) a).bind λd a=>aM ((qK d).map .bl) a
theorem P9(i:Nat){y:Str}{g p f d:Pos}(G:X.calm=ah)(z:X.mg "any"=ae)(J:X.N[i]?=aa y:=by rfl)(K:fh X.env.scope y:=by first|exact Or.inl rfl|exact Or.inr (Or.inl rfl)|exact Or.inr (Or.inr rfl))(D:ad y:=by decide) (O:(y==("__classdict__":Str))=aj:=by decide) (C:Gl X "any":=by rfl)(x:kr (.Name y g) "values" X.env (aX (.Name y g) X.env)=aX (.Name y g) X.env:=by rfl) (w:(f.endLine == d.line)=ah:=by rfl)(u:aU [.Call (.Attribute (.Name y g) "values" f) [] [] d] X.env=(aj,aX (.Call (.Attribute (.Name y g) "values" f) [] [] d) X.env)::aU [] X.env:=by rfl) (M:(c7 A (aU [] X.env)).any (·.1)=aj:=by rfl):DE X E (.Call (.Name "any" p) [.Call (.Attribute (.Name y g) "values" f) [] [] d] [] A) (u8 i):=λF S v P H Q s h=>by
 unfold u8 at h;cases o:dq v i with
 |none=>rw[o]at h;exact h.elim
 |some l=>
  rw[o]at h;simp only[cJ,R.bind_ok]at h;obtain⟨a,r,L,j,B,T,_⟩:=s.dkAt (lL o);cases n:qK l with
  |none=>rw[n]at h;exact h.elim
  |some k=>
   rw[n,pG]at h;refine b9 (nY (MB G) C z QH (i9 (Fx Ju JO PySem.F.type_dict_values GX (gC J K D O) x w) ka u) (by decide) (by decide) u M) ⟨.ref a,L,.inr (.inr (.inl ⟨rfl,.inl ⟨_,j⟩⟩)),a,r,rfl,rfl,j,λq m=>?_⟩;have al:Al F F H (L2.upd H q (iN q a)):=Al.new0 m;have N:a≠q:=by rintro rfl;rw[j]at m;cases m
   exact⟨q,a,r,k,rfl,upd_same,by rw[bh N];exact j,Q8 B n,h F S _ (s.al al) al.grow _ rfl⟩
def xX(X:Cx)(E:XK)(m:List aC)(d:ac (PO×List bX)):Prop :=
 ∀F S i f H Q,aS X.K F S i f H->Ok X.K E f F S H (d i) (λp _ h n g=>∀a l j,gd X.K g h p.1 a l->(∀b,l b->H b=ae/\¬h b/\¬U n b/\∃o,g b=aa o/\ef o)->i5 X.K (f++[aa (.ref a)]) h g p.2 j->Q j g)->qa X m f H Q
theorem i5.app{K:ay}{g:St}{F:af->Prop}{H:Hp}(d:St):∀{l:List bX}{j:List V},i5 K g F H l j->i5 K (g++d) F H l j
 |[],_,h=>h
 |.inl _::_,_,⟨v,r,e,a,f⟩=>⟨v,r,e,a,f.app d⟩
 |.inr i::_,_,⟨v,r,e,a,f⟩=>⟨v,r,e,by rw[iS (c_.mp a).1];exact a,f.app d⟩
theorem gd.stay{K:ay}{O l F i:af->Prop}{H h:Hp}{j:PO}{a:af}{d:af->Prop}(q:gd K H F j a d)(g:bq O l F i H h)(fit:Fit O F H)(f:∀b,d b->¬F b/\¬O b/\∃o,H b=aa o/\ef o):gd K h i j a d/\∀b,d b->¬i b/\¬l b/\∃o,h b=aa o/\ef o:=by refine⟨q.mono (λ_ _ z=>z.grow g fit) (λ_ _ z=>z.grow g fit) λb o z w=>(g.stay w (f b z).2.1 (f b z).1).1,λb z=>?_⟩;obtain⟨v,u,o,s,r⟩:=f b z;obtain⟨p,n,m⟩:=g.stay s u v;exact⟨n,m,o,p,r⟩
variable{m:List aC}{dn:ac PO}{C:ac (List bX)}{B:ac (PO×List bX)}
def gN(dn:ac PO)(C:ac (List bX)):ac (PO×List bX):=λf=>(dn f).bind λg d=>(C d).bind λh a=>.ok (g,.inr a.length::h) a
theorem Nw(w:DN X E e dn)(v:DG X E m C)(u:mE e=aj:=by rfl):xX X E (e::m) (gN dn C):=λF S q i H Q r h=>by refine qo (i9 bQ gS (iy u)) (w F S q i H _ r ((Ok.bind h).imp λT d P L N n W y a J s o=>?_));refine v P L d i N _ n ((Ok.bind y).imp λY p O K M l D x j G=>?_);obtain⟨f,g⟩:=s.stay D n.fit λb z=>(o b z).2;refine x O K M l (bq.refl ..) a J (.ref a::j) f (λb z=>⟨(o b z).1,g b z⟩) ⟨.ref a,j,rfl,?_,G.app _⟩;rw[l.len,pf (aZ _),Dp];rfl
def sL(d:ac PV)(B:ac (PO×List bX)):ac (PO×List bX):=λg=>(d g).bind λx f=>(B f).bind λp a=>.ok (p.1,.inl x::p.2) a
theorem EN(y:DE X E e de)(w:xX X E m B)(u:mE e=aj:=by rfl):xX X E (e::m) (sL de B):=λF S l f H Q q h=>by refine qo (i9 bQ gS (iy u)) (y F S l f H _ q ((Ok.bind h).imp λx d Y O T g K G v o=>?_));refine w Y O d f T _ g ((Ok.bind G).imp λp j W N P r J D a M n s i L=>?_);exact D W N P r (bq.refl ..) a M _ s (λb z=>⟨nE K (i b z).1,(i b z).2⟩) ⟨v,n,rfl,o.grow J g.fit,L⟩
theorem aS.push{K:ay}{F:af->Prop}{S:Nat->af->Prop}{d:ak}{y:St}{H:Hp}{w:PO}{a:af}{i:af->Prop}(r:aS K F S d y H)(D:gd K H F w a i)(x:∀b,i b->¬F b/\¬U S b/\∃o,H b=aa o/\ef o):aS K F (λj b=>S j b\/(j=d.length/\i b)) (d++[.own w]) (y++[aa (.ref a)]) H:=by
 have lt:∀j b,S j b->j<d.length:=λj b z=>by obtain⟨⟨p,q⟩,_⟩:=r.foot j b z;exact(c_.mp q).1
 refine⟨by simp[r.len],r.ex,λj pv q=>?_,λj p q=>?_,λj b z=>?_,λj k b g f=>?_⟩
 .by_cases h:j<d.length
  .rw[iS h]at q;obtain⟨v,u,l⟩:=r.val j pv q;exact⟨v,by rw[iS (by rw[<-r.len];exact h)];exact u,l⟩
  .rw[pf ∅]at q;cases s:j-d.length with
   |zero=>rw[s]at q;simp at q
   |succ n=>rw[s]at q;simp at q
 .by_cases h:j<d.length
  .rw[iS h]at q;obtain⟨v,u,l⟩:=r.own j p q;refine⟨v,by rw[iS (by rw[<-r.len];exact h)];exact u,?_⟩;have:(λb=>S j b\/(j=d.length/\i b))=S j:=by funext b;exact propext ⟨λz=>z.elim id λz=>absurd z.1 (cZ h),.inl⟩
   rw[this];exact l
  .rw[pf ∅]at q;cases s:j-d.length with
   |zero=>
    rw[s]at q;simp at q;subst q;have L:j=d.length:=∅
    subst L;refine⟨a,by rw[r.len,pf (aZ _),Dp];rfl,?_⟩;have:(λb=>S d.length b\/(d.length=d.length/\i b))=i:=by funext b;exact propext ⟨λz=>z.elim (λz=>absurd (lt _ _ z) (fj _)) (·.2),λz=>.inr ⟨rfl,z⟩⟩
    rw[this];exact D
   |succ n=>rw[s]at q;simp at q
 .rcases z with z|⟨rfl,z⟩
  .obtain⟨⟨p,q⟩,l⟩:=r.foot j b z;exact⟨⟨p,by rw[iS (lt j b z)];exact q⟩,l⟩
  .obtain⟨J,M,G⟩:=x b z;exact⟨⟨w,by rw[pf (aZ _),Dp];rfl⟩,J,G⟩
 .rcases g with g|⟨rfl,g⟩ <;> rcases f with f|⟨rfl,f⟩
  .exact r.dist j k b g f
  .exact absurd ⟨j,g⟩ (x b f).2.1
  .exact absurd ⟨k,f⟩ (x b g).2.1
  .rfl
theorem aS.pop{K:ay}{F:af->Prop}{S:Nat->af->Prop}{d:ak}{n:Slot}{h:St}{u:Option V}{H:Hp}(r:aS K F S (d++[n]) (h++[u]) H):aS K F (λj b=>S j b/\j<d.length) d h H:=by
 have len:d.length=h.length:=by have:=r.len;simpa using this
 refine⟨len,r.ex,λj pv q=>?_,λj p q=>?_,λj b z=>?_,λj k b l i=>r.dist j k b l.1 i.1⟩
 .have a:=(c_.mp q).1;obtain⟨v,g,f⟩:=r.val j pv (by rw[iS a];exact q);exact⟨v,by rw[iS (by rw[<-len];exact a)]at g;exact g,f⟩
 .have a:=(c_.mp q).1;obtain⟨v,g,f⟩:=r.own j p (by rw[iS a];exact q);refine⟨v,by rw[iS (by rw[<-len];exact a)]at g;exact g,?_⟩;have:(λb=>S j b/\j<d.length)=S j:=by funext b;simp[a]
  rw[this];exact f
 .obtain⟨⟨p,q⟩,f⟩:=r.foot j b z.1;exact⟨⟨p,by rw[iS z.2]at q;exact q⟩,f⟩
def Gj{d:Type}:R d->R d
 |.ok s a=>.ok s a.dropLast
 |.er c a=>.er c a.dropLast
 |.no=>.no
def uD(g:ac Slot)(B:ac (PO×List bX)):ac Slot:=λd=>(B d).bind λp a=>(aM (if(cG p.2).Nodup then eI (a++[.own p.1]) p.2 else ae) a).bind λf a=>Gj (fA (a++[.own p.1]) p.2 (g f))
theorem EA{a:ak}{n:Nat}(h:a.length=n+1):∃l x,a=l++[x]/\l.length=n:=by
 refine⟨a.dropLast,a.getLast (by intro z;rw[z]at h;cases h),(List.dropLast_concat_getLast _).symm,by rw[Dq,h];rfl⟩
theorem bq.pushed{K:ay}{F s:af->Prop}{S i:Nat->af->Prop}{f H p:Hp}{n:Nat}{h:af->Prop}(g:bq (U λj b=>S j b\/(j=n/\h b)) (U i) F s H p){r:af->Prop}{l:Nat->af->Prop}(a:bq (U l) (U S) r F f H)(d:∀b,h b->f b=ae):bq (U l) (U λj b=>i j b/\j<n) r s f p where
 fro:=λb z=>g.fro b (a.fro b z)
 keep:=λb o q no=>g.keep b o (a.keep b o q no) λ⟨j,z⟩=>by
  rcases z with z|⟨_,z⟩
  .rcases a.onew b ⟨j,z⟩with w|w
   .exact no w
   .rw[w]at q;cases q
  .rw[d b z]at q;cases q
 there:=λb o q=>let ⟨o',q'⟩:=a.there b o q;g.there b o' q'
 fnew:=λb z=>by
  rcases g.fnew b z with w|w|⟨j,w|⟨_,w⟩⟩
  .exact a.fnew b w
  .exact .inr (.inl (nE a w))
  .exact .inr ((a.onew b ⟨j,w⟩).symm)
  .exact .inr (.inl (d b w))
 onew:=λb ⟨j,z,_⟩=>by
  rcases g.onew b ⟨j,z⟩with⟨k,w|⟨_,w⟩⟩|w
  .exact a.onew b ⟨k,w⟩
  .exact .inr (d b w)
  .exact .inr (nE a w)
variable{G:gA}{x:Str}{k:Nat}{D:List Str}{g:ac Slot}{p:Pos}
theorem Sk(c:cP G X.prog X.w X.K X.mg X.base x k D (bB X.K g))(hr:eT k X.A)(hx:sQ G X E)(ha:xX X E (e::m) B)(hg:Gl X x:=by rfl)(hd:ad x:=by decide) (h1:aU (e::m) X.env=(aj,aX e X.env)::aU m X.env:=by rfl) (h2:(c7 A (aU m X.env)).any (·.1)=aj:=by rfl):DR X E (.Call (.Name x p) (e::m) [] A) (uD g B):=λF S ε W H Q rl h=>by
 obtain⟨f,fd,hm,Fn,hb,hk⟩:=c.ex;refine b9 (FC Fn hr hg hm hk hb .nil hx gS hd h1 h2) (ha F S ε W H _ rl ?_);unfold uD at h;cases ed:B ε with
 |no=>rw[ed]at h;exact h.elim
 |er cv d=>rw[ed]at h;exact h
 |ok pa d=>
  obtain⟨P,q⟩:=pa;rw[ed]at h;simp only[R.bind_ok]at h;intro F1 S1 H1 r1 g1 a Sa vs ow Z T;dsimp only at h T ow;have O:=r1.push ow λb z=>(Z b z).2;by_cases L:(cG q).Nodup
  .rw[if_pos L]at h;cases m:eI (d++[.own P]) q with
   |none=>rw[m]at h;exact h.elim
   |some ss=>
    rw[m]at h;simp only[cJ,R.bind_ok]at h;rw[iR];refine⟨F1,mC q _,ss,O.cal T m L,?_⟩;have len:∀n,(fP (d++[.own P]) q n).length=d.length+1:=λn=>by rw[xH];simp
    cases eg:g ss with
    |no=>rw[eg]at h;exact h.elim
    |er cv n=>
     rw[eg]at h;intro y F' S' H' Y g';unfold fA at h;dsimp only at h;by_cases u:fJ q n=ah
     .rw[if_pos u]at h;obtain⟨S2,J,g2,_⟩:=O.called T m L Y g' (λ_ z=>z) (nN u);obtain⟨l,sl,N,ll⟩:=EA (len n);rw[N]at J;have h:Ok X.K E W F S H (R.er cv (fP (d++[.own P]) q n).dropLast:R Slot) _:=h;rw[N,List.dropLast_concat]at h;have M:=bq.pushed (K:=X.K) g2 g1 λb z=>(Z b z).1;rw[<-ll]at M;exact h y F' _ H' J.pop M
     .rw[if_neg u]at h;exact h.elim
    |ok s n=>
     rw[eg]at h;intro v F' S' H' Sr Y g' rv r fr;unfold fA at h;dsimp only at h;by_cases u:fJ q n=ah
     .rw[if_pos u]at h;obtain⟨S2,J,g2,u2⟩:=O.called T m L Y g' (λ_ z=>.inl z) (nN u);obtain⟨l,sl,N,ll⟩:=EA (len n);rw[N]at J;have h:Ok X.K E W F S H (R.ok s (fP (d++[.own P]) q n).dropLast:R Slot) _:=h;rw[N,List.dropLast_concat]at h;have M:=bq.pushed (K:=X.K) g2 g1 λb z=>(Z b z).1;rw[<-ll]at M;refine h F' _ H' J.pop M v Sr rv λb z=>⟨nE g1 (fr b z),(r b z).1,λ⟨j,w,_⟩=>?_,(r b z).2.2⟩
      rcases u2 b ⟨j,w⟩with w|⟨i,w⟩
      .exact(r b z).2.1 w
      .obtain⟨_,_,o,y1,_⟩:=O.foot i b w;rw[fr b z]at y1;cases y1
     .rw[if_neg u]at h;exact h.elim
  .rw[if_neg L]at h;exact h.elim
end
section
variable{X:Cx}{E:XK}{pin:List Nat}{e b c o:aC}{de l j d:ac PV}{i:ac (List PV)}{g p q f:Pos}
def Ho(X:Cx)(r:List V->Hp->VK->Prop):List V->Hp->VK->Prop:=λxs H Q=>∃(p:af) (h:List Tx),xs=[.ref p]/\b_ X.K H p (cR h)/\(d_ h).length<4000/\∀a,H a=ae->r [.ref a] (upd H a (nD X a (d_ h))) Q
def G7(X:Cx):List V->Hp->VK->Prop:=λxs H Q=>∃(p:af) (a:List Tx),xs=[.ref p]/\H p=aa (nD X p a)/\Q (.int (a.length:Nat)) H
theorem OT:d4 X (.builtin "len") (G7 X):=by
 intro K s C H xs D Q I r h;obtain⟨p,a,rfl,n,q⟩:=h;obtain⟨u,rfl,m⟩:=vals1 r;cases m;obtain⟨S,_,_⟩:=(show bR X.prog X.w H s.heap p (nD X p a)from I.hok p _ n)
 obtain⟨z,J,t,F,e,y,x,_,G,w,_⟩:=S.ex;have v:z.size=a.length:=by have B:=x.length_eq;have A:=y.length;simp only[cN,fL]at B A;lia
 refine call_len_set e ⟨rfl,rfl,rfl⟩ rfl w ∅ ?_;exact⟨.int _,H,I.tok _,⟨_,by rw[v]⟩,q⟩
def vg:List PV->Option PV
 |[.lst xs]=>(fI xs).bind λa=>if(d_ a).length<4000 then aa (.int (d_ a).length)else ae
 |_=>ae
theorem Ov:PL X.K (Ho X (G7 X)) vg:=λF H xs y Q pv r e q=>by
 unfold vg at e;split at e
 .obtain⟨v,rfl,a,z,rfl,w,_,m⟩:=fU r;obtain⟨n,x,h⟩:=pK.mp e;rw[p_ x]at m;obtain⟨rfl,A⟩:=Vr.mp m;split at h
  .rename_i s;cases h;exact⟨a,n,rfl,.inl w,s,λb u=>⟨b,d_ n,rfl,upd_same,q _ F _ (Al.new0 u) rfl⟩⟩
  .cases h
 .cases e
theorem O3(u:X.calm=ah)(v:DA X E [e] i)(r:X.mg "len"=ae)(a:X.mg "set"=ae)(s:Gl X "len":=by rfl)(n:Gl X "set":=by rfl)(h:mE e=aj:=by rfl):DE X E (.Call (.Name "len" p) [.Call (.Name "set" q) [e] [] f] [] g) (dL vg i):=λF S y x H Q m w=>b9 (nY OT s r i8 (i9 (vx (F9 u) n a Ba gS (by decide) (by decide) (iy h) rfl) ka (iy rfl)) (by decide) (by decide) (iy rfl) rfl) (yE Ov v m w)
end
section
variable{X:Cx}
theorem Kj:fk "min"=aa (.builtin "min"):=by decide +kernel
def Hq:List (aE×PV)->Option (List Tx)
 |[]=>aa []
 | (.inr k,_)::r=>(Hq r).map (k.cps.toList::·)
 |_=>ae
def N9(b:List (aE×PV)):Option PO:=(Hq b).bind λa=>if a.length<64/\(∀x∈a,x.length<=bj)then aa (.lst (ao (cb a)))else ae
def Uj(i:Nat):ac PO:=λa=>(aM (dq a i) a).bind λb a=>aM (N9 b) a
end
end Pu
namespace L2
def yi:Bool->Keyed->Array Keyed->Nat->Nat->Nat->StateT bJ Sem (Option Nat):=sortPriv% PySem.Builtin.gallop
def Hz:Array Keyed->Array Keyed->StateT bJ Sem (Array Keyed):=sortPriv% PySem.Builtin.mergeLo
def HB:Array Keyed->Array Keyed->StateT bJ Sem (Array Keyed):=sortPriv% PySem.Builtin.mergeHi
def kO(κ:KeyKind)(p:Keyed):κ.α:=(κ.keyOf p.1).getD κ.dflt
def hU(b:KeyKind)(p:Keyed):Prop:=∃a,b.keyOf p.1=aa a
theorem hU.k{κ:KeyKind}{p:Keyed}(h:hU κ p):κ.keyOf p.1=aa (kO κ p):=by obtain⟨a,e⟩:=h;unfold kO;rw[e];rfl
def ig(κ:KeyKind)(kz:gI)(c:aN)(w:aG)(A:aT)(s:am):Prop :=
 ∀(E:ai->am->Prop) (x y:ai) (a b:κ.α) {Q:Bool->am->Prop},κ.keyOf x=aa a->κ.keyOf y=aa b->Q (κ.blt a b) s->ar (au c w) A (keyLt' kz x y) Q E s
theorem OneLt.ok{κ:KeyKind}(f:κ.OneLt){prog:aN}{w:aG}{A:aT}{s:am}:ig κ oneType' prog w A s:=λE x y a b _ d c h=>by rw[keyLt'_oneType];exact f prog w A E s x y a b d c h
structure SB(kz:gI)(st:bJ):Prop where
 kind:kindOf st=kz
 failed:failedOf st=ae
section
variable{a:aN}{w:aG}{A:aT}{E:ai->am->Prop}{s:am}{d:KeyKind}{f:gI}
theorem vL(j:ig d f a w A s){b:bJ}{x y:Keyed}{Q:Option Bool->bJ->Prop}(i:SB f b)(g:hU d x)(c:hU d y)(h:Q (aa (d.blt (kO d x) (kO d y))) b):wpS (au a w) A E s (lt' x y) Q b:=by rw[lt'_eq];refine aL (lZ ?_);rw[i.kind];exact aL (t7 (Dc (j _ x.1 y.1 _ _ g.k c.k ⟨rfl,aV h⟩)))
theorem fG{c:bJ}{b:Array Keyed}{i:Nat}(g:i<b.size){Q:Keyed->bJ->Prop}(h:Q b[i] c):wpS (au a w) A E s (elem' b i) Q c:=by rw[elem'_eq,getElem?_pos b i g];exact aV h
def Er(c:Bool)(g:Keyed)(j:Array Keyed)(h i:Nat):StateT bJ Sem (Option Bool) :=elem' j (h+i) >>= λx=>if c=ah then lt' x g else lt' g x >>= λb=>pure (b.map (!·))
def mr(d:KeyKind)(b:Bool)(c x:Keyed):Bool:=if b=ah then d.blt (kO d x) (kO d c)else !d.blt (kO d c) (kO d x)
theorem Oi(p:ig d f a w A s){l:bJ}{c:Bool}{j:Keyed}{g:Array Keyed}{b i:Nat}{Q:Option Bool->bJ->Prop}(o:SB f l)(n:hU d j)(q:b+i<g.size)(m:hU d g[b+i])(h:Q (aa (mr d c j g[b+i])) l):wpS (au a w) A E s (Er c j g b i) Q l:=by
 refine aL (fG q ?_);cases c
 .rw[if_neg (by simp)];exact aL (vL p o n m (aV h))
 .rw[if_pos rfl];exact vL p o m n h
theorem HI(hO:ig d f a w A s){K:bJ}(hk:SB f K){G:Bool}{L:Keyed}{z:Array Keyed}{u n b:Nat}{Q:Option Nat->bJ->Prop}(lv:hU d L)(hn:u+n<=z.size)(hA:∀i (g:i<z.size),hU d z[i]) (B:Nat->Bool) (hB:∀i (g:i<n),B i=mr d G L (z[u+i]'∅))(mono:∀i j,i<=j->j<n->B j=ah->B i=ah) (hh:b<n)(h:∀r,r<=n->(∀i,i<r->B i=ah)->(∀i,r<=i->i<n->B i=aj)->Q (aa r) K):wpS (au a w) A E s (yi G L z u n b) Q K:=by
 have O:∀{i:Nat}{Q:Option Bool->bJ->Prop},i<n->Q (aa (B i)) K->wpS (au a w) A E s (Er G L z u i) Q K:=λ{i Q} g q=>Oi hO hk lv ∅ (hA _ _) (by rw[<-hB i g];exact q);have dn:∀{i j:Nat},i<=j->j<n->B i=aj->B j=aj:=λ{i j} bK hj hf=>by
  cases e:B j with
  |false=>rfl
  |true=>rw[mono i j bK hj e]at hf;cases hf
 unfold yi;refine aL (O hh ?_);cases hr:B b with
 |true=>
  dsimp only;rw[if_pos rfl];refine aL (g8 (g9 (I:=λx c m=>m=K/\∃l o,c=(ae,l,o)/\l<o/\x<o/\l<n-b/\B (b+l)=ah) (Q:=λc m=>m=K/\∃l o,c=(ae,l,o)/\l<o/\l<n-b/\B (b+l)=ah/\(n-b<=o\/(o<n-b/\B (b+o)=aj))) ?_ ?_ ?_) ?_)
  .rintro x c m _ P ⟨rfl,l,o,rfl,J,T,H,p⟩;dsimp only;by_cases v:o ≥ n-b
   .rw[if_pos v];exact aV ⟨rfl,l,o,rfl,J,H,p,.inl v⟩
   .rw[if_neg v];refine aL (O ∅ ?_);cases e:B (b+o)with
    |true=>exact aV ⟨rfl,o,2*o+1,rfl,∅,∅,∅,e⟩
    |false=>exact aV ⟨rfl,l,o,rfl,J,H,p,.inr ⟨∅,e⟩⟩
  .rintro c m ⟨rfl,l,o,rfl,J,T,H,p⟩;exact⟨rfl,l,o,rfl,J,H,p,.inl ∅⟩
  .exact⟨rfl,0,1,rfl,∅,∅,∅,hr⟩
  rintro c m ⟨rfl,l,o,rfl,J,H,p,M⟩;dsimp only;have Z:b+l+1<=b+min o (n-b):=∅
  have Y:b+min o (n-b)<=n:=∅
  have X:∀i,i<b+l+1->B i=ah:=λi g=>mono i (b+l) ∅ ∅ p;have W:∀i,b+min o (n-b)<=i->i<n->B i=aj:=by
   intro i g N;rcases M with M|⟨M,S⟩
   .lia
   .exact dn (i:=b+o) ∅ N S
  clear M;generalize b+l+1=lo at *;generalize b+min o (n-b)=g at *;refine aL (g8 (g9 (I:=λx c y=>y=m/\∃l r,c=(ae,l,r)/\l<=r/\r<=n/\r-l<=n-x/\(∀i,i<l->B i=ah)/\(∀i,r<=i->i<n->B i=aj)) (Q:=λc y=>y=m/\∃l r,c=(ae,l,r)/\r<=n/\(∀i,i<r->B i=ah)/\(∀i,r<=i->i<n->B i=aj)) ?_ ?_ ?_) ?_)
  .rintro x c y _ P ⟨rfl,l,r,rfl,a1,F,a3,D,C⟩;dsimp only;by_cases v:l ≥ r
   .rw[if_pos v];have:l=r:=∅
    subst this;exact aV ⟨rfl,l,l,rfl,F,D,C⟩
   .rw[if_neg v];refine aL (O ∅ ?_);cases e:B (l+(r-l) / 2)with
    |true=>exact aV ⟨rfl,_,r,rfl,∅,F,∅,λi g=>mono _ _ ∅ ∅ e,C⟩
    |false=>exact aV ⟨rfl,l,_,rfl,∅,∅,∅,D,λi g N=>dn (i:=l+(r-l) / 2) g N e⟩
  .rintro c y ⟨rfl,l,r,rfl,a1,F,a3,D,C⟩;have:l=r:=∅
   subst this;exact⟨rfl,l,l,rfl,F,D,C⟩
  .exact⟨rfl,lo,g,rfl,Z,Y,∅,X,W⟩
  .rintro c y ⟨rfl,l,r,rfl,F,D,C⟩;exact aV (h r F D C)
 |false=>
  dsimp only;rw[if_neg (by simp)];refine aL (g8 (g9 (I:=λx c m=>m=K/\∃l o,c=(ae,l,o)/\l<o/\x<o/\l<=b/\B (b-l)=aj) (Q:=λc m=>m=K/\∃l o,c=(ae,l,o)/\l<o/\l<=b/\B (b-l)=aj/\(b+1<=o\/(o<=b/\B (b-o)=ah))) ?_ ?_ ?_) ?_)
  .rintro x c m _ P ⟨rfl,l,o,rfl,J,T,H,p⟩;dsimp only;by_cases v:o ≥ b+1
   .rw[if_pos v];exact aV ⟨rfl,l,o,rfl,J,H,p,.inl v⟩
   .rw[if_neg v];refine aL (O ∅ ?_);cases e:B (b-o)with
    |false=>exact aV ⟨rfl,o,2*o+1,rfl,∅,∅,∅,e⟩
    |true=>exact aV ⟨rfl,l,o,rfl,J,H,p,.inr ⟨∅,e⟩⟩
  .rintro c m ⟨rfl,l,o,rfl,J,T,H,p⟩;exact⟨rfl,l,o,rfl,J,H,p,.inl ∅⟩
  .exact⟨rfl,0,1,rfl,∅,∅,∅,hr⟩
  rintro c m ⟨rfl,l,o,rfl,J,H,p,M⟩;dsimp only;have Z:b+1-min o (b+1)<=b-l:=∅
  have Y:b-l<=n:=∅
  have X:∀i,i<b+1-min o (b+1)->B i=ah:=by
   intro i g;rcases M with M|⟨M,S⟩
   .lia
   .exact mono i (b-o) ∅ ∅ S
  have W:∀i,b-l<=i->i<n->B i=aj:=λi g N=>dn (i:=b-l) ∅ N p;clear M p;generalize b+1-min o (b+1)=lo at *;generalize b-l=g at *;refine aL (g8 (g9 (I:=λx c y=>y=m/\∃l r,c=(ae,l,r)/\l<=r/\r<=n/\r-l<=n-x/\(∀i,i<l->B i=ah)/\(∀i,r<=i->i<n->B i=aj)) (Q:=λc y=>y=m/\∃l r,c=(ae,l,r)/\r<=n/\(∀i,i<r->B i=ah)/\(∀i,r<=i->i<n->B i=aj)) ?_ ?_ ?_) ?_)
  .rintro x c y _ P ⟨rfl,l,r,rfl,a1,F,a3,D,C⟩;dsimp only;by_cases v:l ≥ r
   .rw[if_pos v];have:l=r:=∅
    subst this;exact aV ⟨rfl,l,l,rfl,F,D,C⟩
   .rw[if_neg v];refine aL (O ∅ ?_);cases e:B (l+(r-l) / 2)with
    |true=>exact aV ⟨rfl,_,r,rfl,∅,F,∅,λi g=>mono _ _ ∅ ∅ e,C⟩
    |false=>exact aV ⟨rfl,l,_,rfl,∅,∅,∅,D,λi g N=>dn (i:=l+(r-l) / 2) g N e⟩
  .rintro c y ⟨rfl,l,r,rfl,a1,F,a3,D,C⟩;have:l=r:=∅
   subst this;exact⟨rfl,l,l,rfl,F,D,C⟩
  .exact⟨rfl,lo,g,rfl,Z,Y,∅,X,W⟩
  .rintro c y ⟨rfl,l,r,rfl,F,D,C⟩;exact aV (h r F D C)
end
section
variable{κ:KeyKind}{kz:gI}
def bO(κ:KeyKind)(x y:Keyed):Prop:=κ.kle (kO κ x) (kO κ y)
theorem bO.trans{x y z:Keyed}(b:bO κ x y)(a:bO κ y z):bO κ x z:=ro b a
structure MS(κ:KeyKind)(T o ra rb:List Keyed):Prop where
 perm:(o++(ra++rb)).Perm T
 so:o.Pairwise (bO κ)
 sa:ra.Pairwise (bO κ)
 sb:rb.Pairwise (bO κ)
 oa:∀x∈o,∀y∈ra,bO κ x y
 ob:∀x∈o,∀y∈rb,bO κ x y
theorem MS.stepA{T o x f d:List Keyed}(h:MS κ T o (x++f) d)(i:∀u∈x,∀v∈d,bO κ u v):MS κ T (o++x) f d:=by
 obtain⟨n,m,c,l,g,j⟩:=h;rw[Dr]at c;refine⟨by simpa[mR]using n,?_,c.2.1,l,?_,?_⟩
 .rw[Dr];exact⟨m,c.1,λu a v b=>g u a v (vS _ b)⟩
 .intro u a v b;rcases jg.mp a with a|a
  .exact g u a v (lm _ b)
  .exact c.2.2 u a v b
 .intro u a v b;rcases jg.mp a with a|a
  .exact j u a v b
  .exact i u a v b
theorem MS.swap{T o b a:List Keyed}(h:MS κ T o b a):MS κ T o a b :=⟨(JG _ List.perm_append_comm).trans h.perm,h.so,h.sb,h.sa,h.ob,h.oa⟩
theorem MS.stepB{T o x a b:List Keyed}(h:MS κ T o a (x++b))(c:∀u∈x,∀v∈a,bO κ u v):MS κ T (o++x) a b :=(h.swap.stepA c).swap
def gX(κ:KeyKind)(T:List Keyed)(r:Array Keyed):Prop:=r.toList.Perm T/\r.toList.Pairwise (bO κ)
theorem MS.endA{T o a:List Keyed}{r:Array Keyed}(h:MS κ T o a [])(e:r.toList=o++a):gX κ T r:=by obtain⟨f,d,c,i,b,g⟩:=h;refine⟨by rw[e];simpa using f,?_⟩;rw[e,Dr];exact⟨d,c,b⟩
theorem MS.last{T o b a:List Keyed}{r:Array Keyed}(h:MS κ T o b a)(c:∀u∈a,∀v∈b,bO κ u v)(e:r.toList=o++(a++b)):gX κ T r:=by
 have d:MS κ T o b (a++[]):=by simpa using h
 exact(d.stepB c).endA (by rw[e];simp)
theorem lM(a:Array Keyed)(i j:Nat):(a.extract i j).toList=(a.toList.drop i).take (j-i):=by simp[Array.toList_extract,List.extract_eq_take_drop]
theorem sO(a:Array Keyed)(i:Nat):(a.extract i a.size).toList=a.toList.drop i:=by rw[lM,pA];simp
theorem Gy{a:Array Keyed}{i:Nat}(h:i<a.size):a.toList.drop i=a[i]::a.toList.drop (i+1):=by rw[v_ (~~~h)];simp
theorem IK(a:Array Keyed)(i k:Nat):a.toList.drop i=(a.extract i (i+k)).toList++a.toList.drop (i+k):=by rw[lM,show i+k-i=k by lia,<-List.drop_drop,oj]
theorem si{a:Array Keyed}{i:Nat}{x:Keyed}(h:x∈a.toList.drop i):∃j,∃d:j<a.size,i<=j/\a[j]=x:=by
 obtain⟨k,c,e⟩:=oy h;rw[zO]at e;have b:i+k<a.size:=by simp at c;lia
 exact⟨i+k,b,∅,by simpa using e⟩
theorem Gs{a:Array Keyed}{i k:Nat}{x:Keyed}(h:x∈(a.extract i (i+k)).toList):∃j,∃c:j<a.size,i<=j/\j<i+k/\a[j]=x:=by
 rw[lM]at h;obtain⟨m,b,e⟩:=oy h;rw[Ds,zO]at e;refine⟨i+m,?_,∅,?_,by simpa using e⟩
 all_goals simp at b;lia
def ve(κ:KeyKind)(a:Array Keyed):Prop:=∀i j (b:j<a.size) (c:i<=j),bO κ (a[i]'∅) a[j]
theorem ve.pw{a:Array Keyed}(h:ve κ a):a.toList.Pairwise (bO κ):=by rw[t8];intro i j c b d;have:=h i j (~~~b) ∅;simpa using this
structure f_(κ:KeyKind)(a b c:Array Keyed)(d f:Nat):Prop where
 ms:MS κ (a.toList++b.toList) c.toList (a.toList.drop d) (b.toList.drop f)
 la:d<=a.size
 lb:f<=b.size
variable{a b c:Array Keyed}{d f:Nat}
theorem f_.pushA(h:f_ κ a b c d f)(i:d<a.size)(l:∀j (g:j<b.size),f<=j->bO κ a[d] b[j]):f_ κ a b (c.push a[d]) (d+1) f:=by refine⟨?_,i,h.lb⟩;rw[tW];refine MS.stepA (by rw[Dt,<-Gy i];exact h.ms) λu n v m=>?_;obtain⟨j,g,o,rfl⟩:=si m;rw[gH.mp n];exact l j g o
theorem f_.pushB(h:f_ κ a b c d f)(i:f<b.size)(l:∀j (g:j<a.size),d<=j->bO κ b[f] a[j]):f_ κ a b (c.push b[f]) d (f+1):=by refine⟨?_,h.la,i⟩;rw[tW];refine MS.stepB (by rw[Dt,<-Gy i];exact h.ms) λu n v m=>?_;obtain⟨j,g,o,rfl⟩:=si m;rw[gH.mp n];exact l j g o
theorem f_.extA{k:Nat}(h:f_ κ a b c d f)(p:d+k<=a.size)(m:∀i (l:i<a.size),d<=i->i<d+k->∀j (g:j<b.size),f<=j->bO κ a[i] b[j]):f_ κ a b (c++a.extract d (d+k)) (d+k) f:=by refine⟨?_,p,h.lb⟩;rw[jl];refine MS.stepA (by rw[<-IK];exact h.ms) λu o v n=>?_;obtain⟨j,g,s,rfl⟩:=si n;obtain⟨i,l,r,q,rfl⟩:=Gs o;exact m i l r q j g s
theorem f_.extB{k:Nat}(h:f_ κ a b c d f)(p:f+k<=b.size)(m:∀i (l:i<b.size),f<=i->i<f+k->∀j (g:j<a.size),d<=j->bO κ b[i] a[j]):f_ κ a b (c++b.extract f (f+k)) d (f+k):=by refine⟨?_,h.la,p⟩;rw[jl];refine MS.stepB (by rw[<-IK];exact h.ms) λu o v n=>?_;obtain⟨j,g,s,rfl⟩:=si n;obtain⟨i,l,r,q,rfl⟩:=Gs o;exact m i l r q j g s
theorem f_.doneA(h:f_ κ a b c d f)(e:f=b.size):gX κ (a.toList++b.toList) (c++a.extract d a.size++b.extract f b.size):=by have:=h.ms;rw[show b.toList.drop f=[] by rw[Du];simp[e]]at this;refine this.endA ?_;rw[jl,jl,sO,sO,show b.toList.drop f=[] by rw[Du];simp[e],iR]
theorem f_.doneB(h:f_ κ a b c d f)(e:d=a.size):gX κ (a.toList++b.toList) (c++a.extract d a.size++b.extract f b.size):=by have:=h.ms;rw[show a.toList.drop d=[] by rw[Du];simp[e]]at this;refine this.swap.endA ?_;rw[jl,jl,sO,sO,show a.toList.drop d=[] by rw[Du];simp[e],iR]
theorem f_.last(h:f_ κ a b c d f)(e:d+1=a.size)(n:∀j (g:j<b.size),bO κ b[j] (a[d]'∅)):gX κ (a.toList++b.toList) (c++b.extract f b.size++a.extract d a.size):=by
 refine h.ms.last (λu m v l=>?_) (by rw[jl,jl,sO,sO,mR]);obtain⟨j,g,q,rfl⟩:=si m;obtain⟨i,o,p,rfl⟩:=si l;have:i=d:=∅
 subst this;exact n j g
end
section
variable{b:aN}{w:aG}{A:aT}{E:ai->am->Prop}{s:am}{a:KeyKind}{c:gI}
theorem BR(z:ig a c b w A s){l:bJ}(v:SB c l){f:Keyed}{d:Array Keyed}{base n hint:Nat}{Q:Option Nat->bJ->Prop}(o:hU a f)(u:base+n<=d.size)(B:∀i (g:i<d.size),hU a d[i]) (p:∀i j (F:i<=j) (m:j<base+n),base<=i->bO a (d[i]'∅) (d[j]'∅)) (x:hint<n)(h:∀r,r<=n->(∀i (g:i<d.size),base<=i->i<base+r->bO a d[i] f)->(∀i (g:i<d.size),base+r<=i->i<base+n->a.klt (kO a f) (kO a d[i]))->Q (aa r) l):wpS (au b w) A E s (yi aj f d base n hint) Q l:=by
 refine HI z v o u B (λi=>if g:i<n then mr a aj f (d[base+i]'∅)else aj) (λi g=>by rw[dif_pos g]) ?_ x ?_
 .intro i j F m e;rw[dif_pos m]at e;rw[dif_pos ∅];simp only[mr,fo,if_false,JN]at e ⊢;exact ro (p (base+i) (base+j) ∅ ∅ ∅) e
 .intro r q D C;refine h r q (λi g y G=>?_) (λi g y G=>?_)
  .have:=D (i-base) ∅;rw[dif_pos ∅]at this;simp only[mr,fo,if_false,JN,show base+(i-base)=i by lia]at this;exact this
  .have:=C (i-base) ∅ ∅;rw[dif_pos ∅]at this;simp only[mr,fo,if_false,Bool.not_eq_false',show base+(i-base)=i by lia]at this;exact this
theorem Bq(z:ig a c b w A s){l:bJ}(v:SB c l){f:Keyed}{d:Array Keyed}{base n hint:Nat}{Q:Option Nat->bJ->Prop}(o:hU a f)(u:base+n<=d.size)(B:∀i (g:i<d.size),hU a d[i]) (p:∀i j (F:i<=j) (m:j<base+n),base<=i->bO a (d[i]'∅) (d[j]'∅)) (x:hint<n)(h:∀r,r<=n->(∀i (g:i<d.size),base<=i->i<base+r->a.klt (kO a d[i]) (kO a f))->(∀i (g:i<d.size),base+r<=i->i<base+n->bO a f d[i])->Q (aa r) l):wpS (au b w) A E s (yi ah f d base n hint) Q l:=by
 refine HI z v o u B (λi=>if g:i<n then mr a ah f (d[base+i]'∅)else aj) (λi g=>by rw[dif_pos g]) ?_ x ?_
 .intro i j F m e;rw[dif_pos m]at e;rw[dif_pos ∅];simp only[mr,if_true]at e ⊢;exact KeyOrd.klt_of_kle_of_klt (p (base+i) (base+j) ∅ ∅ ∅) e
 .intro r q D C;refine h r q (λi g y G=>?_) (λi g y G=>?_)
  .have:=D (i-base) ∅;rw[dif_pos ∅]at this;simp only[mr,if_true,show base+(i-base)=i by lia]at this;exact this
  .have:=C (i-base) ∅ ∅;rw[dif_pos ∅]at this;simp only[mr,if_true,show base+(i-base)=i by lia]at this;exact this
end
structure gW(st aA:bJ):Prop where
 kind:kindOf aA=kindOf st
 arr:arrOf aA=arrOf st
 pend:bo aA=bo st
 failed:failedOf aA=failedOf st
theorem gW.rfl{st:bJ}:gW st st:=⟨_root_.rfl,_root_.rfl,_root_.rfl,_root_.rfl⟩
theorem gW.sb{b:gI}{a c:bJ}(h:gW a c)(k:SB b a):SB b c:=⟨h.kind.trans k.kind,h.failed.trans k.failed⟩
section
variable{d:aN}{w:aG}{A:aT}{E:ai->am->Prop}{s:am}{κ:KeyKind}{kz:gI}
theorem cV{a f:Type}{M:Model}{c:Prop}[Decidable c]{t e:StateT a Sem f}{Q:f->a->Prop}{b:a}(h:c->wpS M A E s t Q b)(g:¬c->wpS M A E s e Q b):wpS M A E s (if c then t else e) Q b:=by
 split
 .exact h ‹_›
 .exact g ‹_›
def Qn:Nat->StateT bJ Sem Unit:=sortPriv% PySem.Builtin.setMinGallop
theorem gW.trans{a b c:bJ}(g:gW a b)(f:gW b c):gW a c:=⟨f.kind.trans g.kind,f.arr.trans g.arr,f.pend.trans g.pend,f.failed.trans g.failed⟩
theorem AX{a b:bJ}{g:Nat}{Q:Unit->bJ->Prop}(f:gW b a)(h:∀c,gW b c->Q () c):wpS (au d w) A E s (Qn g) Q a :=oz (h _ (f.trans ⟨rfl,rfl,rfl,rfl⟩))
theorem RG(hO:ig κ kz d w A s){M:bJ}(hk:SB kz M){a b:Array Keyed}{Q:Array Keyed->bJ->Prop}(ha:0<a.size)(hb:0<b.size)(hA:∀i (P:i<a.size),hU κ a[i]) (hB:∀i (P:i<b.size),hU κ b[i]) (sa:ve κ a) (sb:ve κ b)(h0:bO κ b[0] a[0]) (hl:∀j (q:j<b.size),bO κ b[j] a[a.size-1])(h:∀r G,gW M G->gX κ (a.toList++b.toList) r->Q r G):wpS (au d w) A E s (Hz a b) Q M:=by
 have iu:∀{i:Nat} (P:i<a.size),i+1=a.size->∀j (q:j<b.size),bO κ b[j] a[i]:=λ{i} P e j q=>by
  have:i=a.size-1:=∅
  subst this;exact hl j q
 have I0:f_ κ a b #[b[0]] 0 1:=by
  have B:f_ κ a b #[] 0 0:=⟨⟨by simp,by simp,by simpa using sa.pw,by simpa using sb.pw,by simp,by simp⟩,∅,∅⟩
  exact B.pushB hb λj q _=>h0.trans (sa 0 j q ∅)
 unfold Hz;refine aL (t7 (mW ⟨rfl,?_⟩));refine aL (fG hb ?_);by_cases e1:1=b.size
 .rw[if_pos (by simp[<-e1])];exact aV (h _ _ .rfl (I0.doneA e1))
 rw[if_neg (~~~e1)];by_cases e2:0+1=a.size
 .rw[if_pos (by simp[<-e2])];exact aV (h _ _ .rfl (I0.last e2 (iu ∅ ∅)))
 rw[if_neg (~~~e2)];refine aL (lZ ?_);refine aL (g8 (g9 (I:=λx c G=>gW M G/\∃f l p K,c=(ae,f,l,p,K)/\f_ κ a b f l p/\l+1<a.size/\p<b.size/\x+1<=l+p) (Q:=λc G=>gW M G/\∃r,c.1=aa r/\gX κ (a.toList++b.toList) r) ?_ ?_ ?_) ?_);rotate_left
 .rintro c G ⟨_,f,l,p,K,rfl,z,B,u,N⟩;lia
 .exact⟨.rfl,_,0,1,_,rfl,I0,∅,∅,∅⟩
 .rintro⟨c1,c⟩ G ⟨v,r,rfl,Y⟩;exact aV (h r G v Y)
 rintro x c G _ hx ⟨v,f,l,p,K,rfl,z,B,u,N⟩;refine aL (g8 (g9 (I:=λy c C=>C=G/\∃f l p F D,c=(ae,f,l,p,F,D)/\f_ κ a b f l p/\l+1<a.size/\p<b.size/\x+1+y<=l+p) (Q:=λc C=>C=G/\((∃r Z,c=(aa r,Z)/\gX κ (a.toList++b.toList) r)\/∃f l p F D,c=(ae,f,l,p,F,D)/\f_ κ a b f l p/\l+1<a.size/\p<b.size/\x+1+1<=l+p)) ?_ ?_ ?_) ?_)
 .rintro y c C _ hy ⟨rfl,f,l,p,F,D,rfl,z,B,u,N⟩;dsimp only;refine aL (fG u (aL (fG ∅ (aL (vL hO (v.sb hk) (hB p u) (hA l ∅) ?_)))));cases e:κ.blt (kO κ b[p]) (kO κ (a[l]'∅))with
  |true=>
   dsimp only;rw[if_pos rfl];refine aL (fG u ?_);have O:=z.pushB u λj q gv=>bO.trans (l0 e) (sa l j q gv);by_cases J:p+1=b.size
   .rw[if_pos (by simp[J])];exact aV ⟨rfl,.inl ⟨_,_,rfl,O.doneA J⟩⟩
   rw[if_neg (~~~J)];split
   .exact aV ⟨rfl,.inr ⟨_,_,_,_,_,rfl,O,∅,∅,∅⟩⟩
   .exact aV ⟨rfl,_,_,_,_,_,rfl,O,∅,∅,∅⟩
  |false=>
   dsimp only;rw[if_neg (by simp)];refine aL (fG ∅ ?_);have O:=z.pushA ∅ λj q gv=>bO.trans (show bO κ (a[l]'∅) b[p] from e) (sb p j q gv);by_cases J:l+1+1=a.size
   .rw[if_pos (by simp[J])];exact aV ⟨rfl,.inl ⟨_,_,rfl,O.last J (iu ∅ ∅)⟩⟩
   rw[if_neg (~~~J)];split
   .exact aV ⟨rfl,.inr ⟨_,_,_,_,_,rfl,O,∅,∅,∅⟩⟩
   .exact aV ⟨rfl,_,_,_,_,_,rfl,O,∅,∅,∅⟩
 .rintro c C ⟨rfl,f,l,p,F,D,rfl,z,B,u,N⟩;lia
 .exact⟨rfl,_,_,_,_,_,rfl,z,B,u,∅⟩
 rintro c C ⟨rfl,⟨r,Z,rfl,Y⟩|⟨f,l,p,F,D,rfl,z,B,u,N⟩⟩
 .exact aV ⟨v,r,rfl,Y⟩
 refine aL (t7 (mW ⟨rfl,?_⟩));refine aL (g8 (g9 (I:=λy c C=>gW M C/\∃f l p K F D,c=(ae,f,l,p,K,F,D)/\f_ κ a b f l p/\l+1<a.size/\p<b.size/\x+2+y<=l+p) (Q:=λc C=>gW M C/\((∃r Z,c=(aa r,Z)/\gX κ (a.toList++b.toList) r)\/∃f l p K F D,c=(ae,f,l,p,K,F,D)/\f_ κ a b f l p/\l+1<a.size/\p<b.size/\x+1+1<=l+p)) ?_ ?_ ?_) ?_);rotate_left
 .rintro c C ⟨_,f,l,p,K,F,D,rfl,z,B,u,N⟩;lia
 .exact⟨v,_,_,_,_,_,_,rfl,z,B,u,∅⟩
 .rintro c C ⟨v,⟨r,Z,rfl,Y⟩|⟨f,l,p,K,F,D,rfl,z,B,u,N⟩⟩
  .exact aV ⟨v,r,rfl,Y⟩
  .dsimp only;refine aL (oz (aV ⟨⟨v.kind,v.arr,v.pend,v.failed⟩,_,_,_,_,rfl,z,B,u,∅⟩))
 clear B u N z v I0 e1 e2;rintro y c C _ hy ⟨v,f,l,p,K,F,D,rfl,z,B,u,N⟩;clear hx hy;have j0:∀{i j:Nat} (L:i<=j) (q:j<b.size),bO κ (b[i]'∅) b[j]:=λ{i j} L q=>sb i j q L;have rQ:∀{i j:Nat} (L:i<=j) (q:j<a.size),bO κ (a[i]'∅) a[j]:=λ{i j} L q=>sa i j q L;refine(?_:wpS (au d w) A E s _ ?Q _);extract_lets -merge x1 x2 x3 x4 x5 x6 x7 x8 x9 xa xb xc jp;have q:∀g W,gW M W->wpS (au d w) A E s (jp () g) ?Q W:=by
  intro g W H;dsimp -zeta only[jp,x1,x2,x3,x4,x5,x6,x7,x8,x9,xa,xb,xc];refine aL (AX H λW H=>?_);refine aL (fG u ?_);refine aL (BR hO (H.sb hk) (base:=l) (n:=a.size-l) (hint:=0) (hB p u) ∅ hA (λi j L q _=>rQ L ∅) ∅ λk oF gu gx=>?_);dsimp -zeta only;extract_lets -merge y1 jp2;have wK:∀o n,f_ κ a b o n p->l+k<=n->n+1<a.size->wpS (au d w) A E s (jp2 () o n) ?Q W:=by
   intro o n X pX e4;dsimp -zeta only[jp2,y1];refine aL (fG u ?_);have S:=X.pushB u λj q g=>l0 (gx j q ∅ ∅);refine cV (λe5=>?_) λe5=>?_
   .exact aV ⟨H,.inl ⟨_,_,rfl,S.doneA (~~~e5)⟩⟩
   have e5':p+1≠b.size:=by simpa using e5
   refine aL (fG ∅ ?_);refine aL (Bq hO (H.sb hk) (base:=p+1) (n:=b.size-(p+1)) (hint:=0) (hA _ _) ∅ hB (λi j L q _=>j0 L ∅) ∅ λk' m1 m2 m3=>?_);dsimp -zeta only;extract_lets -merge z1 z2 jp3;have wM:∀o m,f_ κ a b o n m->p+1+k'<=m->m<b.size->wpS (au d w) A E s (jp3 () o m) ?Q W:=by
    intro o m wN e6 e7;dsimp -zeta only[jp3,z1,z2];refine aL (fG ∅ ?_);have wO:=wN.pushA ∅ (λj q g=>m3 j q ∅ ∅);refine cV (λe7=>?_) λe7=>?_
    .have T:n+1+1=a.size:=by simpa using e7
     exact aV ⟨H,.inl ⟨_,_,rfl,wO.last T (iu ∅ T)⟩⟩
    have T:n+1+1≠a.size:=by simpa using e7
    refine cV (λe8=>?_) λe8=>?_
    .exact aV ⟨H,.inr ⟨_,_,_,_,_,_,rfl,wO,∅,∅,∅⟩⟩
    .exact aV ⟨H,_,_,_,_,_,_,rfl,wO,∅,∅,∅⟩
   clear_value jp3;refine cV (λEd=>?_) (λEd=>?_)
   .have wN:=S.extB (k:=k') ∅ (λi P g1 g2 j q g3=>bO.trans (l0 (m2 i P g1 g2)) (rQ g3 q));refine cV (λe6=>?_) λe6=>?_
    .exact aV ⟨H,.inl ⟨_,_,rfl,wN.doneA (~~~e6)⟩⟩
    have e6':p+1+k'≠b.size:=by simpa using e6
    exact wM _ _ wN ∅ ∅
   .exact wM _ _ S ∅ ∅
  clear_value jp2;refine cV (λhk0=>?_) (λhk0=>?_)
  .have X:f_ κ a b (f++a.extract l (l+k)) (l+k) p:=z.extA ∅ λi P g1 g2 j q g3=>(gu i P g1 g2).trans (j0 g3 q);refine cV (λJ=>?_) λJ=>?_
   .have pX:l+k+1=a.size:=by simpa using J
    exact aV ⟨H,.inl ⟨_,_,rfl,X.last pX (iu ∅ pX)⟩⟩
   have pX:l+k+1≠a.size:=by simpa using J
   refine cV (λe4=>?_) λe4=>?_
   .exact aV ⟨H,.inl ⟨_,_,rfl,X.doneB (~~~e4)⟩⟩
   have e4':l+k≠a.size:=by simpa using e4
   exact wK _ _ X ∅ ∅
  .exact wK _ _ z ∅ ∅
 exact cV (λ_=>q _ _ v) λ_=>q _ _ v
end
def BP(d:KeyKind):KeyKind where
 α:=d.α
 blt:=λa b=>d.blt b a
 irrefl:=d.irrefl
 trans:=λa b c g f=>d.trans c b a f g
 negTrans:=λa b c h=>(d.negTrans c b a h).symm
 total:=λa b g f=>d.total a b f g
 keyOf:=d.keyOf
 dflt:=d.dflt
section
variable{κ:KeyKind}{g:gI}
theorem uE{x y:Keyed}(h:bO κ y x):bO (BP κ) x y:=h
theorem Es{a:Array Keyed}{n:Nat}(h:0<n)(b:n<=a.size):(a.toList.take n).reverse=(a[n-1]'∅)::(a.toList.take (n-1)).reverse:=by
 obtain⟨m,rfl⟩:∃m,n=m+1:=⟨n-1,∅⟩
 rw[wc (by simp;lia),JP];simp
theorem HU(a:Array Keyed)(p n:Nat)(b:p<=n):a.toList.take n=a.toList.take p++(a.extract p n).toList:=by
 rw[lM]
 conv=>lhs;rw[show n=p+(n-p) by lia]
 rw[List.take_add]
theorem sy{a:Array Keyed}{n:Nat}(d:n<=a.size){x:Keyed}(h:x∈a.toList.take n):∃j,∃f:j<a.size,j<n/\a[j]=x:=by
 obtain⟨m,b,e⟩:=oy h;rw[Ds]at e;have c:m<n:=by simp at b;lia
 exact⟨m,∅,c,by simpa using e⟩
theorem Bt{a:Array Keyed}{p n:Nat}(d:n<=a.size){x:Keyed}(h:x∈(a.extract p n).toList):∃j,∃f:j<a.size,p<=j/\j<n/\a[j]=x:=by
 rw[lM]at h;obtain⟨m,b,e⟩:=oy h;rw[Ds,zO]at e;have c:p+m<n:=by simp at b;lia
 exact⟨p+m,∅,∅,c,by simpa using e⟩
theorem qx(a:Array Keyed)(n:Nat):(a.extract 0 n).toList=a.toList.take n:=by rw[lM];simp
structure ge(κ:KeyKind)(a b c:Array Keyed)(f d:Nat):Prop where
 ms:MS (BP κ) (a.toList++b.toList) c.toList (a.toList.take f).reverse (b.toList.take d).reverse
 la:f<=a.size
 lb:d<=b.size
variable{a b c:Array Keyed}{f d:Nat}
theorem ge.pushA(h:ge κ a b c f d)(o:0<f)(q:f-1<a.size)(l:∀j (i:j<b.size),j<d->bO κ b[j] a[f-1]):ge κ a b (c.push a[f-1]) (f-1) d:=by refine⟨?_,∅,h.lb⟩;rw[tW];refine MS.stepA (by rw[Dt,<-Es o h.la];exact h.ms) λu n v m=>?_;obtain⟨j,i,p,rfl⟩:=sy h.lb (rq.mp m);rw[gH.mp n];exact uE (l j i p)
theorem ge.pushB(h:ge κ a b c f d)(o:0<d)(p:d-1<b.size)(l:∀j (i:j<a.size),j<f->bO κ a[j] b[d-1]):ge κ a b (c.push b[d-1]) f (d-1):=by refine⟨?_,h.la,∅⟩;rw[tW];refine MS.stepB (by rw[Dt,<-Es o h.lb];exact h.ms) λu n v m=>?_;obtain⟨j,i,q,rfl⟩:=sy h.la (rq.mp m);rw[gH.mp n];exact uE (l j i q)
theorem ge.extA{p:Nat}(h:ge κ a b c f d)(l:p<=f)(o:∀i (n:i<a.size),p<=i->i<f->∀j (m:j<b.size),j<d->bO κ b[j] a[i]):ge κ a b (c++(a.extract p f).reverse) p d:=by refine⟨?_,cX l h.la,h.lb⟩;rw[jl,Array.toList_reverse];refine MS.stepA (by rw[<-JP,<-HU _ _ _ l];exact h.ms) λu r v q=>?_;obtain⟨j,m,x,rfl⟩:=sy h.lb (rq.mp q);obtain⟨i,n,w,s,rfl⟩:=Bt h.la (rq.mp r);exact uE (o i n w s j m x)
theorem ge.extB{p:Nat}(h:ge κ a b c f d)(l:p<=d)(o:∀i (n:i<b.size),p<=i->i<d->∀j (m:j<a.size),j<f->bO κ a[j] b[i]):ge κ a b (c++(b.extract p d).reverse) f p:=by refine⟨?_,h.la,cX l h.lb⟩;rw[jl,Array.toList_reverse];refine MS.stepB (by rw[<-JP,<-HU _ _ _ l];exact h.ms) λu r v q=>?_;obtain⟨j,m,x,rfl⟩:=sy h.la (rq.mp q);obtain⟨i,n,w,s,rfl⟩:=Bt h.lb (rq.mp r);exact uE (o i n w s j m x)
theorem As{T:List Keyed}{r q:Array Keyed}(h:gX (BP κ) T q)(e:r.toList=q.toList.reverse):gX κ T r:=by refine⟨by rw[e];exact(JQ _).trans h.1,?_⟩;rw[e,JR];exact h.2
theorem ge.doneA(h:ge κ a b c f d)(e:f=0):gX κ (a.toList++b.toList) (a.extract 0 f++b.extract 0 d++c.reverse):=by have:=h.ms;rw[e,Di,List.reverse_nil]at this;refine As (q:=(c.toList++(b.toList.take d).reverse).toArray) (this.swap.endA (by simp)) ?_;rw[jl,jl,qx,qx,e];simp
theorem ge.doneB(h:ge κ a b c f d)(e:d=0):gX κ (a.toList++b.toList) (a.extract 0 f++b.extract 0 d++c.reverse):=by have:=h.ms;rw[e,Di,List.reverse_nil]at this;refine As (q:=(c.toList++(a.toList.take f).reverse).toArray) (this.endA (by simp)) ?_;rw[jl,jl,qx,qx,e];simp
theorem ge.first(h:ge κ a b c f d)(e:d=1)(p:∀j (n:j<a.size),bO κ (b[0]'(by have:=h.lb;lia)) a[j]):gX κ (a.toList++b.toList) (b.extract 0 d++a.extract 0 f++c.reverse):=by
 refine As (q:=(c.toList++((a.toList.take f).reverse++(b.toList.take d).reverse)).toArray) (h.ms.swap.last (λu m v l=>?_) (by simp)) ?_
 .obtain⟨i,o,s,rfl⟩:=sy h.la (rq.mp m);obtain⟨j,n,r,rfl⟩:=sy h.lb (rq.mp l);have:j=0:=∅
  subst this;exact uE (p i o)
 .rw[jl,jl,qx,qx];simp
end
section
variable{f:aN}{w:aG}{A:aT}{E:ai->am->Prop}{s:am}{d:KeyKind}{l:gI}
theorem NK(hO:ig d l f w A s){T:bJ}(hk:SB l T){a b:Array Keyed}{Q:Array Keyed->bJ->Prop}(ha:0<a.size)(hb:0<b.size)(hA:∀i (hi:i<a.size),hU d a[i]) (hB:∀i (hi:i<b.size),hU d b[i]) (sa:ve d a) (sb:ve d b)(h0:bO d b[0] a[0]) (hl:∀j (z:j<b.size),bO d b[j] a[a.size-1])(h:∀r K,gW T K->gX d (a.toList++b.toList) r->Q r K):wpS (au f w) A E s (HB a b) Q T:=by
 have j0:∀{i j:Nat} (S:i<=j) (z:j<b.size),bO d (b[i]'∅) b[j]:=λ{i j} S z=>sb i j z S;have rQ:∀{i j:Nat} (S:i<=j) (z:j<a.size),bO d (a[i]'∅) a[j]:=λ{i j} S z=>sa i j z S;have hf:∀j (z:j<a.size),bO d b[0] a[j]:=λj z=>h0.trans (rQ ∅ z);have I0:ge d a b #[a[a.size-1]] (a.size-1) b.size:=by
  have C:ge d a b #[] a.size b.size:=by
   refine⟨⟨?_,by simp,?_,?_,by simp,by simp⟩,∅,∅⟩
   .simp only[<-fL,t9,kw];exact List.Perm.append (JQ _) (JQ _)
   .simp only[<-fL,t9,JR];exact sa.pw
   .simp only[<-fL,t9,JR];exact sb.pw
  exact C.pushA ha ∅ λj z _=>hl j z
 unfold HB;refine aL (t7 (mW ⟨rfl,?_⟩));refine aL (fG ∅ ?_);refine cV (λe1=>aV (h _ _ .rfl (I0.doneA (~~~e1)))) λe1=>?_;have um:a.size-1≠0:=by simpa using e1
 refine cV (λe2=>?_) λe2=>?_
 .have l8:b.size=1:=by simpa using e2
  exact aV (h _ _ .rfl (I0.first l8 hf))
 have l8:b.size≠1:=by simpa using e2
 refine aL (lZ ?_);refine aL (g8 (g9 (I:=λx c K=>gW T K/\∃u v q P,c=(ae,v,q,u,P)/\ge d a b u v q/\0<v/\v<=a.size/\1<q/\q<=b.size/\x+1+v+q<=a.size+b.size) (Q:=λc K=>gW T K/\∃r,c.1=aa r/\gX d (a.toList++b.toList) r) ?_ ?_ ?_) ?_);rotate_left
 .rintro c K ⟨_,u,v,q,P,rfl,B,C,M,L,O,W⟩;lia
 .exact⟨.rfl,_,_,_,_,rfl,I0,∅,∅,∅,∅,∅⟩
 .rintro⟨c1,c⟩ K ⟨J,r,rfl,hD⟩;exact aV (h r K J hD)
 rintro x c K _ hx ⟨J,u,v,q,P,rfl,B,C,M,L,O,W⟩;refine aL (g8 (g9 (I:=λy c F=>F=K/\∃u v q H G,c=(ae,v,q,u,H,G)/\ge d a b u v q/\0<v/\v<=a.size/\1<q/\q<=b.size/\x+1+y+v+q<=a.size+b.size) (Q:=λc F=>F=K/\((∃r c',c=(aa r,c')/\gX d (a.toList++b.toList) r)\/∃u v q H G,c=(ae,v,q,u,H,G)/\ge d a b u v q/\0<v/\v<=a.size/\1<q/\q<=b.size/\x+1+1+v+q<=a.size+b.size)) ?_ ?_ ?_) ?_)
 .rintro y c F _ hy ⟨rfl,u,v,q,H,G,rfl,B,C,M,L,O,W⟩;dsimp only;refine aL (fG ∅ (aL (fG ∅ (aL (vL hO (J.sb hk) (hB (q-1) ∅) (hA (v-1) ∅) ?_)))));cases e:d.blt (kO d (b[q-1]'∅)) (kO d (a[v-1]'∅))with
  |true=>
   dsimp only;rw[if_pos rfl];refine aL (fG ∅ ?_);have X:=B.pushA C ∅ λj z gv=>bO.trans (j0 (show j<=q-1 by lia) ∅) (l0 e);refine cV (λN=>?_) λN=>?_
   .exact aV ⟨rfl,.inl ⟨_,_,rfl,X.doneA (~~~N)⟩⟩
   have pX:v-1≠0:=by simpa using N
   refine cV (λe4=>?_) λe4=>?_
   .exact aV ⟨rfl,.inr ⟨_,_,_,_,_,rfl,X,∅,∅,∅,∅,∅⟩⟩
   .exact aV ⟨rfl,_,_,_,_,_,rfl,X,∅,∅,∅,∅,∅⟩
  |false=>
   dsimp only;rw[if_neg (by simp)];refine aL (fG ∅ ?_);have X:=B.pushB ∅ ∅ λj z gv=>bO.trans (rQ (show j<=v-1 by lia) ∅) (show bO d (a[v-1]'∅) (b[q-1]'∅)from e);refine cV (λN=>?_) λN=>?_
   .exact aV ⟨rfl,.inl ⟨_,_,rfl,X.first (~~~N) hf⟩⟩
   have pX:q-1≠1:=by simpa using N
   refine cV (λe4=>?_) λe4=>?_
   .exact aV ⟨rfl,.inr ⟨_,_,_,_,_,rfl,X,∅,∅,∅,∅,∅⟩⟩
   .exact aV ⟨rfl,_,_,_,_,_,rfl,X,∅,∅,∅,∅,∅⟩
 .rintro c F ⟨rfl,u,v,q,H,G,rfl,B,C,M,L,O,W⟩;lia
 .exact⟨rfl,_,_,_,_,_,rfl,B,C,M,L,O,∅⟩
 rintro c F ⟨rfl,⟨r,c',rfl,hD⟩|⟨u,v,q,H,G,rfl,B,C,M,L,O,W⟩⟩
 .exact aV ⟨J,r,rfl,hD⟩
 refine aL (t7 (mW ⟨rfl,?_⟩));refine aL (g8 (g9 (I:=λy c F=>gW T F/\∃u v q P H G,c=(ae,v,q,u,P,H,G)/\ge d a b u v q/\0<v/\v<=a.size/\1<q/\q<=b.size/\x+2+y+v+q<=a.size+b.size) (Q:=λc F=>gW T F/\((∃r c',c=(aa r,c')/\gX d (a.toList++b.toList) r)\/∃u v q P H G,c=(ae,v,q,u,P,H,G)/\ge d a b u v q/\0<v/\v<=a.size/\1<q/\q<=b.size/\x+1+1+v+q<=a.size+b.size)) ?_ ?_ ?_) ?_);rotate_left
 .rintro c F ⟨_,u,v,q,P,H,G,rfl,B,C,M,L,O,W⟩;lia
 .exact⟨J,_,_,_,_,_,_,rfl,B,C,M,L,O,∅⟩
 .rintro c F ⟨J,⟨r,c',rfl,hD⟩|⟨u,v,q,P,H,G,rfl,B,C,M,L,O,W⟩⟩
  .exact aV ⟨J,r,rfl,hD⟩
  .dsimp only;exact aL (AX J λZ D=>aV ⟨D,_,_,_,_,rfl,B,C,M,L,O,∅⟩)
 clear C M L O W B J I0 e1 e2;rintro y c F _ hy ⟨J,u,v,q,P,H,G,rfl,B,C,M,L,O,W⟩;clear hx hy;refine(?_:wpS (au f w) A E s _ ?Q _);extract_lets -merge x1 x2 x3 x4 x5 x6 x7 x8 x9 xa xb xc jp;have z:∀g Z,gW T Z->wpS (au f w) A E s (jp () g) ?Q Z:=by
  intro g Z D;dsimp -zeta only[jp,x1,x2,x3,x4,x5,x6,x7,x8,x9,xa,xb,xc];refine aL (AX D λZ D=>?_);refine aL (fG ∅ ?_);refine aL (BR hO (D.sb hk) (base:=0) (n:=v) (hint:=v-1) (hB (q-1) ∅) ∅ hA (λi j S z _=>rQ S ∅) ∅ λp oF gu gx=>?_);dsimp -zeta only;extract_lets -merge y1 y2 jp2;have wK:∀n o,ge d a b o n q->0<n->n<=p->wpS (au f w) A E s (jp2 () n o) ?Q Z:=by
   intro n o wL pX e4;dsimp -zeta only[jp2,y1,y2];refine aL (fG ∅ ?_);have Y:=wL.pushB ∅ ∅ λj z g=>gu j z ∅ ∅;refine cV (λe5=>?_) λe5=>?_
   .exact aV ⟨D,.inl ⟨_,_,rfl,Y.first (~~~e5) hf⟩⟩
   have e5':q-1≠1:=by simpa using e5
   refine aL (fG ∅ ?_);refine aL (Bq hO (D.sb hk) (base:=0) (n:=q-1) (hint:=q-1-1) (hA _ _) ∅ hB (λi j S z _=>j0 S ∅) ∅ λp' m1 m2 m3=>?_);dsimp -zeta only;extract_lets -merge z1 z2 z3 jp3;have wM:∀m o,ge d a b o n m->1<m->m<=p'->wpS (au f w) A E s (jp3 () m o) ?Q Z:=by
    intro m o wN e6 e7;dsimp -zeta only[jp3,z1,z2,z3];refine aL (fG ∅ ?_);have wO:=wN.pushA ∅ ∅ (λj z g=>l0 (m2 j z ∅ ∅));refine cV (λe7=>?_) λe7=>?_
    .exact aV ⟨D,.inl ⟨_,_,rfl,wO.doneA (~~~e7)⟩⟩
    have e7':n-1≠0:=by simpa using e7
    refine cV (λe8=>?_) λe8=>?_
    .exact aV ⟨D,.inr ⟨_,_,_,_,_,_,rfl,wO,∅,∅,∅,∅,∅⟩⟩
    .exact aV ⟨D,_,_,_,_,_,_,rfl,wO,∅,∅,∅,∅,∅⟩
   clear_value jp3;refine cV (λEd=>?_) (λEd=>?_)
   .have wN:=Y.extB (p:=p') ∅ (λi hi g1 g2 j z g3=>bO.trans (rQ (show j<=n-1 by lia) ∅) (m3 i hi ∅ ∅));refine cV (λe6=>?_) λe6=>?_
    .exact aV ⟨D,.inl ⟨_,_,rfl,wN.first (~~~e6) hf⟩⟩
    refine cV (λe9=>?_) λe9=>?_
    .exact aV ⟨D,.inl ⟨_,_,rfl,wN.doneB (~~~e9)⟩⟩
    have e6':p'≠1:=by simpa using e6
    have e9':p'≠0:=by simpa using e9
    exact wM _ _ wN ∅ ∅
   .exact wM _ _ Y ∅ ∅
  clear_value jp2;refine cV (λhk0=>?_) (λhk0=>?_)
  .have wL:ge d a b (u++(a.extract p v).reverse) p q:=B.extA ∅ λi hi g1 g2 j z g3=>bO.trans (j0 (show j<=q-1 by lia) ∅) (l0 (gx i hi ∅ ∅));refine cV (λN=>?_) λN=>?_
   .exact aV ⟨D,.inl ⟨_,_,rfl,wL.doneA (~~~N)⟩⟩
   have pX:p≠0:=by simpa using N
   exact wK _ _ wL ∅ ∅
  .exact wK _ _ B ∅ ∅
 exact cV (λ_=>z _ _ J) λ_=>z _ _ J
end
def putL(a:Array Keyed)(c:Nat)(l:List Keyed):Array Keyed:=l.zipIdx.foldl (λa (b:Keyed×Nat)=>a.setIfInBounds (c+b.2) b.1) a
theorem AC:∀(l:List Keyed) (n b:Nat) (a:Array Keyed),b+n+l.length<=a.size -> ((l.zipIdx n).foldl (λa (c:Keyed×Nat)=>a.setIfInBounds (b+c.2) c.1) a).size=a.size /\ ∀k,((l.zipIdx n).foldl (λa (c:Keyed×Nat)=>a.setIfInBounds (b+c.2) c.1) a)[k]?=if b+n<=k/\k<b+n+l.length then l[k-(b+n)]? else a[k]?
 |[],n,b,a,_=>⟨rfl,λk=>by rw[if_neg (by simp)];rfl⟩
 |x::l,n,b,a,h=>by
  have g:b+(n+1)+l.length<=(a.setIfInBounds (b+n) x).size:=by simp at h ⊢;lia
  obtain⟨j,i⟩:=AC l (n+1) b (a.setIfInBounds (b+n) x) g;rw[List.zipIdx_cons,jX];refine⟨by rw[j];simp,λk=>?_⟩;rw[i];by_cases f:b+n=k
  .subst f;rw[if_neg ∅,if_pos (by simp)];rw[Array.getElem?_setIfInBounds_self_of_lt (by simp at h;lia)];simp
  .by_cases d:b+(n+1)<=k/\k<b+(n+1)+l.length
   .rw[if_pos d,if_pos (by simp;lia)];rw[show k-(b+n)=k-(b+(n+1))+1 by lia,List.getElem?_cons_succ]
   .rw[if_neg d,if_neg (by simp;lia),Array.getElem?_setIfInBounds_ne f]
theorem MJ{a:Array Keyed}{b:Nat}{l:List Keyed}(h:b+l.length<=a.size):(putL a b l).size=a.size:=(AC l 0 b a ∅).1
theorem BB{a:Array Keyed}{b:Nat}{l:List Keyed}(h:b+l.length<=a.size)(k:Nat):(putL a b l)[k]?=if b<=k/\k<b+l.length then l[k-b]? else a[k]? :=(AC l 0 b a ∅).2 k
theorem RI{a:Array Keyed}{b n:Nat}{l:List Keyed}(h:b+n<=a.size)(d:l.Perm ((a.toList.drop b).take n)):(putL a b l).toList.Perm a.toList:=by
 have f:l.length=n:=by rw[d.length_eq,lQ,mP];simp;lia
 have e:(putL a b l).toList=a.toList.take b++(l++a.toList.drop (b+n)):=by
  apply pI;intro k;rw[pH,BB ∅,List.getElem?_append,List.getElem?_append,lQ,zP,zJ,f];simp only[fL,pH];rw[show min b a.size=b by lia];by_cases c:k<b
  .rw[if_neg ∅,if_pos c,if_pos c]
  .rw[if_neg c];by_cases i:k<b+n
   .rw[if_pos ∅,if_pos ∅]
   .rw[if_neg ∅,if_neg ∅];congr 1;lia
 rw[e];have g:a.toList=a.toList.take b++((a.toList.drop b).take n++a.toList.drop (b+n)):=by rw[<-List.drop_drop,oj,oj]
 conv=>rhs;rw[g]
 exact JG _ (List.Perm.append_right _ d)
section
variable{κ:KeyKind}{kz:gI}
def Run(κ:KeyKind)(a:Array Keyed)(b n:Nat):Prop:=∀i j x y,b<=i->i<=j->j<b+n->a[i]?=aa x->a[j]?=aa y->bO κ x y
theorem bO.refl(x:Keyed):bO κ x x:=mY _
structure Wr(a a':Array Keyed)(lo n:Nat):Prop where
 perm:a'.toList.Perm a.toList
 size:a'.size=a.size
 out:∀k,k<lo\/lo+n<=k->a'[k]?=a[k]?
theorem Run.keep{a m:Array Keyed}{c n b f:Nat}(h:Run κ a c n)(w:Wr a m b f)(d:c+n<=b\/b+f<=c):Run κ m c n:=by intro i j x y q p o l g;rw[w.out i ∅]at l;rw[w.out j ∅]at g;exact h i j x y q p o l g
end
section
variable{b:aN}{w:aG}{A:aT}{E:ai->am->Prop}{s:am}{κ:KeyKind}{kz:gI}
theorem SN{a:Type}{M:Model}{Q:PUnit->a->Prop}{d c:a}(h:Q ⟨⟩ c):wpS M A E s (set c:StateT a Sem PUnit) Q d:=by unfold wpS;rw[StateT.run_set];exact aD ⟨rfl,h⟩
theorem UU(a:Array Keyed){p q t:Nat}(d:p<=q)(c:q<=t):(a.extract p q).toList++(a.extract q t).toList=(a.extract p t).toList:=by rw[lM,lM,lM,show t-p=(q-p)+(t-q) by lia,List.take_add,List.drop_drop,show p+(q-p)=q by lia]
theorem T3{a:Array Keyed}{c d o k f:Nat}(Y:c+d+o<=a.size)(hk:k<d)(h0:0<f)(Z:f<=o)(X:Run κ a c d)(W:Run κ a (c+d) o)(a1:∀i (l:i<a.size),c<=i->i<c+k->bO κ a[i] (a[c+d]'∅)) (b2:∀i (l:i<a.size),c+d+f<=i->i<c+d+o->bO κ (a[c+d-1]'∅) a[i]){r:Array Keyed} (u:gX κ ((a.extract (c+k) (c+d)).toList++(a.extract (c+d) (c+d+f)).toList) r):Wr a (putL a (c+k) r.toList) c (d+o)/\Run κ (putL a (c+k) r.toList) c (d+o):=by
 rw[UU _ ∅ ∅]at u;have bF:r.toList.length=d-k+f:=by rw[u.1.length_eq,lM,lQ,mP,fL];lia
 have D:c+k+r.toList.length<=a.size:=∅
 have B:∀m∈r.toList,∃t,∃C:t<a.size,c+k<=t/\t<c+d+f/\a[t]=m:=λm B=>Bt ∅ (u.1.mem_iff.mp B);have G:∀{i j:Nat} (z:i<=j) (h:j<c+d),c<=i->bO κ (a[i]'∅) (a[j]'∅):=λ{i j} z h l=>X i j _ _ l z h (getElem?_pos _ _ _) (getElem?_pos _ _ _);have F:∀{i j:Nat} (z:i<=j) (h:j<c+d+o),c+d<=i->bO κ (a[i]'∅) (a[j]'∅):=λ{i j} z h l=>W i j _ _ l z h (getElem?_pos _ _ _) (getElem?_pos _ _ _);have pS:∀i (l:i<a.size) j (h:j<a.size),c<=i->i<c+k->c+d<=j->j<c+d+o->bO κ a[i] a[j]:=λi l j h c1 I M c4=>(a1 i l c1 I).trans (F M c4 (aZ _));refine⟨⟨?_,MJ D,λq hq=>?_⟩,?_⟩
 .refine RI (n:=d-k+f) ∅ ?_;have:=u.1;rwa[lM,show c+d+f-(c+k)=d-k+f by lia]at this
 .rw[BB D,if_neg ∅]
 .intro i j x y h1 J h3 p g;rw[BB D]at p g;by_cases L:c+k<=i/\i<c+k+r.toList.length
  .rw[if_pos L]at p;obtain⟨t,C,T,S,rfl⟩:=B x (ph p);by_cases v:c+k<=j/\j<c+k+r.toList.length
   .rw[if_pos v]at g;by_cases H:i=j
    .subst H;rw[p]at g;cases g;exact bO.refl _
    .obtain⟨Q,P⟩:=c_.mp p;obtain⟨O,N⟩:=c_.mp g;have:=t8.mp u.2 (i-(c+k)) (j-(c+k)) Q O ∅;rw[P,N]at this;exact this
   .rw[if_neg v]at g;obtain⟨h,rfl⟩:=mV.mp g;by_cases K:t<c+d
    .exact(G (show t<=c+d-1 by lia) ∅ ∅).trans (b2 j h ∅ ∅)
    .exact F ∅ ∅ ∅
  .rw[if_neg L]at p;obtain⟨l,rfl⟩:=mV.mp p;by_cases v:c+k<=j/\j<c+k+r.toList.length
   .rw[if_pos v]at g;obtain⟨t,C,T,S,rfl⟩:=B y (ph g);by_cases K:t<c+d
    .exact G ∅ K ∅
    .exact pS i l t C ∅ ∅ ∅ ∅
   .rw[if_neg v]at g;obtain⟨h,rfl⟩:=mV.mp g;by_cases I:i<c+k
    .by_cases M:j<c+k
     .exact G J ∅ h1
     .exact pS i l j h ∅ I ∅ ∅
    .exact F J ∅ ∅
theorem EL{a:Array Keyed}{d c f:Nat}(p:d+c+f<=a.size)(v:0<c)(q:0<f)(m:Run κ a d c)(l:Run κ a (d+c) f)(r:bO κ (a[d+c-1]'∅) (a[d+c]'∅)):Run κ a d (c+f):=by
 intro i j x y o n z h g;by_cases u:j<d+c
 .exact m i j x y o n u h g
 .by_cases B:i<d+c
  .exact((m i (d+c-1) x _ o ∅ ∅ h (getElem?_pos _ _ _)).trans r).trans (l (d+c) j _ y ∅ ∅ ∅ (getElem?_pos _ _ _) g)
  .exact l i j x y ∅ n ∅ h g
theorem Wr.same{a:Array Keyed}{lo n:Nat}:Wr a a lo n:=⟨tQ _,rfl,λ_ _=>rfl⟩
theorem RC(I:ig κ kz b w A s){m:bJ}(hk:SB kz m)(v:∀i (l:i<(arrOf m).size),hU κ (arrOf m)[i]){i c a pw f C:Nat}(M:(bo m)[i]?=aa (c,a,pw)) (L:(bo m)[i+1]?=aa (c+a,f,C)) (J:0<a) (D:0<f) (o:c+a+f<=(arrOf m).size)(y:Run κ (arrOf m) c a) (x:Run κ (arrOf m) (c+a) f) {Q:Bool->bJ->Prop}(h:∀q,SB kz q->bo q=((bo m).setIfInBounds i (c,a+f,pw)).eraseIdxIfInBounds (i+1)->Wr (arrOf m) (arrOf q) c (a+f)->Run κ (arrOf q) c (a+f)->Q ah q):wpS (au b w) A E s (mergeAt' i) Q m:=by
 obtain⟨kd,d,H,mg,fl⟩:=m;have P:kz=kd:=hk.kind.symm;have kL:fl=ae:=hk.failed;subst kL;subst P;replace v:∀i (l:i<d.size),hU κ d[i]:=v;replace o:c+a+f<=d.size:=o;replace y:Run κ d c a:=y;replace x:Run κ d (c+a) f:=x;replace M:H[i]?=aa (c,a,pw):=M;replace L:H[i+1]?=aa (c+a,f,C):=L;replace h:∀q,SB kz q->bo q=(H.setIfInBounds i (c,a+f,pw)).eraseIdxIfInBounds (i+1)->Wr d (arrOf q) c (a+f)->Run κ (arrOf q) c (a+f)->Q ah q:=h;have g1:∀{i j:Nat} (p:i<=j) (g:j<c+a),c<=i->bO κ (d[i]'∅) (d[j]'∅):=λ{i j} p g l=>y i j _ _ l p g (getElem?_pos _ _ _) (getElem?_pos _ _ _);have g2:∀{i j:Nat} (p:i<=j) (g:j<c+a+f),c+a<=i->bO κ (d[i]'∅) (d[j]'∅):=λ{i j} p g l=>x i j _ _ l p g (getElem?_pos _ _ _) (getElem?_pos _ _ _);unfold mergeAt';refine aL (lZ ?_);dsimp only;rw[M,L];dsimp only;refine aL (SN ?_);generalize (H.setIfInBounds i (c,a+f,pw)).eraseIdxIfInBounds (i+1)=pend at *;refine aL (fG ∅ ?_);refine aL (BR I ⟨rfl,rfl⟩ (base:=c) (n:=a) (hint:=0) (v _ _) ∅ v (λi j p g l=>g1 p g l) J λk m1 Z m3=>?_);dsimp only;refine cV (λW=>?_) λW=>?_
 .have X:a<=k:=by have:a-k=0:=(~~~W);lia
  refine aV (h _ ⟨rfl,rfl⟩ rfl Wr.same (EL o J D y x (Z _ _ ∅ ∅)))
 have X:k<a:=by have:a-k≠0:=(~~~W);lia
 refine aL (fG ∅ ?_);refine aL (Bq I ⟨rfl,rfl⟩ (base:=c+a) (n:=f) (hint:=f-1) (v _ _) ∅ v (λi j p g l=>g2 p g l) ∅ λu n1 Y N=>?_);dsimp only;have F:c+k+(a-k)-1=c+a-1:=∅
 simp only[F]at Y N;refine cV (λT=>?_) λT=>?_
 .have l8:u=0:=by simpa using T
  refine aV (h _ ⟨rfl,rfl⟩ rfl Wr.same (EL o J D y x (N _ _ ∅ ∅)))
 have l8:u≠0:=by simpa using T
 have xs:(d.extract (c+k) (c+a)).size=a-k:=by simp;lia
 have ys:(d.extract (c+a) (c+a+u)).size=u:=by simp;lia
 refine cV (λ_=>?_) λ_=>?_
 all_goals
  first
   |refine aL (RG I ⟨rfl,rfl⟩ ∅ ∅ ?_ ?_ ?_ ?_ ?_ ?_ ?_)
   |refine aL (NK I ⟨rfl,rfl⟩ ∅ ∅ ?_ ?_ ?_ ?_ ?_ ?_ ?_)
  .intro j g;rw[oA];exact v _ _
  .intro j g;rw[oA];exact v _ _
  .intro i j g p;rw[oA,oA];exact g1 ∅ ∅ ∅
  .intro i j g p;rw[oA,oA];exact g2 ∅ ∅ ∅
  .rw[oA,oA];exact l0 (m3 _ _ ∅ ∅)
  .intro j g;rw[oA,oA];have:=Y (c+a+j) ∅ ∅ ∅;have e:c+k+((d.extract (c+k) (c+a)).size-1)=c+a-1:=∅
   simp only[e];exact l0 this
  .rintro r ⟨O,G,K,mg',S⟩ ⟨B,z,c3,c4⟩ hD;change O=kz at B;change G=d at z;change K=pend at c3;change S=ae at c4;subst B z c3 c4;refine aL (oz ?_);refine aL (lZ ?_);obtain⟨w1,w2⟩:=T3 o X ∅ n1 y x (λi l B z=>Z i l B z) (λi l B z=>N i l B z) hD;exact aV (h _ ⟨rfl,rfl⟩ rfl w1 w2)
end
section
variable{κ:KeyKind}{kz:gI}
theorem AO{a:Array Keyed}{i:Nat}{x:Keyed}(h:a[i]?=aa x):KK κ a i=kO κ x:=by unfold KK kO;rw[h]
theorem s_{a:Array Keyed}{i:Nat}(h:i<a.size):KK κ a i=kO κ a[i]:=AO (getElem?_pos _ _ _)
def iz(κ:KeyKind)(a:Array Keyed)(lo n:Nat):Prop:=∀i j,lo<=i->i<=j->j<lo+n->κ.kle (KK κ a i) (KK κ a j)
def oO(κ:KeyKind)(a:Array Keyed)(lo n:Nat):Prop:=∀i j,lo<=i->i<=j->j<lo+n->κ.kle (KK κ a j) (KK κ a i)
theorem iz.run{a:Array Keyed}{b n:Nat}(h:iz κ a b n):Run κ a b n:=by intro i j x y l g f d c;have:=h i j l g f;rw[AO d,AO c]at this;exact this
theorem Wr.trans{a b c:Array Keyed}{d n:Nat}(g:Wr a b d n)(f:Wr b c d n):Wr a c d n :=⟨f.perm.trans g.perm,f.size.trans g.size,λk h=>(f.out k h).trans (g.out k h)⟩
theorem Wr.mono{a b:Array Keyed}{d n c f:Nat}(h:Wr a b d n)(j:c<=d)(i:d+n<=c+f):Wr a b c f :=⟨h.perm,h.size,λk g=>h.out k ∅⟩
theorem KC{a:Array Keyed}{i j:Nat}(b:j<=a.size)(d:i<=j):Wr a (mirror a i j ((j-i) / 2)) i (j-i) :=⟨Dv.mp (mirror_perm _ _ _ _),mirror_size _ _ _ _,λk c=>by rw[getElem?_mirror_all b,if_neg ∅]⟩
theorem Pe{a:Array Keyed}{b d:Nat}(c:b<a.size)(f:d<=b):Wr a (bubble a b d) (b-d) (d+1) :=⟨Dv.mp (bubble_perm _ _ _),bubble_size _ _ _,λk g=>by rw[getElem?_bubble c d f,if_neg ∅,if_neg ∅]⟩
def AllK(κ:KeyKind)(a:Array Keyed):Prop:=∀i (b:i<a.size),hU κ a[i]
theorem AllK.of{a b:Array Keyed}(h:AllK κ a)(p:b.toList.Perm a.toList):AllK κ b:=by intro i f;have c:b[i]∈a.toList:=p.mem_iff.mp (by simp);obtain⟨j,d,e⟩:=oy c;rw[<-e];simpa using h j (~~~d)
end
section
variable{d:aN}{w:aG}{A:aT}{E:ai->am->Prop}{s:am}{κ:KeyKind}{f:gI}
theorem qi(m:ig κ f d w A s){a:bJ}(l:SB f a)(g:AllK κ (arrOf a)){i j:Nat}{Q:Option Bool->bJ->Prop}(c:i<(arrOf a).size)(b:j<(arrOf a).size)(h:Q (aa (κ.blt (KK κ (arrOf a) i) (KK κ (arrOf a) j))) a):wpS (au d w) A E s (ltAt' i j) Q a:=by rw[s_ c,s_ b]at h;rw[ltAt'_eq];refine aL (lZ ?_);exact aL (fG c (aL (fG b (vL m l (g i c) (g j b) h))))
theorem vk{b a:bJ}{lo n i j:Nat}{Q:Unit->bJ->Prop}(m:SB f a)(o:bo a=bo b)(l:Wr (arrOf b) (arrOf a) lo n)(r:i<=j)(p:j<=(arrOf b).size)(q:lo<=i)(u:j<=lo+n)(h:∀c,SB f c->bo c=bo b->Wr (arrOf b) (arrOf c) lo n->(∀k,KK κ (arrOf c) k=if i<=k/\k<j then KK κ (arrOf a) (i+j-1-k)else KK κ (arrOf a) k)->Q () c):wpS (au d w) A E s (reverseSlice' i j) Q a:=by
 have g:j<=(arrOf a).size:=by rw[l.size];exact p
 exact wpS_reverse (h _ ⟨m.kind,m.failed⟩ o (l.trans ((KC g r).mono q ∅)) λk=>KK_mirror g k)
theorem UM{i:Type}{c:Prop}[Decidable c]{j h:StateT bJ Sem i}{Q:i->bJ->Prop}{g:bJ}{J:bJ->Prop}(l:¬c->J g)(a:∀b,J b->wpS (au d w) A E s h Q b)(m:c->(∀b,J b->wpS (au d w) A E s h Q b)->wpS (au d w) A E s j Q g):wpS (au d w) A E s (if c then j else h) Q g :=cV (λe=>m e a) λe=>a g (l e)
theorem Br{a:Array Keyed}{lo x:Nat}(b:iz κ a lo x)(h:1<=x)(e:κ.kle (KK κ a (lo+x-1)) (KK κ a (lo+x))):iz κ a lo (x+1):=λi j c n o=>by
 by_cases l:j<lo+x
 .exact b i j c n l
 .have g:j=lo+x:=∅
  subst g;by_cases m:i=lo+x
  .subst m;exact mY _
  .exact ro (b i (lo+x-1) c ∅ ∅) e
theorem Ey{a:Array Keyed}{lo x:Nat}(b:oO κ a lo x)(h:1<=x)(e:κ.kle (KK κ a (lo+x)) (KK κ a (lo+x-1))):oO κ a lo (x+1):=λi j c n o=>by
 by_cases l:j<lo+x
 .exact b i j c n l
 .have g:j=lo+x:=∅
  subst g;by_cases m:i=lo+x
  .subst m;exact mY _
  .exact ro e (b i (lo+x-1) c ∅ ∅)
theorem Oq{a:Array Keyed}{lo x b:Nat}(g:∀i,lo+x-(b+1)<=i->i<lo+x->KK κ a i=KK κ a (lo+x-1))(h:KK κ a (lo+x)=KK κ a (lo+x-1)):∀i,lo+(x+1)-(b+1+1)<=i->i<lo+(x+1)->KK κ a i=KK κ a (lo+(x+1)-1):=λi l j=>by
 rw[show lo+(x+1)-1=lo+x by lia];by_cases c:i=lo+x
 .rw[c]
 .rw[g i ∅ ∅,h]
theorem Fk{a b:Array Keyed}{i j n:Nat}(g:∀k,KK κ b k=if i<=k/\k<j then KK κ a (i+j-1-k)else KK κ a k)(c:∀k,i<=k->k<j->KK κ a k=KK κ a n):∀k,KK κ b k=KK κ a k:=λk=>by
 rw[g];split
 .rw[c _ ∅ ∅,c k ∅ ∅]
 .rfl
theorem LX(P:ig κ f d w A s){v:bJ}(O:SB f v)(S:AllK κ (arrOf v)){lo a:Nat}(h1:1<=a)(hsz:lo+a<=(arrOf v).size){Q:Option Nat->bJ->Prop}(h:∀n p,SB f p->bo p=bo v->Wr (arrOf v) (arrOf p) lo a->1<=n->n<=a->iz κ (arrOf p) lo n->Q (aa n) p):wpS (au d w) A E s (countRun' lo a) Q v:=by
 have one:iz κ (arrOf v) lo 1:=λi j r y D=>by
  have:i=j:=∅
  subst this;exact mY _
 have go:∀{u:bJ},Wr (arrOf v) (arrOf u) lo a->(arrOf u).size=(arrOf v).size:=λw=>w.size;unfold countRun';refine aL (g8 (g9 (I:=λx c g=>g=v/\c=(ae,x)/\iz κ (arrOf v) lo x) (Q:=λc g=>g=v/\∃n,c=(ae,n)/\1<=n/\n<=a/\iz κ (arrOf v) lo n/\(n=a\/κ.klt (KK κ (arrOf v) (lo+n)) (KK κ (arrOf v) (lo+n-1)))) ?_ ?_ ?_) ?_)
 .rintro x c g pW oE ⟨rfl,rfl,o⟩;dsimp only;refine aL (qi P O S ∅ ∅ ?_);cases e:κ.blt (KK κ (arrOf g) (lo+x)) (KK κ (arrOf g) (lo+x-1))with
  |true=>exact aV ⟨rfl,x,rfl,∅,∅,o,.inr e⟩
  |false=>exact aV ⟨rfl,rfl,Br o ∅ e⟩
 .rintro c g ⟨rfl,rfl,o⟩;rw[show max 1 a=a by lia]at o ⊢;exact⟨rfl,a,rfl,∅,∅,o,.inl rfl⟩
 .exact⟨rfl,rfl,one⟩
 rintro c p ⟨rfl,n,rfl,n1,n2,o,hn⟩;dsimp only;refine cV (λe1=>aV (h n p O rfl Wr.same n1 n2 o)) λe1=>?_;have um:n≠a:=by simpa using e1
 replace hn:κ.klt (KK κ (arrOf p) (lo+n)) (KK κ (arrOf p) (lo+n-1)):=hn.resolve_left um;refine UM (J:=λC=>SB f C/\bo C=bo p/\Wr (arrOf p) (arrOf C) lo a/\oO κ (arrOf C) lo (n+1)) (λen=>⟨O,rfl,Wr.same,λi j r y D=>?_⟩) (λC ⟨gu,eC,rR,hD⟩=>?_) λen key=>?_
 .have en':n=1:=∅
  by_cases hi:i=j
  .subst hi;exact mY _
  .have e1:i=lo+n-1:=∅
   have e2:j=lo+n:=∅
   rw[e1,e2];exact l0 hn
 .refine aL (t7 (mW ⟨rfl,?_⟩));refine aL (g8 (g9 (I:=λx c l=>∃b,c=(ae,x,b)/\SB f l/\bo l=bo p/\Wr (arrOf p) (arrOf l) lo a/\oO κ (arrOf l) lo x/\b+1<=x/\(∀i,lo+x-(b+1)<=i->i<lo+x->KK κ (arrOf l) i=KK κ (arrOf l) (lo+x-1))) (Q:=λc l=>∃m b,c=(ae,m,b)/\SB f l/\bo l=bo p/\Wr (arrOf p) (arrOf l) lo a/\1<=m/\m<=a/\oO κ (arrOf l) lo m/\b+1<=m/\(∀i,lo+m-(b+1)<=i->i<lo+m->KK κ (arrOf l) i=KK κ (arrOf l) (lo+m-1))) ?_ ?_ ?_) ?_)
  .rintro x c l pW oE ⟨b,rfl,B,G,z,F,hq,H⟩;have sz3:=z.size;dsimp only;refine aL (qi P B (S.of z.perm) ∅ ∅ ?_);cases e3:κ.blt (KK κ (arrOf l) (lo+x)) (KK κ (arrOf l) (lo+x-1))with
   |true=>
    have pP:oO κ (arrOf l) lo (x+1):=Ey F ∅ (l0 e3);dsimp only;rw[if_pos rfl];refine cV (λEe=>?_) λEe=>?_
    .refine aL (vk (κ:=κ) (lo:=lo) (n:=a) B G z ∅ ∅ ∅ ∅ λbV Z iY X Ef=>?_);have W:=Fk Ef H;exact aV ⟨0,rfl,Z,iY,X,λi j r y D=>by rw[W,W];exact pP i j r y D,∅,λi r y=>by congr 1;lia⟩
    .exact aV ⟨0,rfl,B,G,z,pP,∅,λi r y=>by congr 1;lia⟩
   |false=>
    dsimp only;rw[if_neg (by simp)];refine aL (qi P B (S.of z.perm) ∅ ∅ ?_);cases e4:κ.blt (KK κ (arrOf l) (lo+x-1)) (KK κ (arrOf l) (lo+x))with
    |true=>exact aV ⟨x,b,rfl,B,G,z,∅,∅,F,hq,H⟩
    |false=>have ex:KK κ (arrOf l) (lo+x)=KK κ (arrOf l) (lo+x-1):=KeyOrd.kle_antisymm e4 e3;exact aV ⟨b+1,rfl,B,G,z,Ey F ∅ (by rw[ex];exact mY _),∅,Oq H ex⟩
  .rintro c l ⟨b,rfl,B,G,z,F,hq,H⟩;rw[show max (n+1) a=a by lia]at F hq H ⊢;exact⟨a,b,rfl,B,G,z,∅,∅,F,hq,H⟩
  .exact⟨0,rfl,gu,eC,rR,hD,∅,λi r y=>by congr 1;lia⟩
  rintro c l ⟨m,b,rfl,B,G,z,m1,m2,F,hq,H⟩;dsimp only;refine cV (λEe=>?_) λEe=>?_
  .refine aL (vk (κ:=κ) (lo:=lo) (n:=a) B G z ∅ ∅ ∅ ∅ λbV Z iY X Ef=>?_);have W:=Fk Ef H;have wR:oO κ (arrOf bV) lo m:=λi j r y D=>by rw[W,W];exact F i j r y D
   refine aL (vk (κ:=κ) (lo:=lo) (n:=a) Z iY X ∅ ∅ ∅ ∅ λu Y N K T=>?_);have M:iz κ (arrOf u) lo m:=λi j r y D=>by rw[T,T,if_pos ⟨r,∅⟩,if_pos ⟨∅,D⟩];exact wR _ _ ∅ ∅ ∅
   have sz5:=K.size;refine aL (g8 (g9 (I:=λx c g=>g=u/\c=(ae,x)/\iz κ (arrOf u) lo x) (Q:=λc g=>g=u/\∃n,c=(ae,n)/\1<=n/\n<=a/\iz κ (arrOf u) lo n/\(n=a\/κ.klt (KK κ (arrOf u) (lo+n)) (KK κ (arrOf u) (lo+n-1)))) ?_ ?_ ?_) ?_)
   .rintro x c g pW oE ⟨rfl,rfl,o⟩;dsimp only;refine aL (qi P Y (S.of K.perm) ∅ ∅ ?_);cases e:κ.blt (KK κ (arrOf g) (lo+x)) (KK κ (arrOf g) (lo+x-1))with
    |true=>exact aV ⟨rfl,x,rfl,∅,∅,o,.inr e⟩
    |false=>exact aV ⟨rfl,rfl,Br o ∅ e⟩
   .rintro c g ⟨rfl,rfl,o⟩;rw[show max m a=a by lia]at o ⊢;exact⟨rfl,a,rfl,∅,∅,o,.inl rfl⟩
   .exact⟨rfl,rfl,M⟩
   rintro c g ⟨rfl,q,rfl,q1,q2,L,_⟩;exact aV (h q g Y N K q1 q2 L)
  .have Z:=B;have iY:=G;have X:=z;have wR:=F;refine aL (vk (κ:=κ) (lo:=lo) (n:=a) Z iY X ∅ ∅ ∅ ∅ λu Y N K T=>?_);have M:iz κ (arrOf u) lo m:=λi j r y D=>by rw[T,T,if_pos ⟨r,∅⟩,if_pos ⟨∅,D⟩];exact wR _ _ ∅ ∅ ∅
   have sz5:=K.size;refine aL (g8 (g9 (I:=λx c g=>g=u/\c=(ae,x)/\iz κ (arrOf u) lo x) (Q:=λc g=>g=u/\∃n,c=(ae,n)/\1<=n/\n<=a/\iz κ (arrOf u) lo n/\(n=a\/κ.klt (KK κ (arrOf u) (lo+n)) (KK κ (arrOf u) (lo+n-1)))) ?_ ?_ ?_) ?_)
   .rintro x c g pW oE ⟨rfl,rfl,o⟩;dsimp only;refine aL (qi P Y (S.of K.perm) ∅ ∅ ?_);cases e:κ.blt (KK κ (arrOf g) (lo+x)) (KK κ (arrOf g) (lo+x-1))with
    |true=>exact aV ⟨rfl,x,rfl,∅,∅,o,.inr e⟩
    |false=>exact aV ⟨rfl,rfl,Br o ∅ e⟩
   .rintro c g ⟨rfl,rfl,o⟩;rw[show max m a=a by lia]at o ⊢;exact⟨rfl,a,rfl,∅,∅,o,.inl rfl⟩
   .exact⟨rfl,rfl,M⟩
   rintro c g ⟨rfl,q,rfl,q1,q2,L,_⟩;exact aV (h q g Y N K q1 q2 L)
 .refine aL (qi P O S ∅ ∅ ?_);cases e2:κ.blt (KK κ (arrOf p) lo) (KK κ (arrOf p) (lo+n-1))with
  |true=>exact aV (h n p O rfl Wr.same n1 n2 o)
  |false=>
   dsimp only;rw[if_neg (by simp)];have f9:∀i,lo<=i->i<lo+n->KK κ (arrOf p) i=KK κ (arrOf p) lo:=λi r y=>KeyOrd.kle_antisymm (ro (o i (lo+n-1) r ∅ ∅) e2) (o lo i (aZ _) r y);refine aL (vk (κ:=κ) (lo:=lo) (n:=a) O rfl Wr.same ∅ ∅ ∅ ∅ λC gu eC rR oG=>?_);have hD:oO κ (arrOf C) lo (n+1):=by
    have hv:∀i,lo<=i->i<lo+n->KK κ (arrOf C) i=KK κ (arrOf p) lo:=λi r y=>by rw[oG,if_pos ⟨r,y⟩];exact f9 _ ∅ ∅
    have hl:κ.klt (KK κ (arrOf C) (lo+n)) (KK κ (arrOf p) lo):=by rw[oG,if_neg ∅,<-f9 (lo+n-1) ∅ ∅];exact hn
    intro i j r y D;by_cases hj:j<lo+n
    .rw[hv i r ∅,hv j ∅ hj];exact mY _
    .have iw:j=lo+n:=∅
     subst iw;by_cases hi:i=lo+n
     .subst hi;exact mY _
     .rw[hv i r ∅];exact l0 hl
   exact key C ⟨gu,eC,rR,hD⟩
theorem QY{g c:bJ}{lo n a b:Nat}{Q:Unit->bJ->Prop}(m:SB f c)(o:bo c=bo g)(l:Wr (arrOf g) (arrOf c) lo n)(u:b<=a)(p:a<(arrOf g).size)(r:lo<=b)(q:a<lo+n)(h:∀i,SB f i->bo i=bo g->Wr (arrOf g) (arrOf i) lo n->(∀k,KK κ (arrOf i) k=if k=b then KK κ (arrOf c) a else if b<k/\k<=a then KK κ (arrOf c) (k-1)else KK κ (arrOf c) k)->Q () i):wpS (au d w) A E s (moveDown' a b) Q c:=by
 have j:a<(arrOf c).size:=by rw[l.size];exact p
 rw[moveDown'_eq];refine oz (h _ ⟨m.kind,m.failed⟩ o (l.trans ((Pe j (show a-b<=a by lia)).mono ∅ ∅)) λk=>?_);have:=KK_bubble (κ:=κ) j (show a-b<=a by lia) k;rw[show a-(a-b)=b by lia]at this;exact this
theorem KW(O:ig κ f d w A s){b:bJ}(N:SB f b)(P:AllK κ (arrOf b)){lo n ok:Nat}(M:ok<=n)(K:lo+n<=(arrOf b).size)(L:iz κ (arrOf b) lo ok){Q:Bool->bJ->Prop}(h:∀y,SB f y->bo y=bo b->Wr (arrOf b) (arrOf y) lo n->iz κ (arrOf y) lo n->Q ah y):wpS (au d w) A E s (binarySort' lo n ok) Q b:=by
 unfold binarySort';refine aL (g8 (g9 (I:=λk c a=>c=(ae,())/\SB f a/\bo a=bo b/\Wr (arrOf b) (arrOf a) lo n/\iz κ (arrOf a) lo (min k n)) (Q:=λc a=>c=(ae,())/\SB f a/\bo a=bo b/\Wr (arrOf b) (arrOf a) lo n/\iz κ (arrOf a) lo n) ?_ ?_ ?_) ?_)
 .rintro k c a Z gu ⟨rfl,p,v,o,g⟩;have sz:=o.size;rw[show min k n=k by lia]at g;refine aL (g8 (g9 (I:=λx c m=>m=a/\∃l r,c=(ae,l,r)/\l<=r/\r<=k/\r-l<=k-x /\ (∀i,i<l->κ.kle (KK κ (arrOf a) (lo+i)) (KK κ (arrOf a) (lo+k)))/\(∀i,r<=i->i<k->κ.klt (KK κ (arrOf a) (lo+k)) (KK κ (arrOf a) (lo+i)))) (Q:=λc m=>m=a/\∃l r,c=(ae,l,r)/\l<=k /\ (∀i,i<l->κ.kle (KK κ (arrOf a) (lo+i)) (KK κ (arrOf a) (lo+k)))/\(∀i,l<=i->i<k->κ.klt (KK κ (arrOf a) (lo+k)) (KK κ (arrOf a) (lo+i)))) ?_ ?_ ?_) ?_)
  .rintro x c m _ hx ⟨rfl,l,r,rfl,Y,z,X,u,q⟩;dsimp only;refine cV (λH=>?_) λH=>?_
   .have:l=r:=∅
    subst this;exact aV ⟨rfl,l,l,rfl,z,u,q⟩
   .refine aL (qi O p (P.of o.perm) ∅ ∅ ?_);cases e:κ.blt (KK κ (arrOf m) (lo+k)) (KK κ (arrOf m) (lo+(l+r) / 2))with
    |true=>exact aV ⟨rfl,l,(l+r) / 2,rfl,∅,∅,∅,u,λi C S=>KeyOrd.klt_of_klt_of_kle e (g _ _ ∅ ∅ ∅)⟩
    |false=>exact aV ⟨rfl,(l+r) / 2+1,r,rfl,∅,∅,∅,λi C=>ro (g (lo+i) (lo+(l+r) / 2) ∅ ∅ ∅) e,q⟩
  .rintro c m ⟨rfl,l,r,rfl,Y,z,X,u,q⟩;have:l=r:=∅
   subst this;exact⟨rfl,l,l,rfl,z,u,q⟩
  .exact⟨rfl,0,k,rfl,∅,∅,∅,λi hi=>∅,λi C S=>∅⟩
  .rintro c m ⟨rfl,l,r,rfl,z,u,q⟩;dsimp only;refine aL (QY (κ:=κ) (lo:=lo) (n:=n) p v o ∅ ∅ ∅ ∅ λbG B T J D=>aV ⟨rfl,B,T,J,?_⟩);rw[show min (k+1) n=k+1 by lia];intro i j G F W;rw[D,D]
   repeat' split
   all_goals first
    | (exfalso;lia)
    |exact mY _
    | (have:=u (i-lo) ∅;rw[show lo+(i-lo)=i by lia]at this;exact this)
    | (have:=q (j-1-lo) ∅ ∅;rw[show lo+(j-1-lo)=j-1 by lia]at this;exact l0 this)
    |exact g _ _ ∅ ∅ ∅
 .rintro c a ⟨rfl,p,v,o,g⟩;rw[show min (max (max ok 1) n) n=n by lia]at g;exact⟨rfl,p,v,o,g⟩
 .refine⟨rfl,N,rfl,Wr.same,λi j G F W=>?_⟩;by_cases C:ok=0
  .have:i=j:=∅
   subst this;exact mY _
  .exact L i j G F ∅
 .rintro c a ⟨rfl,p,v,o,g⟩;exact aV (h a p v o g)
end
theorem QR{c:Prop}[Decidable c]{a b n:Nat}(f:a+1<n)(d:b+1<n):(if c then a else b)+1<n:=by split <;> assumption
def lf:Nat->List (Nat×Nat)->Nat->Prop
 |f,[],t=>f=t
 |f,(a,n)::l,t=>a=f/\0<n/\lf (f+n) l t
theorem lf.app:∀{l1:List (Nat×Nat)}{f t:Nat}{b:List (Nat×Nat)},lf f (l1++b) t↔∃m,lf f l1 m/\lf m b t
 |[],f,t,b=>by simp[lf]
 | (a,n)::l1,f,t,b=>by
  simp only[Dw,lf,lf.app (l1:=l1)];constructor
  .rintro⟨h,g,m,d,c⟩;exact⟨m,⟨h,g,d⟩,c⟩
  .rintro⟨m,⟨h,g,d⟩,c⟩;exact⟨h,g,m,d,c⟩
theorem lf.le:∀{l:List (Nat×Nat)}{f t:Nat},lf f l t->f+l.length<=t/\∀e∈l,f<=e.1/\e.1+e.2<=t
 |[],f,t,h=>⟨by cases h;simp,by simp⟩
 | (a,n)::l,f,t,⟨g,j,d⟩=>by
  obtain⟨i,c⟩:=lf.le d;refine⟨by simp;lia,λe b=>?_⟩;rcases bn.mp b with rfl|b
  .subst g;exact⟨aZ _,by simp;lia⟩
  .have:=c e b;exact⟨∅,this.2⟩
def PL(a:Array (Nat×Nat×Nat)):List (Nat×Nat):=a.toList.map λe=>(e.1,e.2.1)
structure jb(κ:KeyKind)(arr:Array Keyed)(pd:Array (Nat×Nat×Nat))(lo:Nat):Prop where
 ch:lf 0 (PL pd) lo
 run:∀e∈PL pd,Run κ arr e.1 e.2
theorem yA(a:Array (Nat×Nat×Nat)):(PL a).length=a.size:=by simp[PL]
theorem oQ(a:Array (Nat×Nat×Nat))(e:Nat×Nat×Nat):PL (a.push e)=PL a++[(e.1,e.2.1)]:=by simp[PL]
theorem xZ(a:Array (Nat×Nat×Nat))(k pw:Nat):PL (a.modify k λx=>(x.1,x.2.1,pw))=PL a:=by
 apply pI;intro i;simp only[PL,gZ,pH,Array.getElem?_modify];split
 .cases a[i]? <;> rfl
 .rfl
theorem Pl{j:Array (Nat×Nat×Nat)}{i:Nat}(h:i+1<j.size):∃a f b d g sb c m,j[i]?=aa (b,d,g)/\j[i+1]?=aa (sb,c,m)/\PL j=a++(b,d)::(sb,c)::f /\ PL ((j.setIfInBounds i (b,d+c,g)).eraseIdxIfInBounds (i+1))=a++(b,d+c)::f:=by
 obtain⟨l⟩:=j;simp only[cM]at h;have e:l=l.take i++l[i]::l[i+1]::l.drop (i+2):=by rw[<-v_,<-v_,oj]
 obtain⟨a,x,y,f,n,p⟩:∃a x y f,a.length=i/\l=a++x::y::f:=⟨l.take i,l[i],l[i+1],l.drop (i+2),by simp;lia,e⟩
 subst n p;obtain⟨b,d,g⟩:=x;obtain⟨sb,c,m⟩:=y;refine⟨a.map λe=>(e.1,e.2.1),f.map λe=>(e.1,e.2.1),b,d,g,sb,c,m,by simp,by simp[pf],by simp[PL],?_⟩;have o:((a++(b,d,g)::(sb,c,m)::f).toArray.setIfInBounds a.length (b,d+c,g)).eraseIdxIfInBounds (a.length+1)=(a++(b,d+c,g)::f).toArray:=by rw[List.setIfInBounds_toArray,List.set_append_right _ _ (aZ _),List.eraseIdxIfInBounds_toArray];congr 1;rw[List.eraseIdx_append_of_length_le ∅];simp
 rw[o];simp[PL]
section
variable{prog:aN}{w:aG}{A:aT}{E:ai->am->Prop}{s:am}{κ:KeyKind}{kz:gI}
theorem jb.keep{a f:Array Keyed}{c:Array (Nat×Nat×Nat)}{b n:Nat}(h:jb κ a c b)(w:Wr a f b n):jb κ f c b :=⟨h.ch,λe d=>(h.run e d).keep w (.inl (h.ch.le.2 e d).2)⟩
theorem BE(I:ig κ kz prog w A s){a:bJ}(G:SB kz a)(J:AllK κ (arrOf a)){i l:Nat}(g:jb κ (arrOf a) (bo a) l)(F:l<=(arrOf a).size)(H:i+1<(bo a).size){Q:Bool->bJ->Prop}(h:∀c,SB kz c->Wr (arrOf a) (arrOf c) 0 l->jb κ (arrOf c) (bo c) l->(bo c).size+1=(bo a).size->Q ah c):wpS (au prog w) A E s (mergeAt' i) Q a:=by
 obtain⟨X,W,f,j,T,sb,u,S,L,K,d,p⟩:=Pl H;have v:=g.ch;rw[d]at v;obtain⟨m,y,P,O,N,M,x⟩:=lf.app.mp v;subst P N;have b1:=y.le;have b2:=x.le;have C:Run κ (arrOf a) f j:=g.run (f,j) (by rw[d];simp);have B:Run κ (arrOf a) (f+j) u:=g.run (f+j,u) (by rw[d];simp);refine RC I G J L K O M ∅ C B λc z n o D=>h c z (o.mono ∅ ∅) ⟨?_,?_⟩ ?_
 .rw[n,p];exact lf.app.mpr ⟨f,y,rfl,∅,by rw[<-zN];exact x⟩
 .rw[n,p];intro e b;rcases jg.mp b with b|b
  .exact(g.run e (by rw[d];exact vS _ b)).keep o (.inl (b1.2 e b).2)
  .rcases bn.mp b with rfl|b
   .exact D
   .exact(g.run e (by rw[d];simp[b])).keep o (.inr (by have:=(b2.2 e b).1;lia))
 .have r:=yA (bo c);have q:=yA (bo a);rw[n,p]at r;rw[d]at q;rw[n,<-r,<-q];simp;lia
theorem Mg(hO:ig κ kz prog w A s){st:bJ}(hk:SB kz st)(hA:AllK κ (arrOf st))(hp:bo st=#[]){Q:Unit->bJ->Prop}(h:∀aA,SB kz aA->(arrOf aA).toList.Perm (arrOf st).toList->Run κ (arrOf aA) 0 (arrOf st).size->Q () aA):wpS (au prog w) A E s sortRuns' Q st:=by
 unfold sortRuns';refine aL (lZ ?_);dsimp only;obtain⟨b,Vg⟩:∃b,b=(arrOf st).size:=⟨_,rfl⟩
 have U7:((sortPriv% PySem.Builtin.SortState.a) st).size=b:=Vg.symm;simp only[U7];refine aL (g8 (g9 (I:=λx c o=>∃f,c=(ae,f)/\x<=f/\f<=b/\SB kz o/\(arrOf o).toList.Perm (arrOf st).toList/\(arrOf o).size=b/\jb κ (arrOf o) (bo o) f) (Q:=λc o=>c=(ae,b)/\SB kz o/\(arrOf o).toList.Perm (arrOf st).toList/\(arrOf o).size=b/\jb κ (arrOf o) (bo o) b) ?_ ?_ ?_) ?_);rotate_left
 .rintro c o ⟨f,rfl,b1,b2,oF,M,W,O⟩;have:f=b:=∅
  subst this;exact⟨rfl,oF,M,W,O⟩
 .exact⟨0,rfl,∅,∅,hk,tQ _,Vg.symm,by rw[hp];exact⟨rfl,by simp[PL]⟩⟩
 .rintro c o ⟨rfl,oF,M,W,O⟩;dsimp only;refine aL (g8 (g9 (I:=λx c l=>c=(ae,())/\SB kz l/\(arrOf l).toList.Perm (arrOf st).toList/\(arrOf l).size=b/\jb κ (arrOf l) (bo l) b/\(bo l).size+x<=b+1) (Q:=λc l=>c=(ae,())/\SB kz l/\(arrOf l).toList.Perm (arrOf st).toList/\(arrOf l).size=b/\jb κ (arrOf l) (bo l) b/\(bo l).size<=1) ?_ ?_ ?_) ?_)
  .rintro x c l _ hx ⟨rfl,F,eC,oI,P,hb⟩;refine aL (lZ ?_);refine cV (λe1=>aV ⟨rfl,F,eC,oI,P,e1⟩) λe1=>?_;have um:1<(bo l).size:=Nat.lt_of_not_le e1;refine aL (BE hO F (hA.of eC) P ∅ ?_ λN L j4 G hq=>?_)
   .exact QR (show(bo l).size-2-1+1<(bo l).size by lia) (show(bo l).size-2+1<(bo l).size by lia)
   .exact aV ⟨rfl,L,j4.perm.trans eC,j4.size.trans oI,G,∅⟩
  .rintro c l ⟨rfl,F,eC,oI,P,hb⟩;exact⟨rfl,F,eC,oI,P,∅⟩
  .have:=O.ch.le.1;rw[yA]at this;exact⟨rfl,oF,M,W,O,∅⟩
  .rintro c l ⟨rfl,F,eC,oI,P,hb⟩;refine aV (h l F eC ?_);rw[<-Vg];have hc:=P.ch;have hr:=P.run;have hl:=yA (bo l)
   match hq:PL (bo l),hc,hr,hl with
   |[],hc,hr,hl=>
    cases hc;intro i j x y a1 a2 a3;lia
   |[(a,n)],hc,hr,hl=>
    obtain⟨d1,d2,d3⟩:=hc;cases d1;have d3':0+n=b:=d3;have:=hr (0,n) (by simp);rw[show b=n by lia];exact this
   |_::_::_,hc,hr,hl=>simp at hl;lia
 rintro x c o _ hx ⟨f,rfl,b1,b2,oF,M,W,O⟩;dsimp only;refine cV (λe1=>?_) λe1=>?_
 .have:f=b:=∅
  subst this;exact aV ⟨rfl,oF,M,W,O⟩
 refine aL (LX hO oF (hA.of M) ∅ ∅ λr l F wV rR f1 f2 uj=>?_);dsimp only;refine cV (λe2=>?_) λe2=>?_
 .refine aL (t7 (mW ⟨rfl,?_⟩));refine aL (KW hO F ((hA.of M).of rR.perm) ∅ (by rw[rR.size];lia) uj λN L hq3 j4 Y=>?_);rw[if_neg (by simp)];have K:Wr (arrOf o) (arrOf N) f (b-f):=rR.trans (j4.mono ∅ ∅);have wW:bo N=bo o:=hq3.trans wV;generalize hn:min (b-f) _=n at *;have n1:0<n:=∅
  have n2:f+n<=b:=∅
  clear F rR uj wV j4 hq3;have G:jb κ (arrOf N) (bo N) f:=by rw[wW];exact O.keep K
  have gq:(arrOf N).toList.Perm (arrOf st).toList:=K.perm.trans M;have pT:(arrOf N).size=b:=K.size.trans W;have hR:Run κ (arrOf N) f n:=Y.run;clear K wW;refine aL (lZ ?_);obtain⟨kd,arr,T,mg,fl⟩:=N;dsimp only;cases hbk:T.back? with
  |none=>
   dsimp only;refine aL (oz (aV ⟨f+n,rfl,∅,n2,⟨L.kind,L.failed⟩,gq,pT,?_⟩));refine⟨?_,?_⟩
   .show lf 0 (PL (T.push (f,n,0))) _;rw[oQ];exact lf.app.mpr ⟨f,G.ch,rfl,n1,rfl⟩
   .show ∀e∈PL (T.push (f,n,0)),_;rw[oQ];intro e m;rcases jg.mp m with m|m
    .exact G.run e m
    .rw[gH.mp m];exact hR
  |some bk=>
   obtain⟨s1,m1,q1⟩:=bk;dsimp only;refine aL (g8 (g9 (I:=λx c g=>c=(ae,())/\SB kz g/\(arrOf g).toList.Perm (arrOf st).toList/\(arrOf g).size=b/\jb κ (arrOf g) (bo g) f/\Run κ (arrOf g) f n) (Q:=λc g=>c=(ae,())/\SB kz g/\(arrOf g).toList.Perm (arrOf st).toList/\(arrOf g).size=b/\jb κ (arrOf g) (bo g) f/\Run κ (arrOf g) f n) ?_ (λ_ _ hh=>hh) ?_) ?_)
   .rintro y c g _ hy ⟨rfl,B,C,J,u,H⟩;refine aL (lZ ?_);have wt:∀{p:bJ},p=g->((ae,()):Option Unit×Unit)=(ae,())/\SB kz p/\(arrOf p).toList.Perm (arrOf st).toList/\(arrOf p).size=b/\jb κ (arrOf p) (bo p) f/\Run κ (arrOf p) f n:=λe=>by subst e;exact⟨rfl,B,C,J,u,H⟩
    by_cases hg:1<(bo g).size
    .obtain⟨z,q,d,v,D⟩:=g;have X:d.size > 1:=hg;dsimp only;rw[if_pos X,getElem?_pos d (d.size-2) ∅];obtain⟨u1,u2,u3⟩:=d[d.size-2];dsimp only;refine cV (λ_=>aV (wt rfl)) λ_=>?_;refine aL (BE hO B (hA.of C) u ∅ (show d.size-2+1<d.size by lia) λp oH S Z _=>?_);exact aV ⟨rfl,oH,S.perm.trans C,S.size.trans J,Z,H.keep S (.inr ∅)⟩
    .obtain⟨z,q,d,v,D⟩:=g;have X:¬d.size > 1:=hg;dsimp only;rw[if_neg X];exact aV (wt rfl)
   .exact⟨rfl,L,gq,pT,G,hR⟩
   rintro c g ⟨rfl,B,C,J,u,H⟩;obtain⟨z,q,d,v,D⟩:=g;dsimp only;refine aL (oz (aL (oz (aV ⟨f+n,rfl,∅,n2,⟨B.kind,B.failed⟩,C,J,?_⟩))));refine⟨?_,?_⟩
   .show lf 0 (PL ((d.modify (d.size-1) λx=>(x.1,x.2.1,_)).push (f,n,0))) _;rw[oQ,xZ];exact lf.app.mpr ⟨f,u.ch,rfl,n1,rfl⟩
   .show ∀e∈PL ((d.modify (d.size-1) λx=>(x.1,x.2.1,_)).push (f,n,0)),_;rw[oQ,xZ];intro e m;rcases jg.mp m with m|m
    .exact u.run e m
    .rw[gH.mp m];exact H
 .have L:=F;have Y:=uj;have K:Wr (arrOf o) (arrOf l) f (b-f):=rR;have wW:bo l=bo o:=wV;have n1:0<r:=∅
  have n2:f+r<=b:=∅
  have G:jb κ (arrOf l) (bo l) f:=by rw[wW];exact O.keep K
  have gq:(arrOf l).toList.Perm (arrOf st).toList:=K.perm.trans M;have pT:(arrOf l).size=b:=K.size.trans W;have hR:Run κ (arrOf l) f r:=Y.run;clear K wW;refine aL (lZ ?_);obtain⟨kd,arr,T,mg,fl⟩:=l;dsimp only;cases hbk:T.back? with
  |none=>
   dsimp only;refine aL (oz (aV ⟨f+r,rfl,∅,n2,⟨L.kind,L.failed⟩,gq,pT,?_⟩));refine⟨?_,?_⟩
   .show lf 0 (PL (T.push (f,r,0))) _;rw[oQ];exact lf.app.mpr ⟨f,G.ch,rfl,n1,rfl⟩
   .show ∀e∈PL (T.push (f,r,0)),_;rw[oQ];intro e m;rcases jg.mp m with m|m
    .exact G.run e m
    .rw[gH.mp m];exact hR
  |some bk=>
   obtain⟨s1,m1,q1⟩:=bk;dsimp only;refine aL (g8 (g9 (I:=λx c g=>c=(ae,())/\SB kz g/\(arrOf g).toList.Perm (arrOf st).toList/\(arrOf g).size=b/\jb κ (arrOf g) (bo g) f/\Run κ (arrOf g) f r) (Q:=λc g=>c=(ae,())/\SB kz g/\(arrOf g).toList.Perm (arrOf st).toList/\(arrOf g).size=b/\jb κ (arrOf g) (bo g) f/\Run κ (arrOf g) f r) ?_ (λ_ _ hh=>hh) ?_) ?_)
   .rintro y c g _ hy ⟨rfl,B,C,J,u,H⟩;refine aL (lZ ?_);have wt:∀{p:bJ},p=g->((ae,()):Option Unit×Unit)=(ae,())/\SB kz p/\(arrOf p).toList.Perm (arrOf st).toList/\(arrOf p).size=b/\jb κ (arrOf p) (bo p) f/\Run κ (arrOf p) f r:=λe=>by subst e;exact⟨rfl,B,C,J,u,H⟩
    by_cases hg:1<(bo g).size
    .obtain⟨z,q,d,v,D⟩:=g;have X:d.size > 1:=hg;dsimp only;rw[if_pos X,getElem?_pos d (d.size-2) ∅];obtain⟨u1,u2,u3⟩:=d[d.size-2];dsimp only;refine cV (λ_=>aV (wt rfl)) λ_=>?_;refine aL (BE hO B (hA.of C) u ∅ (show d.size-2+1<d.size by lia) λp oH S Z _=>?_);exact aV ⟨rfl,oH,S.perm.trans C,S.size.trans J,Z,H.keep S (.inr ∅)⟩
    .obtain⟨z,q,d,v,D⟩:=g;have X:¬d.size > 1:=hg;dsimp only;rw[if_neg X];exact aV (wt rfl)
   .exact⟨rfl,L,gq,pT,G,hR⟩
   rintro c g ⟨rfl,B,C,J,u,H⟩;obtain⟨z,q,d,v,D⟩:=g;dsimp only;refine aL (oz (aL (oz (aV ⟨f+r,rfl,∅,n2,⟨B.kind,B.failed⟩,C,J,?_⟩))));refine⟨?_,?_⟩
   .show lf 0 (PL ((d.modify (d.size-1) λx=>(x.1,x.2.1,_)).push (f,r,0))) _;rw[oQ,xZ];exact lf.app.mpr ⟨f,u.ch,rfl,n1,rfl⟩
   .show ∀e∈PL ((d.modify (d.size-1) λx=>(x.1,x.2.1,_)).push (f,r,0)),_;rw[oQ,xZ];intro e m;rcases jg.mp m with m|m
    .exact u.run e m
    .rw[gH.mp m];exact H
end
theorem sI{n:Nat}(h:n<=1000000):n<bf:=vZ h (by decide)
theorem Run.sortedTo{κ:KeyKind}{a:Array Keyed}{n:Nat}(h:Run κ a 0 n)(c:n<=a.size):SortedToK κ a n:=by intro i j b d;have:=h i j _ _ (jY _) b ∅ (getElem?_pos a i ∅) (getElem?_pos a j ∅);rw[s_ (show i<a.size by lia),s_ (show j<a.size by lia)];exact this
theorem KeysOf.all{κ:KeyKind}{a:Array Keyed}(h:KeysOf κ a):AllK κ a:=λi b=>h _ (by simp)
section
variable{P:aN}{w:aG}{A:aT}{E:ai->am->Prop}{s:am}
theorem Fe{κ:KeyKind}{kz:gI}{a:af}{c:List ai}{n:Nat}{F:Fin->am->Prop}(q:s.heap.get? a=aa (io "list" c.toArray n))(J:KeysOf κ (lu c))(C:c.length<=1000000)(D:∀r:aB,(∀b o,b≠a->s.heap.get? b=aa o->r.get? b=aa o)->2<=c.length->ig κ kz P w A {s with heap:=r}/\∀{E:ai->am->Prop}{Q:gI->am->Prop},Q kz {s with heap:=r}->ar (au P w) A (keyKind' c.toArray) Q E {s with heap:=r})(h:∀d:bJ,(arrOf d).Perm (lu c)->SortedToK κ (arrOf d) (lu c).size->F (.done (.ret .none)) {s with heap:=sortedHeap s.heap a c ((arrOf d).map (·.2))}):ar (au P w) A (Builtin.«list.sort» ⟨[.ref a],[]⟩) F E s:=by
 rw[list_sort_plain];have z:a<s.heap.objs.size:=bC q;have y:c.length<=bf:=li (sI C);refine aq (listItems_at q rfl ?_);refine aq (Dh q rfl ?_);obtain⟨u,x⟩:∃u,(s.heap.update a (mS λ_=>#[])).get? a=aa (io "list" #[] u):=⟨_,get?_update_seq q (λ_=>#[])⟩
 refine aq (seqEpoch_at x rfl ?_);refine aq (wpAny_newTuple ?_ (hsz:=by rw[v4];exact y));refine aq (wpAny_newList ?_);refine jW ?_;have l:(((s.heap.update a (mS λ_=>#[])).push (io "tuple" c.toArray 0)).push (io "list" #[] 0)).get? a=aa (io "list" #[] u):=by rw[Heap.get?_push_ne _ _ _ (by rw[jZ,JL];exact cZ (ku z)),Heap.get?_push_ne _ _ _ (by rw[JL];exact cZ z)];exact x
 have keep:∀b o,b≠a->s.heap.get? b=aa o->(((s.heap.update a (mS λ_=>#[])).push (io "tuple" c.toArray 0)).push (io "list" #[] 0)).get? b=aa o:=λb o m e=>bw _ (bw _ (by rw[JI _ _ _ _ m];exact e));show ar (au P w) A _ F E {s with heap:=((s.heap.update a (mS λ_=>#[])).push (io "tuple" c.toArray 0)).push (io "list" #[] 0)};dsimp only;have f:∀d:bJ,failedOf d=ae->(arrOf d).Perm (lu c)->SortedToK κ (arrOf d) (lu c).size ->
   ar (au P w) A (do
    let touched:=(<-seqEpoch a) != u
    Builtin.List.listUpdate (.ref a) λ_=>(arrOf d).map (·.2)
    if let aa e:=failedOf d then rule "list.sort.comparison-raised";throw e
    if touched then rule "list.sort.modified";raiseError "ValueError" "list modified during sort"
    ret .none) F E {s with heap:=((s.heap.update a (mS λ_=>#[])).push (io "tuple" c.toArray 0)).push (io "list" #[] 0)}:=λd m p v=>by
  refine aq (seqEpoch_at l rfl ?_);refine aq (Dh l rfl ?_ (hsz2:=by refine cX (oh ((Array.size_map ..).trans (p.size_eq.trans (pairsOf_size _)))) (Nat.le_succ_of_le y)));rw[m];simp only[bne_self_eq_false,fo,if_false];exact aD (h d p v)
 by_cases g:c.toArray.size<2
 .rw[if_pos g,if_pos g];refine aq (aD ?_);refine aq (aD ?_);refine f (SortSt.mk' general' (c.toArray.zip c.toArray) #[] 7 ae) rfl (Array.Perm.refl _) λi j N G=>?_;have:i=j:=by rw[pairsOf_size]at G;rw[cM]at g;lia
  subst this;exact mY _
 .rw[if_neg g,if_neg g];obtain⟨H,I⟩:=D _ keep (by rw[cM]at g;lia);refine aq (I ?_);refine aq (eW (Mg (κ:=κ) (kz:=kz) H (st:=SortSt.mk' kz (c.toArray.zip c.toArray) #[] 7 ae) (Q:=λ_ d=>SB kz d/\(arrOf d).toList.Perm (lu c).toList/\Run κ (arrOf d) 0 (lu c).size) ⟨rfl,rfl⟩ (KeysOf.all J) rfl λd M L K=>⟨M,L,K⟩) ?_ λ_ _ e=>e);rintro⟨⟨⟩,d⟩ s' ⟨rfl,m,p,v⟩;have B:(arrOf d).Perm (lu c):=Dv.mpr p;exact f d m.failed B (v.sortedTo (by rw[B.size_eq];exact aZ _))
theorem To{g:KeyKind}(o:g.OneLt){a:af}{d:List ai}{n:Nat}{F:Fin->am->Prop}(m:s.heap.get? a=aa (io "list" d.toArray n))(p:KeysOf g (lu d)) (j:∀c b rest,d=c::b::rest->keyKind' (c::b::rest).toArray=pure oneType') (l:d.length<=1000000)(h:∀i:bJ,(arrOf i).Perm (lu d)->SortedToK g (arrOf i) (lu d).size->F (.done (.ret .none)) {s with heap:=sortedHeap s.heap a d ((arrOf i).map (·.2))}):ar (au P w) A (Builtin.«list.sort» ⟨[.ref a],[]⟩) F E s :=
 Fe m p l (λr _ f=>⟨OneLt.ok o,λq=>by
  obtain⟨c,b,rest,rfl⟩:∃c b rest,d=c::b::rest:=by
   match d,f with
   |[],f=>simp at f
   |[_],f=>simp at f
   |c::b::rest,_=>exact⟨c,b,rest,rfl⟩
  rw[j _ _ _ rfl];exact aD q⟩) h
theorem GD{v:ai}{Q:ai->am->Prop}(x:ar (au P w) A.in1 (collect v) (λd s1=>∃ss:List Str,c8 d ss/\d.length<=1000000/\∀(i:aB) (out:Array ai) (f:List Str) (e:Nat),(∀b o,s1.heap.get? b=aa o->i.get? b=aa o) -> i.get? s1.heap.objs.size=aa (io "list" out e)->c8 out.toList f->f.Perm ss->sortedS f=ah->Q (.ref s1.heap.objs.size) {s1 with heap:=i}) E s):ar (au P w) A (call (.builtin "sorted") [v]) Q E s:=by refine Calls.call_function_entry kind_sorted plain_sorted entry_sorted (args_sorted1 _) ?_;unfold Builtin.«sorted»;refine aq (m:=checkCount "sorted" 1 1 _) (aD ?_);refine aq (aW x λd s1 ζ=>?_);obtain⟨ss,h,p,j⟩:=ζ;refine aq (wpAny_newList ?_);have g:(s1.heap.push (io "list" d.toArray 0)).get? s1.heap.objs.size=aa (io "list" d.toArray 0):=cz _ rfl;refine aq (jW (mQ slot_list_sort ⟨_,g,rfl⟩ entry_list_sort (To strKind_oneLt g h.keysOf (λa b c e=>keyKind_strs (by rw[<-e];exact h)) p λy r q=>⟨_,rfl,?_⟩) (args_list_sort _)));obtain⟨f,C,B,z⟩:=sorted_out_str h r q;obtain⟨e,u⟩:=sortedHeap_at (out:=(arrOf y).map (·.2)) g;refine aD ⟨_,rfl,j _ _ f e (λb o l=>?_) u C B z⟩;have n:b<s1.heap.objs.size:=bC l;rw[sortedHeap_old (cZ n) (by rw[jZ];exact ku n)];exact bw _ l
end
section
variable{X:Cx}
theorem Inv.sorted2{h:List (af×Obj)}{g:St}{H:Hp}{s1:am}{c:List Tx}{ss d:List Str}{f:aB}{a:Array ai}{e:Nat}(I:Inv X h g H s1)(l:ss=c.map tS)(s:c.length<=1000000)(k:∀b o,s1.heap.get? b=aa o->f.get? b=aa o) (j:f.get? s1.heap.objs.size=aa (io "list" a e)) (r:c8 a.toList d) (q:d.Perm ss) (p:sortedS d=ah):Inv X h g (upd H s1.heap.objs.size (.lst (cR (cb c)))) {s1 with heap:=f}:=by
 have n:d.map (λz=>z.cps.toList)=cb c:=by
  refine yP ?_ (Ud p);have:=q.map λz=>z.cps.toList;rw[l,dA]at this;have m:(c.map ((λz:Str=>z.cps.toList) ∘ tS))=c:=by simp[t_,jw]
  rw[m]at this;exact this
 have i:bt (cR (cb c)) a.toList:=by rw[<-n];exact Qz r
 refine I.laid (t':=s1.toks) k (aZ _) ⟨?_,a.toList,e,i,?_⟩
 .rw[BY,RJ];exact li (sI ∅)
 .rw[JS];exact j
theorem Fc:d4 X (.builtin "sorted") (λxs H Q=>∃(p:af) (d:List Tx),xs=[.ref p]/\(b_ X.K H p (cR d)\/cL X.K H p (cR d))/\d.length<=1000000/\∀l,H l=ae->Q (.ref l) (upd H l (.lst (cR (cb d))))):=by
 intro F s w H xs L Q I r h;obtain⟨p,d,rfl,f,A,q⟩:=h;obtain⟨u,rfl,x⟩:=vals1 r;cases x;have b:∀(T:String) (o:Obj) (a:List ai) (n:Nat),(T = "list"\/T = "tuple")->s.heap.get? p=aa o->o.cls=.type T->o.data=.seq a.toArray n->bt (cR d) a ->
   ar (au X.prog X.w) X.A (call (.builtin "sorted") [Value.ref p]) (EP X F w Q) X.xe s:=λT o a n E j i g c=>by
  have D:=c.length;rw[BY]at D;have m:=sI (n:=a.length) ∅;refine GD (wpAny_collect_seq p E j i g (λM B=>?_) (by rw[cM];lia));have v:=I.kept (t':=s.toks) B;refine⟨_,uB c,by rw[v4];lia,λN z O e k j K J G=>?_⟩;exact⟨.ref _,_,Inv.sorted2 v rfl A k j K J G,rfl,q _ v.fresh⟩
 rcases f with f|f
 .obtain⟨a,c,y,C⟩:=I.list f;obtain⟨o,e,i,n,g⟩:=y.isList;exact b "list" o a n (.inl rfl) e i g c
 .obtain⟨a,c,⟨o,e,i,n,g⟩,C⟩:=I.tuple f;exact b "tuple" o a n (.inr rfl) e i g c
end
end L2
namespace Pu
open L2
section
variable{X:Cx}{K:ay}
def sS:List PV->Option PO
 |[.lst xs]=>(fI xs).bind λa=>if a.length<=1000000 then aa (.lst (ao (cb a)))else ae
 |[.tup xs]=>(fI xs).bind λa=>if a.length<=1000000 then aa (.lst (ao (cb a)))else ae
 |_=>ae
theorem Ir:oV K (λxs H Q=>∃(p:af) (b:List Tx),xs=[.ref p]/\(b_ K H p (cR b)\/cL K H p (cR b))/\b.length<=1000000/\∀l,H l=ae->Q (.ref l) (upd H l (.lst (cR (cb b))))) sS:=λF H xs y Q n w m e q=>by
 have f:∀{g:List PV}{c:List V}{a:af},((fI g).bind λb=>if b.length<=1000000 then aa (PO.lst (ao (cb b)))else ae)=aa n->Reps K H F g c->(b_ K H a c\/cL K H a c) ->
   ∃(p:af) (b:List Tx),[V.ref a]=[.ref p]/\(b_ K H p (cR b)\/cL K H p (cR b))/\b.length<=1000000/\∀l,H l=ae->Q (.ref l) (upd H l (.lst (cR (cb b)))):=λ{g c a} e d s=>by
  cases h:fI g with
  |none=>rw[h]at e;cases e
  |some b=>
   rw[h]at e;simp only[gk]at e;split at e
   .rename_i o;cases e;rw[p_ h]at d;obtain⟨rfl,u⟩:=Vr.mp d;refine⟨a,b,rfl,s,o,λl i=>q l F _ _ (Al.new0 i) (xU i (Vr.mpr ⟨rfl,λx r=>u x ((nB b).mem_iff.mp r)⟩)) (yf i w trivial)⟩
   .cases e
 unfold sS at e;split at e
 .obtain⟨v,rfl,a,c,rfl,j,_,d⟩:=fU m;exact f e d (.inl (.inl j))
 .obtain⟨v,rfl,a,c,rfl,j,d⟩:=fU m;exact f e d (.inr (cL.of j))
 .cases e
end
theorem MW(H:Hp)(p:af)(a b:HO):L2.upd (L2.upd H p a) p b=L2.upd H p b:=by
 funext q;by_cases h:q=p
 .subst h;rw[upd_same,upd_same]
 .rw[bh h,bh h,bh h]
end Pu
namespace L2
section
variable{X:Cx}
theorem O8(w:X.calm=ah):d4 X (.builtin "sorted") (λxs H Q=>∃(p:af) (a:List Tx),xs=[.ref p]/\H p=aa (nD X p a)/\a.length<4000/\∀l,H l=ae->Q (.ref l) (upd H l (.lst (cR (cb a))))):=by
 intro B s f H xs F Q I r h;obtain⟨p,a,rfl,o,G,q⟩:=h;obtain⟨u,rfl,i⟩:=vals1 r;cases i;obtain⟨S,_,_⟩:=(show bR X.prog X.w H s.heap p (nD X p a)from I.hok p _ o)
 refine GD (O_ (uC (I.ok.hd w)) S λg E ss D C L k z y=>?_);obtain⟨c,g',d',t',m⟩:=g;obtain rfl:g'=s.gens:=z;obtain rfl:m=s.os:=y;have d:Inv X B f H {s with heap:=c,drawn:=d',toks:=t'}:=by have:=Inv.call (ch:=[]) I (g':=s.gens) (d':=d') (t':=t') (Un.kept (fs:=fF X.stack) (ex:=[]) k) (I.hok.kept k) I.bare (λb x=>absurd x (by simp));exact this
 refine⟨ss,D,∅,λJ j K e n v b1 b2 A=>?_⟩;exact⟨.ref _,_,Inv.sorted2 (s1:={s with heap:=c,drawn:=d',toks:=t'}) (ss:=a.map tS) d rfl ∅ n v b1 (b2.trans C) A,rfl,q _ d.fresh⟩
end
end L2
namespace Pu
open L2
section
variable{X:Cx}{E:XK}{pin:List Nat}{e f:aC}{j m:ac (List PV)}{g p q d r n i:Pos}
def vC:List PV->Option PO
 |[.lst xs]=>(fI xs).bind λa=>if(d_ a).length<4000 then aa (.lst (ao (cb (d_ a))))else ae
 |_=>ae
def MA(X:Cx):List V->Hp->VK->Prop:=λxs H Q=>∃(p:af) (a:List Tx),xs=[.ref p]/\H p=aa (nD X p a)/\a.length<4000/\∀l,H l=ae->Q (.ref l) (upd H l (.lst (cR (cb a))))
theorem Mr:oV X.K (Ho X (MA X)) vC:=λF H xs M Q O K C e q=>by
 unfold vC at e;split at e
 .obtain⟨v,rfl,a,N,rfl,J,_,y⟩:=fU C;obtain⟨s,L,f⟩:=pK.mp e;rw[p_ L]at y;obtain⟨rfl,G⟩:=Vr.mp y;split at f
  .rename_i B;cases f;refine⟨a,s,rfl,.inl J,B,λb I=>⟨b,d_ s,rfl,upd_same,B,λl h=>?_⟩⟩;have u:l≠b:=by rintro rfl;rw[upd_same]at h;cases h
   have A:H l=ae:=by rw[bh u]at h;exact h
   have al:Al F F H (upd (upd H b (nD X b (d_ s))) l (.lst (cR (cb (d_ s))))):=(Al.new0 I).trans (Al.new0 h);refine q l F _ (λc=>c=l) al ⟨⟨_,upd_same,Vr.mpr ⟨rfl,λx D=>G x ((u7 _ _).mp ((nB _).mem_iff.mp D))⟩⟩,λc=>ou⟩ λc z=>?_;subst z;exact⟨A,λz=>Dx (K _ z) (λo w=>by rw[A]at w;cases w),_,upd_same,trivial⟩
  .cases f
 .cases e
theorem NA(a:X.calm=ah)(u:DA X E [e] j)(o:X.mg "sorted"=ae)(b:X.mg "set"=ae)(s:Gl X "sorted":=by rfl)(l:Gl X "set":=by rfl)(h:mE e=aj:=by rfl):DN X E (.Call (.Name "sorted" p) [.Call (.Name "set" q) [e] [] d] [] g) (dL vC j):=λF S x w H Q c v=>b9 (nY (O8 a) s o u_ (i9 (vx (F9 a) l b Ba gS (by decide) (by decide) (iy h) rfl) ka (iy rfl)) (by decide) (by decide) (iy rfl) rfl) (vd Mr u c v)
end
theorem Mz(a:Int)(t:Tok)(l:af)(b:Array ai)(n:Nat)(f:Array (Option ai)):Meets (Builtin.«int.__rmul__» ⟨[.int a t,.ref l],[]⟩) (λ_ R s=>s.heap.get? l=aa {cls:=.type "list",dict:=ae,data:=.seq b n,slots:=f}/\R (.ok (.ret Value.notImplemented)) s) :=.of_wp λc w A R s h=>by obtain⟨m,g,d,i,j⟩:=s;obtain⟨o,h⟩:=h;wp_walk;exact⟨_,rfl,h⟩
theorem PJ(l:af)(a:Array ai)(n:Nat)(j:Array (Option ai))(x:Int)(u:Tok)(p:¬(!Builtin.List.listFitsIndex x)=ah)(o:¬a.size*x.toNat > (2^63-1) / 8)(m:¬zw (a.size*x.toNat)=ah):Meets (Builtin.«list.__mul__» ⟨[.ref l,.int x u],[]⟩) (λ_ R s=>s.heap.get? l=aa {cls:=.type "list",dict:=ae,data:=.seq a n,slots:=j}/\R (.ok (.ret (Value.ref s.heap.objs.size))) {s with heap:=s.heap.push {cls:=Value.type "list",data:=Data.seq (List.foldl (λi f=>i++f) #[] (bE (if a.isEmpty=ah then 0 else x.toNat) a))},toks:=s.toks}) :=
 .of_wp λc w A R s h=>by
  obtain⟨v,g,d,q,r⟩:=s;obtain⟨y,h⟩:=h;have b:=PySem.AutoListH.joined_fits m
  wp_walk;refine wpAny_ite_false (decide_eq_false (Nat.not_lt.mpr b)) ?_;wp_walk;exact⟨_,rfl,h⟩
section
variable{X:Cx}{K:ay}
def Hu(K:ay):R2:=λx y H Q=>∃a k xs,x=.ref a/\y=.int k/\b_ K H a xs/\xs≠[]/\1<=k/\k<=1000/\xs.length<=1000/\∀p,H p=ae->Q (.ref p) (upd H p (.lst (bE k.toNat xs).flatten))
theorem L4:bT X (il .Mult) (Hu X.K):=by
 intro Z s N H x y v u Q I B A h;obtain⟨l,k,xs,rfl,rfl,E,L,W,S,C,q⟩:=h;cases B;obtain⟨t,rfl⟩:=A;obtain⟨a,r,⟨⟨J,Y,j,d⟩,n,c,i,f,g⟩,_⟩:=I.list E;simp only at i g f;subst i g f;have P:=r.length;have M:a≠[]:=λz=>L (r.nil_iff.mp z);have G:List.foldl (λp m=>p++m) #[] (bE k.toNat a.toArray)=(bE k.toNat a).flatten.toArray:=by have:=foldl_rep a k.toNat [];rw[kw]at this;exact this
 have D:a.toArray.isEmpty=aj:=by cases a with|nil=>exact absurd rfl M|cons=>rfl
 have Ag:a.toArray.size*k.toNat<=1000000:=by rw[cM];have:=tT (show a.length<=1000 by lia) (show k.toNat<=1000 by lia);lia
 refine wpAny_binaryOp_repeat_ref (T:="list") (U:="int") (by decide) ⟨_,c,rfl⟩ (λw=>zv w k t) noFill_list_mul F.fills_int_mul Dm repeat_list F.slot_int_index.lookup
  (rh Dm (zv s k t) F.entry_int_rmul (F.args_int_rmul_2 _ _) (Mz k t l a.toArray n d) ⟨c,rfl,⟨_,c,rfl⟩,rh F.slot_list_mul ⟨_,c,rfl⟩ F.entry_list_mul (F.args_list_mul_2 _ _) (PJ l a.toArray n d k t ?_ ?_ ?_) ⟨c,?_⟩⟩)
 .unfold Builtin.List.listFitsIndex;rw[decide_eq_true (show -(2^63:Int)<=k by lia),decide_eq_true (show k<2^63 by lia)];decide
 .have:(1000000:Nat)<=(2^63-1) / 8:=by decide
  lia
 .unfold zw;rw[decide_eq_false (by rw[lO];lia)];decide
 .rw[D,if_neg (by decide),G];refine⟨.ref s.heap.objs.size,_,I.laid (t':=s.toks) (o:=.lst (bE k.toNat xs).flatten) (λb O q=>bw _ q) (aZ _) ?_,rfl,q _ (I.hok.fresh (aZ _))⟩;refine⟨?_,_,_,r.rep k.toNat,cz _ rfl⟩;rw[ye,lO];have:=tT (show k.toNat<=1000 by lia) C;lia
def yc:PV->PV->Option PV
 |.lst xs,.int k=>if xs≠[]/\1<=k/\k<=1000/\xs.length<=1000 then aa (.lst (bE k.toNat xs).flatten)else ae
 |_,_=>ae
theorem SH:P2 K (Hu K) yc:=λF H x y v u Q pv j i e q=>by
 unfold yc at e;split at e
 .split at e
  .rename_i xs k h;cases e;obtain⟨a,g,rfl,l,_,c⟩:=j;have f:=c.len;exact⟨a,k,g,rfl,i,.inl l,(λz=>h.1 (by rw[z]at f;exact pB f.symm)),h.2.1,h.2.2.1,∅,λp d=>q _ (λb=>F b\/b=p) _ (Al.new d) ⟨p,_,rfl,.inl upd_same,.inr rfl,(Al.new d).reps (c.rep _)⟩⟩
  .cases e
 .cases e
end
theorem Gd:fk "max"=aa (.builtin "max"):=by decide +kernel
section
variable{X:Cx}{l:gA}{k:Nat}{f C:af}{j:gh}{d:List Str}{i:Sp}{E:XK}{g:List (af×Obj)}{b:St}{H:Hp}{s:am}{Q:VK}{a:List ai}{c:List V}
theorem UL(F:jP X.prog X.w X.K X.mg X.base l k f j d i)(v:eT k X.A)(x:Binds X.K j d [])(I:Inv X g b H s)(r:bt c a)(h:i c H Q E):ar (au X.prog X.w) X.A (call (.ref f) a) (EP X g b Q) (λe o=>∃n p,Inv X g b p n/\l X.stack p n E e o) s:=by
 have w:a.length=d.length:=by rw[<-r.length];exact F.len _ _ _ _ h
 refine zt (q_ (F.run X.A X.stack s H ⟨a,[]⟩ a c Q E v I.env0 (by have:=x s a I.kIn (by rw[iR];exact w);rwa[iR]at this) r h) λq o m=>?_);cases q with
 |error er=>exact⟨s,H,I,m⟩
 |ok y=>
  cases y with
  |ret u=>exact I.after m
  |next=>exact im m
  |brk=>exact im m
  |cont=>exact im m
end
def yb(a:ak)(b:List bX)(g:ac Slot):R Slot:=(aM (if(cG b).Nodup then eI a b else ae) a).bind λc a=>fA a b (g c)
section
variable{K:ay}{E:XK}{F:af->Prop}{S:Nat->af->Prop}{j:ak}{d:St}{H:Hp}{a:List bX}{f:List V}{g:ac Slot}
theorem OR{D:Slot->ak->(af->Prop)->(Nat->af->Prop)->Hp->Prop}(r:aS K F S j d H)(N:i5 K d F H a f)(h:Ok K E d F S H (yb j a g) D):bB K g f H (λv l=>∃x p c n C,aS K c n p d l/\bq (U S) (U n) F c H l/\k9 K l c x v C/\(∀b,C b->H b=ae/\¬c b/\¬U n b/\∃o,l b=aa o/\ef o)/\D x p c n l) E:=by
 unfold yb at h;have q:=Ok.bind h;by_cases s:(cG a).Nodup
 .rw[if_pos s]at q;cases u:eI j a with
  |none=>rw[u]at q;exact q.elim
  |some Q=>
   rw[u]at q;have q:=q F S H r (bq.refl ..);dsimp only at q;refine⟨F,mC a S,Q,r.cal N u s,?_⟩;cases M:g Q with
   |no=>rw[M]at q;exact q.elim
   |er Y O=>
    rw[M]at q;intro y c n l I L;unfold fA at q;dsimp only at q;by_cases m:fJ a O=ah
    .rw[if_pos m]at q;obtain⟨G,A,B,_⟩:=r.called N u s I L (λ_ z=>z) (nN m);exact q y c G l A B
    .rw[if_neg m]at q;exact q.elim
   |ok x O=>
    rw[M]at q;intro v c n l C I L X J T;unfold fA at q;dsimp only at q;by_cases m:fJ a O=ah
    .rw[if_pos m]at q;obtain⟨G,A,B,W⟩:=r.called N u s I L (λ_ z=>.inl z) (nN m);refine⟨x,_,c,G,C,A,B,X,λb z=>⟨T b z,(J b z).1,λw=>?_,(J b z).2.2⟩,q c G l A B⟩;rcases W b w with w|⟨i,w⟩
     .exact(J b z).2.1 w
     .obtain⟨_,_,o,P,_⟩:=r.foot i b w;rw[T b z]at P;cases P
    .rw[if_neg m]at q;exact q.elim
 .rw[if_neg s]at q;exact q.elim
theorem Rj{Q m:VK}(h:bB K g f H Q E)(r:∀v b,Q v b->m v b):bB K g f H m E:=by
 obtain⟨F,S,l,o,ok⟩:=h;refine⟨F,S,l,o,?_⟩;cases i:g l with
 |no=>rw[i]at ok;exact ok
 |er c w=>rw[i]at ok;exact ok
 |ok A w=>rw[i]at ok;exact λv z y b x p s n q u=>r v b (ok v z y b x p s n q u)
end
end Pu
namespace Mx
theorem LU(p:Nat):∃o,5^(2^p)=1+2^(p+2)*(2*o+1):=by
 induction p with
 |zero=>exact⟨0,by decide⟩
 |succ p a=>
  obtain⟨o,h⟩:=a;refine⟨o+2^p*(2*o+1)*(2*o+1),?_⟩;rw[show 2^(p+1)=2^p*2 from rA ..,Nat.pow_mul,h];rw[show(2:Nat)^(p+1+2)=8*2^p from by rw[Dy,rA];lia,show(2:Nat)^(p+2)=4*2^p from by rw[Dy];lia];generalize 2^p=q
  grind
def F5:Nat->Nat->Nat
 |0,x=>x
 |n+1,x=>F5 n (5*x+1)
theorem Lq(m n x:Nat):F5 (m+n) x=F5 n (F5 m x):=by
 induction m generalizing x with
 |zero=>simp[F5]
 |succ m a=>rw[wb];exact a _
theorem LV(n x:Nat):4*F5 n x+1=5^n*(4*x+1):=by
 induction n generalizing x with
 |zero=>simp[F5]
 |succ n a=>show 4*F5 n (5*x+1)+1=_;rw[a,rA];grind
theorem Tt(p x:Nat):∃o,F5 (2^p) x=x+2^p*(2*o+1):=by
 obtain⟨o,h⟩:=LU p;have c:=LV (2^p) x;rw[h,show(2:Nat)^(p+2)=4*2^p from by rw[Dy];lia]at c;refine⟨o*(4*x+1)+2*x,?_⟩;generalize 2^p=q at c;generalize F5 q x=y at c
 grind
theorem Il(p:Nat):∀x y,y<2^p->∃n,n<2^p/\F5 n x % 2^p=y:=by
 induction p with
 |zero=>intro x y h;exact⟨0,by decide,by simp at h;subst h;simp[Nat.mod_one]⟩
 |succ p f=>
  intro x y d;obtain⟨n,v,e⟩:=f x (y % 2^p) (oq _ (Nat.two_pow_pos p));have i:(2:Nat)^(p+1)=2*2^p:=by rw[rA];lia
  obtain⟨o,j⟩:=Tt p (F5 n x);have c:=Nat.two_pow_pos p;by_cases q:F5 n x % 2^(p+1)=y
  .exact⟨n,∅,q⟩
  .refine⟨n+2^p,∅,?_⟩;rw[Lq,j];rw[i]at q d ⊢;generalize 2^p=N at *;generalize F5 n x=z at *;have r:z % (2*N) % N=z % N:=Nat.mod_mod_of_dvd _ ⟨2,∅⟩;have m:(z+N*(2*o+1)) % (2*N)=(z+N) % (2*N):=by rw[show z+N*(2*o+1)=(z+N)+(2*N)*o by grind,Nat.add_mul_mod_self_left]
   rw[m];have g:=oq z (show 2*N > 0 by lia);have l:(z+N) % (2*N)=(z % (2*N)+N) % (2*N):=by rw[Dz];simp[Dz,zQ (show N<2*N by lia)]
   rw[l];generalize z % (2*N)=u at *;rw[<-r]at e;have a:=Nat.div_add_mod u N;have b:=Nat.div_add_mod y N;have b1:u / N<2:=Nat.div_lt_of_lt_mul (by rw[wd];exact g);have b2:y / N<2:=Nat.div_lt_of_lt_mul (by rw[wd];exact d);rw[e]at a;generalize u / N=uq at a b1;generalize y / N=yq at b b2;have s:=oq y c;rcases(show uq=0\/uq=1 by lia)with c1|c1 <;> rcases(show yq=0\/yq=1 by lia)with c2|c2 <;> subst c1 <;> subst c2 <;> simp only[Nat.mul_zero,Nat.mul_one,tZ]at a b
   .exact absurd (a.symm.trans b) q
   .rw[zQ ∅];lia
   .rw[show u+N=y+2*N by lia,Nat.add_mod_right,zQ ∅]
   .exact absurd (a.symm.trans b) q
end Mx
namespace L2
open Mx
def fc(mask:Nat):Nat->Nat->Nat->Nat×Nat
 |0,i,p=>(i,p)
 |n+1,i,p=>fc mask n (mZ mask i p).1 (mZ mask i p).2
theorem AJ(mask:Nat):∀(m n i p:Nat),fc mask (m+n) i p=fc mask n (fc mask m i p).1 (fc mask m i p).2
 |0,n,i,p=>by rw[tZ];rfl
 |m+1,n,i,p=>by rw[wb];exact AJ mask m n _ _
theorem BD(mask:Nat):∀(m i p:Nat),(fc mask m i p).2=p / 32^m
 |0,i,p=>by simp[fc]
 |m+1,i,p=>by show(fc mask m _ _).2=_;rw[BD mask m];show p / 32 / 32^m=_;rw[Nat.div_div_eq_div_mul,rA,wd]
theorem By(mask:Nat):∀(n i:Nat),(fc mask n i 0).1 % (mask+1)=F5 n i % (mask+1)
 |0,i=>rfl
 |n+1,i=>by show(fc mask n ((i*5+1+0 / 32) % (mask+1)) (0 / 32)).1 % _=F5 n (5*i+1) % _;rw[show 0 / 32=0 from rfl,By mask n,Nat.add_zero,wd i 5];exact F5_mod n (mask+1) (5*i+1)
where
 F5_mod:∀(n N x:Nat),F5 n (x % N) % N=F5 n x % N
  |0,N,x=>by simp[F5]
  |n+1,N,x=>by show F5 n (5*(x % N)+1) % N=F5 n (5*x+1) % N;rw[<-F5_mod n N (5*(x % N)+1),<-F5_mod n N (5*x+1)];congr 2;rw[Dz,Nat.mul_mod,Nat.mod_mod,<-Nat.mul_mod,<-Dz]
theorem Cf(mask:Nat):∀(n i p:Nat),(fc mask (n+1) i p).1<mask+1
 |0,i,p=>oq _ (ua _)
 |n+1,i,p=>Cf mask n _ _
theorem Fb{mask:Nat}{owner:Array (Option Nat)}:∀(a i p:Nat),(∃t,t<a/\(owner.getD (fc mask t i p).1 (aa 0)).isNone=ah)->∃j,pL mask owner a i p=aa j/\(owner.getD j (aa 0)).isNone=ah
 |0,i,p,⟨t,h,_⟩=>absurd h (ot _)
 |a+1,i,p,⟨t,h,e⟩=>by
  unfold pL;cases q:(cr (fM mask i+1-i)).find? (λk=>(owner.getD (i+k) (aa 0)).isNone)with
  |some k=>exact⟨i+k,rfl,by have:=List.find?_some q;exact this⟩
  |none=>
   cases t with
   |zero=>have:=DB.mp q 0 (by rw[kn];unfold fM;split <;> lia);exact absurd (show(owner.getD (i+0) (aa 0)).isNone=ah from e) this
   |succ t=>exact Fb a _ _ ⟨t,∅,e⟩
theorem Lu{mask q:Nat}{owner:Array (Option Nat)}(a:mask+1=2^q)(d:owner.size=mask+1){y:Nat}(c:y<owner.size)(g:owner[y]?=aa ae)(i p:Nat)(f:p<2^64):∃j,pL mask owner (rD mask) i p=aa j/\owner[j]?=aa ae:=by
 obtain⟨n,u,e⟩:=Il q (fc mask 13 i p).1 y (by rw[<-a,<-d];exact c);have h:(fc mask 13 i p).2=0:=by rw[BD];exact Nat.div_eq_of_lt (gE f (by decide))
 have s:(fc mask (13+n) i p).1<mask+1:=by rw[show 13+n=(12+n)+1 by lia];exact Cf mask _ _ _
 have r:(fc mask (13+n) i p).1=y:=by
  have m:(fc mask (13+n) i p).1 % (mask+1)=y:=by rw[AJ,h,By,a];exact e
  rwa[zQ s]at m
 obtain⟨j,l,f2⟩:=Fb (mask:=mask) (owner:=owner) (rD mask) i p ⟨13+n,by unfold rD;lia,by rw[r,we,g];rfl⟩;refine⟨j,l,?_⟩;rw[we]at f2;cases b:owner[j]? with
 |none=>rw[b]at f2;cases f2
 |some o=>
  rw[b]at f2;cases o with
  |none=>rfl
  |some v=>cases f2
theorem Io:∀(l:List (Option Nat)) (j k:Nat),l[j]?=aa ae->((l.set j (aa k)).filterMap id).Perm (k::l.filterMap id)
 |[],j,k,h=>by simp at h
 |x::l,0,k,h=>by simp at h;subst h;simp
 |x::l,j+1,k,h=>by
  have a:=Io l j k (~~~h);cases x with
  |none=>simpa using a
  |some v=>simp only[List.set_cons_succ,mJ,id];exact(a.cons v).trans (List.Perm.swap ..)
theorem Hj:∀(l:List (Option Nat)),(∀y,y<l.length->l[y]?≠aa ae)->(l.filterMap id).length=l.length
 |[],_=>rfl
 |x::l,h=>by
  have a:=Hj l λy b e=>h (y+1) (by simp;lia) (~~~e);cases x with
  |none=>exact absurd rfl (h 0 (by simp))
  |some v=>simp[a]
def Laid(b:Nat)(a:Array (Option Nat))(k:Nat):Prop:=a.size=b+1/\(a.toList.filterMap id).Perm (cr k)
theorem T8{b q k:Nat}{a:Array (Option Nat)}(g:b+1=2^q)(L:Laid b a k)(n:k<b+1)(h:Int):∃j,pL b a (rD b) (eN h % (b+1)) (eN h)=aa j/\Laid b (a.setIfInBounds j (aa k)) (k+1):=by
 obtain⟨d,f⟩:=L;have:∃y,y<a.toList.length/\a.toList[y]?=aa ae:=by
  by_cases z:∃y,y<a.toList.length/\a.toList[y]?=aa ae
  .exact z
  .have:=Hj a.toList λy c e=>z ⟨y,c,e⟩;have:=f.length_eq;simp at this;simp at *;lia
 obtain⟨y,c,i⟩:=this;have l:eN h<2^64:=by unfold eN;have:=zR h (show(0:Int)<2^64 by decide);have:=zS h (show(2^64:Int)≠0 by decide);lia
 obtain⟨j,m,f2⟩:=Lu g d (~~~c) (~~~i) (eN h % (b+1)) _ l;refine⟨j,m,by simpa using d,?_⟩;rw[Array.toList_setIfInBounds,v3];exact(Io a.toList j k (~~~f2)).trans ((f.cons k).trans (List.perm_append_singleton ..).symm)
end L2
namespace Pu
open L2
def sZ:List PV->Option PV
 |[.int i,.int j]=>aa (.int (if j > i then j else i))
 |_=>ae
theorem M9{K:ay}:PL K (λxs H Q=>∃i j,xs=[.int i,.int j]/\Q (.int (if j > i then j else i)) H) sZ:=λF H xs f Q pv a e q=>by
 unfold sZ at e;split at e
 .cases e;obtain⟨v,g,rfl,d,c⟩:=a;obtain⟨u,rfl,b⟩:=fU c;exact⟨_,_,by rw[show v=V.int _ from d,show u=V.int _ from b],q _ F H (Al.refl ..) rfl⟩
 .cases e
end Pu
namespace L2
section
variable{X:Cx}{f:List (af×Obj)}{d:St}{H:Hp}{s:am}{a:af}
theorem Inv.recast{p q:HO}(I:Inv X f d H s)(e:H a=aa p)(m:∀xs,p≠.tup xs)(C:∀o u,X.H₀ a≠aa (.frz o u))(B:∀j,p≠.tbl j)(A:∀x,p≠.own x)(new:bR X.prog X.w (upd H a q) s.heap a q):Inv X f d (upd H a q) s:=by
 have g:∀b,H b=ae->(upd H a q) b=ae:=λb i=>by rw[bh (by rintro rfl;rw[e]at i;cases i)];exact i
 refine⟨I.ok,I.os,I.bare,⟨I.base.keep,I.base.slot,λb o h n w=>g b (I.base.free b o h n w),I.base.there,λb xs h=>?_,λb o u h=>?_,λb j h=>?_⟩,I.loc,I.cell,g _ I.free,λx c h=>g _ (I.freeC x c h),λp y=>?_,λb u i=>?_,I.len⟩
 .have z:=I.base.tups b xs h;rw[bh (by rintro rfl;rw[e]at z;exact m xs (dO z))];exact z
 .have z:=I.base.frzs b o u h;rw[bh (by rintro rfl;exact C o u h)];exact z
 .have z:=I.base.tbls b j h;rw[bh (by rintro rfl;rw[e]at z;exact B _ (dO z))];exact z
 .obtain⟨F,E,D⟩:=I.pin p y;exact⟨F,g _ E,D⟩
 .by_cases l:b=a
  .subst l;rw[upd_same]at i;cases i;exact new
  .rw[bh l]at i;refine(I.hok b u i).stay (λc v _ r=>r) (λc r=>?_) λc xs r=>?_
   .rw[bh (by rintro rfl;rw[e]at r;exact A _ (dO r))];exact r
   .rw[bh (by rintro rfl;rw[e]at r;exact m _ (dO r))];exact r
def ny(o:Obj):Nat:=match o.data with
 |.dict _ ep=>ep
 |_=>0
theorem Cw{P:aN}{w:aG}{h:aB}{o:Obj}{b:List (aE×V)}(g:h.get? a=aa o)(k:bR P w H h a (.dK b)):(a == jf)=aj/\∃c,KV b c/\h.DictAt (gP P w) a c (ny o):=by
 obtain⟨_,n,c,l,u,p,q,j,m,i,r⟩:=k;rw[g]at j;cases j;refine⟨n,c,l,o,p,g,m,?_,r⟩;have:ny o=q:=by unfold ny;rw[i]
 rw[this];exact i
theorem Inv.freeze{b:List (aE×V)}(I:Inv X f d H s)(e:H a=aa (.dK b)):∃o,s.heap.get? a=aa o/\Inv X f d (upd H a (.frz o (.dK b))) s:=by
 have k:bR X.prog X.w H s.heap a (.dK b):=I.hok a _ e;obtain⟨z,i,g,h,o,j,l,c,r⟩:=id k;refine⟨o,c,I.recast e (λ_ q=>by cases q) (λo u q=>?_) (λ_ q=>by cases q) (λ_ q=>by cases q) ⟨c,⟨z,i,g,h,o,j,l,c,r⟩⟩⟩;have:=I.base.frzs a o u q;rw[e]at this;cases this
theorem Inv.thaw{o:Obj}{b:List (aE×V)}(I:Inv X f d H s)(e:H a=aa (.frz o (.dK b)))(i:∀o u,X.H₀ a≠aa (.frz o u)):Inv X f d (upd H a (.dK b)) s:=by
 obtain⟨j,z,h,c,g,r⟩:=(show bR X.prog X.w H s.heap a (.frz o (.dK b))from I.hok a _ e)
 exact I.recast e (λ_ q=>by cases q) i (λ_ q=>by cases q) (λ_ q=>by cases q) ⟨z,h,c,g,r⟩
end
theorem KV.at{a:List (aE×V)}{b:List (aE×ai)}(h:KV a b){i:Nat}{p:aE×V}(e:a[i]?=aa p):∃q,b[i]?=aa q/\p.1=q.1/\RelV p.2 q.2:=by
 unfold KV at h
 induction h generalizing i with
 |nil=>simp at e
 |cons r _ c=>
  cases i with
  |zero=>simp at e;subst e;exact⟨_,rfl,r⟩
  |succ i=>exact c (~~~e)
theorem KV.len{a:List (aE×V)}{b:List (aE×ai)}(h:KV a b):a.length=b.length:=by
 unfold KV at h
 induction h with
 |nil=>rfl
 |cons _ _ c=>simp[c]
theorem KV.keysD{a:List (aE×V)}{b:List (aE×ai)}(h:KV a b):a.map (·.1)=b.map (·.1):=by
 unfold KV at h
 induction h with
 |nil=>rfl
 |cons r _ c=>simp[c,r.1]
end L2
namespace Pu
open L2
section
variable{X:Cx}{E:XK}{pin:List Nat}{e b c:aC}{de db f:ac PV}{d:Pos}
def nQ(i:Nat):ac PV:=λa=>(aM (dq a i) a).bind λg a=>.ok (.int (g.length:Nat)) a
theorem HW(i:Nat){y:Str}{p g:Pos}(q:X.mg "len"=ae)(x:X.N[i]?=aa y:=by rfl)(z:fh X.env.scope y:=by first|exact Or.inl rfl|exact Or.inr (Or.inl rfl)|exact Or.inr (Or.inr rfl))(v:ad y:=by decide) (C:(y==("__classdict__":Str))=aj:=by decide) (u:Gl X "len":=by rfl)(l:aU [.Name y g] X.env=(aj,aX (.Name y g) X.env)::aU [] X.env:=by rfl) (B:(c7 d (aU [] X.env)).any (·.1)=aj:=by rfl):DE X E (.Call (.Name "len" p) [.Name y g] [] d) (nQ i):=λF S m D H Q r h=>by
 unfold nQ at h;cases j:dq m i with
 |none=>rw[j]at h;exact h.elim
 |some o=>rw[j]at h;obtain⟨a,n,A,w,s,_⟩:=r.dkAt (lL j);refine b9 (nY Nj u q rfl (i9 (gC x z v C) ka l) (by decide) (by decide) l B) ⟨_,A,a,n,rfl,w,?_⟩;rw[s.len];exact h F S H r (bq.refl ..) _ rfl
def gc(neg:Bool)(i:Nat)(db:ac PV):ac PV:=λε=>(db ε).bind λk ε1=>(aM (dq ε1 i) ε1).bind λa ε1=>aM ((iD k).map λk=>.bl (neg^^(jN a k).isSome)) ε1
theorem Em{i:Nat}(j:Bool){F:af->Prop}{S:Nat->af->Prop}{n:ak}{g:St}{H:Hp}{Q:VK}(K:DE X E b db)(G:aS X.K F S n g H)(h:Ok X.K E g F S H (gc j i db n) (λpv _ N _ A=>∀v,aY X.K A N pv v->Q v A)):jo X b g H λy l=>∃x,g[i]?=aa (aa x)/\∃a o,x=.ref a/\lC l a y o/\Q (.bl (j^^o.isSome)) l:=by
 unfold gc at h;refine K F S n g H _ G ((Ok.bind h).imp λk m B z l p O q u D=>?_);cases s:dq m i with
 |none=>rw[s]at q;exact q.elim
 |some I=>
  rw[s]at q;simp only[cJ,R.bind_ok]at q;obtain⟨a,C,M,L,J,_⟩:=p.dkAt (lL s);cases r:iD k with
  |none=>rw[r]at q;exact q.elim
  |some w=>
   rw[r,pG]at q;rw[ti D r];refine⟨.ref a,M,a,jS C w,rfl,lC.k L,?_⟩;rcases J.val w with⟨x,v,h1,h2,h3⟩|⟨h1,h2⟩
   .rw[h1]at q;rw[h2];exact q B z l p (bq.refl ..) _ rfl
   .rw[h1]at q;rw[h2];exact q B z l p (bq.refl ..) _ rfl
theorem Bl(i:Nat){y:Str}{a:Pos}(u:X.A.units+64<cLine)(m:DE X E b db)(n:X.N[i]?=aa y:=by rfl)(o:fh X.env.scope y:=by first|exact Or.inl rfl|exact Or.inr (Or.inl rfl)|exact Or.inr (Or.inr rfl))(l:ad y:=by decide) (p:(y==("__classdict__":Str))=aj:=by decide) (j:pc .In (.Name y a)=aj:=by rfl):DT X E (.Compare b [.In] [.Name y a] d) (dB (gc aj i db)):=λF S s r H Q g h=>by refine tq (B9 (Pf ∅ bQ (gC n o l p)) j) ?_;have:=Em (Q:=λv q=>∃k,v=.bl k/\Q k q) aj m g (sk h);simp only[zT]at this;exact this
theorem Pq(i:Nat){y:Str}{a:Pos}(u:X.A.units+64<cLine)(m:DE X E b db)(n:X.N[i]?=aa y:=by rfl)(o:fh X.env.scope y:=by first|exact Or.inl rfl|exact Or.inr (Or.inl rfl)|exact Or.inr (Or.inr rfl))(l:ad y:=by decide) (p:(y==("__classdict__":Str))=aj:=by decide) (j:pc .NotIn (.Name y a)=aj:=by rfl):DT X E (.Compare b [.NotIn] [.Name y a] d) (dB (gc ah i db)):=λF S s r H Q g h=>by refine tq (B9 (Rp ∅ bQ (gC n o l p)) j) ?_;have:=Em (Q:=λv q=>∃k,v=.bl k/\Q k q) ah m g (sk h);simp only[zU]at this;exact this
theorem UN{H:Hp}{a l:af}{o:HO}{u v:HO}(e:H a=aa v)(i:l≠a):upd (upd (upd H a o) l u) a v=upd H l u:=by
 funext b;by_cases h:b=a
 .subst h;rw[upd_same,bh (dW i),e]
 .rw[bh h];by_cases g:b=l
  .subst g;rw[upd_same,upd_same]
  .rw[bh g,bh g,bh h]
theorem sN(x:Str):tS x.cps.toList=x:=by simp[tS]
def uL(db f:ac PV):ac PO:=λh=>(db h).bind λk g=>(f g).bind λy a=>(aM (iD k) a).bind λi a=>.ok (.dK [(i,y)]) a
theorem NQ(Z:DE X E b db)(Y:DE X E c f):DN X E (.Dict [aa b] [c] d) (uL db f):=λF S N I H Q v h=>by
 refine b9 (LY (P5 bQ bQ Tp) rfl rfl (by simp) (by simp)) λp l=>?_;have al:Al F F H (upd H p (.dK [])):=Al.new0 l;have W:¬F p:=λz=>by obtain⟨o,q⟩:=v.ex p z;rw[l]at q;cases q
 have nS:¬U S p:=λζ=>by obtain⟨i,z⟩:=ζ;obtain⟨_,_,o,q,_⟩:=v.foot i p z;rw[l]at q;cases q
 have B:bq (U S) (U S) F F H (upd H p (.dK [])):=al.grow;refine Z F S N I _ _ (v.al al) ((Ok.bindB h B).imp λk n F1 S1 H1 J D h1 u O=>?_);obtain⟨e1,A,x⟩:=D.stay (upd_same:upd H p (.dK []) p=aa (.dK [])) nS W;refine Y F1 S1 n I H1 _ J ((Ok.bindB h1 (B.trans D)).imp λy M L S2 H2 T C m w r=>?_);obtain⟨K,g,a⟩:=C.stay e1 x A;cases G:iD k with
 |none=>rw[G]at m;exact m.elim
 |some j=>
  rw[G]at m;simp only[cJ,R.bind_ok]at m;have s:aY X.K H2 L k u:=O.grow C J.fit;refine⟨K,[(j,w)],?_,by simp,?_⟩
  .rw[cn,zz,<-ti s G]
  .rw[show tz [] [(j,w)]=[(j,w)] from rfl];obtain⟨gl,fit,P⟩:=T.lay (o':=.dK [(j,w)]) K trivial g a;have g3:=((B.trans D).trans C).lay (o':=.dK [(j,w)]) l;refine m L S2 _ P g3 p (λb=>b=p) ⟨⟨_,upd_same,.cons ⟨rfl,r.grow gl fit⟩ .nil⟩,λb=>ou⟩ λb z=>?_;subst z;exact⟨l,g,a,_,upd_same,trivial⟩
end
end Pu
namespace L2
open Mx
theorem perm_mapE{g q:Type}{f:g->q}{l:List q}{m:List g}(h:l.Perm (m.map f)):∃d:List g,l=d.map f/\d.Perm m:=by
 generalize c:m.map f=mm at h
 induction h generalizing m with
 |nil=>
  cases m with
  |nil=>exact⟨[],rfl,.nil⟩
  |cons=>cases c
 |cons x _ w=>
  cases m with
  |nil=>cases c
  |cons y r=>rw[cn]at c;injection c with o n;obtain⟨d,e,p⟩:=w n;exact⟨y::d,by rw[cn,<-e,o],p.cons y⟩
 |swap x y l=>
  match m,c with
  |a::b::r,c=>simp only[cn,wg]at c;obtain⟨o,n,z⟩:=c;exact⟨b::a::r,by simp[o,n,z],.swap ..⟩
 |trans _ _ j i=>obtain⟨C,A,s⟩:=i c;obtain⟨v,B,u⟩:=j A.symm;exact⟨v,B,u.trans s⟩
theorem below_go{xs:Array Nat}{j:Nat}(g:xs.toList.Pairwise (· < ·)):∀(f d c:Nat),c-d<=f->d<=c->c<=xs.size -> (∀i (h:i<xs.size),i<d->xs[i]<j)->(∀i (h:i<xs.size),c<=i->j<=xs[i]) -> tY xs j f d c<=xs.size/\(∀i (h:i<xs.size),i<tY xs j f d c->xs[i]<j)/\∀i (h:i<xs.size),tY xs j f d c<=i->j<=xs[i]
 |0,d,c,h,hl,hs,h1,h2=>by
  have:d=c:=∅
  subst this;exact⟨hs,h1,h2⟩
 |f+1,d,c,h,hl,hs,h1,h2=>by
  unfold tY;split
  .rename_i u;have l:(d+c) / 2<xs.size:=∅
   have mono:∀a b (q:a<xs.size) (p:b<xs.size),a<b->xs[a]<xs[b]:=λa b q p r=>by have:=t8.mp g a b (~~~q) (~~~p) r;simpa using this
   have s:xs.getD ((d+c) / 2) j=xs[(d+c) / 2]:=by simp[Array.getD,l]
   dsimp only;rw[s];split
   .rename_i o;refine below_go g f _ _ ∅ ∅ hs (λi n m=>?_) h2;by_cases e:i=(d+c) / 2
    .subst e;exact o
    .have:=mono i _ n l ∅;lia
   .rename_i o;refine below_go g f _ _ ∅ ∅ ∅ h1 (λi n m=>?_);by_cases e:i=(d+c) / 2
    .subst e;lia
    .have:=mono _ i l n ∅;lia
  .have:d=c:=∅
   subst this;exact⟨hs,h1,h2⟩
theorem below_ok{xs:Array Nat}(a:xs.toList.Pairwise (· < ·))(j:Nat):iT xs j<=xs.size/\(∀i (h:i<xs.size),i<iT xs j->xs[i]<j)/\∀i (h:i<xs.size),iT xs j<=i->j<=xs[i] :=below_go a xs.size 0 xs.size ∅ ∅ (aZ _) (λi _ h=>absurd h (ot _)) λi h b=>absurd h ∅
structure TOk(t:cp):Prop where
 dm:t.dummies=#[]
 ris:t.place.toList.Pairwise (· < ·)
 le:∀j∈t.place.toList,j<=t.mask
 sz:t.mask∈[7,31,127,511,2047,8191]
 roomy:t.place.size*5<t.mask*3
theorem TOk.pow{t:cp}(h:TOk t):∃q,t.mask+1=2^q:=by
 have:=h.sz;simp only[bn,gi,or_false]at this;rcases this with e|e|e|e|e|e <;> rw[e]
 .exact⟨3,rfl⟩
 .exact⟨5,rfl⟩
 .exact⟨7,rfl⟩
 .exact⟨9,rfl⟩
 .exact⟨11,rfl⟩
 .exact⟨13,rfl⟩
theorem TOk.most{t:cp}(h:TOk t):t.mask<=8191/\7<=t.mask/\t.mask % 2=1:=by have:=h.sz;simp only[bn,gi,or_false]at this;lia
theorem slot_of{t:cp}(l:t.dummies=#[])(a:t.place.toList.Pairwise (· < ·))(j:Nat):(j∉t.place.toList/\t.slot j=.empty)\/∃i,t.place[i]?=aa j/\t.slot j=.live i:=by
 obtain⟨o,b1,b2⟩:=below_ok a j;unfold SetTable.slot;dsimp only;by_cases b:t.place[iT t.place j]?=aa j
 .exact .inr ⟨_,b,by rw[b];simp⟩
 .refine .inl ⟨λf=>?_,?_⟩
  .obtain⟨i,g,e⟩:=oy f;have c:i<t.place.size:=by simpa using g
   have h:t.place[i]=j:=by simpa using e
   have n:¬i<iT t.place j:=λz=>by have:=b1 i c z;lia
   have d:iT t.place j<t.place.size:=∅
   have m:=b2 _ d (aZ _);have:iT t.place j=i:=by
    by_cases q:iT t.place j=i
    .exact q
    .have:=t8.mp a _ i (~~~d) (~~~c) ∅;simp at this;lia
   exact b (by rw[this,jj c,h])
  .rw[if_neg (~~~b),l];simp[SetTable.has]
def stp(a i p:Nat):kA:={j:=i,more:=fM a i-i,i:=i,perturb:=p,dummy:=ae}
def pth(t:cp):Nat->kA->kA
 |0,p=>p
 |n+1,p=>pth t n (t.advance p)
theorem pth_add(t:cp):∀(m n:Nat) (p:kA),pth t (m+n) p=pth t n (pth t m p)
 |0,n,p=>by rw[tZ];rfl
 |m+1,n,p=>by rw[wb];exact pth_add t m n _
theorem pth_succ(t:cp)(n:Nat)(p:kA):pth t (n+1) p=t.advance (pth t n p):=pth_add t n 1 p
theorem adv_dummy(t:cp)(p:kA):(t.advance p).dummy=p.dummy:=by unfold DC;split <;> rfl
theorem pth_dummy(t:cp):∀(n:Nat) (p:kA),(pth t n p).dummy=p.dummy
 |0,p=>rfl
 |n+1,p=>(pth_dummy t n _).trans (adv_dummy t p)
theorem pth_mask{t a:cp}(h:t.mask=a.mask):∀(n:Nat) (p:kA),pth t n p=pth a n p
 |0,p=>rfl
 |n+1,p=>by
  have:t.advance p=a.advance p:=by unfold DC;rw[h]
  show pth t n (t.advance p)=pth a n (a.advance p);rw[this,pth_mask h n]
theorem pth_run(t:cp):∀(k:Nat) (p:kA),k<=p.more->pth t k p={p with j:=p.j+k,more:=p.more-k}
 |0,p,_=>rfl
 |k+1,p,h=>by
  show pth t k (t.advance p)=_;have:t.advance p={p with j:=p.j+1,more:=p.more-1}:=by unfold DC;rw[if_pos ∅]
  rw[this,pth_run t k _ (by dsimp only;lia)];dsimp only;rw[show p.j+1+k=p.j+(k+1) by lia,show p.more-1-k=p.more-(k+1) by lia]
theorem run_le(a i:Nat):fM a i-i<=9:=by unfold fM;split <;> lia
theorem pth_leap(t:cp)(i p:Nat):pth t (fM t.mask i-i+1) (stp t.mask i p)=stp t.mask (mZ t.mask i p).1 (mZ t.mask i p).2:=by rw[pth_succ,pth_run t (fM t.mask i-i) (stp t.mask i p) (aZ _)];exact(if_neg (show ¬(fM t.mask i-i-(fM t.mask i-i) > 0) by lia)).trans rfl
theorem pth_orb(t:cp):∀(m i p:Nat),∃n,n<=10*m/\pth t n (stp t.mask i p)=stp t.mask (fc t.mask m i p).1 (fc t.mask m i p).2
 |0,i,p=>⟨0,aZ _,rfl⟩
 |m+1,i,p=>by obtain⟨n,b,a⟩:=pth_orb t m (mZ t.mask i p).1 (mZ t.mask i p).2;refine⟨fM t.mask i-i+1+n,by have:=run_le t.mask i;lia,?_⟩;rw[pth_add,pth_leap];exact a
theorem nat_len_sub:∀{l m:List Nat},l.Nodup->(∀x∈l,x∈m)->l.length<=m.length
 |[],m,_,_=>jY _
 |x::l,m,d,h=>by
  have c:x∈m:=h x (fK ..);have a:=jB.mp d;have:=nat_len_sub (l:=l) (m:=m.erase x) a.2 λy b=>by have:y≠x:=λe=>a.1 (e ▸ b);exact(List.mem_erase_of_ne this).mpr (h y (eJ _ b))
  rw[DH c]at this;have:0<m.length:=List.length_pos_of_mem c;simp;lia
theorem bits_lt(h:Int):eN h<2^64:=by unfold eN;have:=zR h (show(0:Int)<2^64 by decide);have:=zS h (show(2^64:Int)≠0 by decide);lia
theorem pth_empty{t:cp}(ok:TOk t)(h:Int):∃n,n<=10*(t.mask+14)/\(pth t n (t.probeStart h)).j∉t.place.toList:=by
 obtain⟨q,c⟩:=ok.pow;have:∃y,y<t.mask+1/\y∉t.place.toList:=by
  by_cases z:∃y,y<t.mask+1/\y∉t.place.toList
  .exact z
  .have:=nat_len_sub (l:=cr (t.mask+1)) (m:=t.place.toList) List.nodup_range λx b=>by
    by_cases a:x∈t.place.toList
    .exact a
    .exact absurd ⟨x,kn.mp b,a⟩ z
   have:=ok.roomy;simp at *;lia
 obtain⟨y,p,d⟩:=this;obtain⟨n,r,e⟩:=Il q (fc t.mask 13 (eN h % (t.mask+1)) (eN h)).1 y ∅;have f:(fc t.mask 13 (eN h % (t.mask+1)) (eN h)).2=0:=by rw[BD];exact Nat.div_eq_of_lt (gE (bits_lt h) (by decide))
 have o:(fc t.mask (13+n) (eN h % (t.mask+1)) (eN h)).1<t.mask+1:=by rw[show 13+n=(12+n)+1 by lia];exact Cf t.mask _ _ _
 have j:(fc t.mask (13+n) (eN h % (t.mask+1)) (eN h)).1=y:=by
  have i:(fc t.mask (13+n) (eN h % (t.mask+1)) (eN h)).1 % (t.mask+1)=y:=by rw[AJ,f,By];generalize (fc t.mask 13 (eN h % (t.mask+1)) (eN h)).1=z at e ⊢;rw[c];exact e
  rwa[zQ o]at i
 obtain⟨k,s,g⟩:=pth_orb t (13+n) (eN h % (t.mask+1)) (eN h);refine⟨k,∅,?_⟩;show(pth t k (stp t.mask (eN h % (t.mask+1)) (eN h))).j∉_;rw[g];show(fc t.mask (13+n) _ _).1∉_;rw[j];exact d
theorem least{p:Nat->Prop}:∀(n:Nat),p n->∃m,m<=n/\p m/\∀k,k<m->¬p k
 |0,h=>⟨0,aZ _,h,λk d=>absurd d (ot _)⟩
 |n+1,h=>by
  by_cases z:∃m,m<=n/\p m/\∀k,k<m->¬p k
  .obtain⟨m,a,b,c⟩:=z;exact⟨m,∅,b,c⟩
  .refine⟨n+1,aZ _,h,λk d f=>z ?_⟩;obtain⟨m,a,b,c⟩:=least k f;exact⟨m,∅,b,c⟩
theorem go_met{t:cp}(l:t.dummies=#[])(b:t.place.toList.Pairwise (· < ·))(rE:Nat->Int)(h:Int):∀(d n:Nat) (p:kA),n<d->p.dummy=ae->(pth t n p).j∉t.place.toList->(∀k,k<n->(pth t k p).j∈t.place.toList) -> ((wj t rE h d p=aa (.empty (pth t n p).j ae)/\∀k i,k<n->t.place[i]?=aa (pth t k p).j->t.slot (pth t k p).j=.live i->rE i≠h) \/ ∃m i,m<n/\t.place[i]?=aa (pth t m p).j/\t.slot (pth t m p).j=.live i/\rE i=h/\wj t rE h d p=aa (.candidate (pth t m p).j i (pth t (m+1) p))/\∀k i,k<m->t.slot (pth t k p).j=.live i->rE i≠h)
 |0,n,p,hf,_,_,_=>absurd hf (ot _)
 |d+1,0,p,hf,hd,he,_=>by
  left;refine⟨?_,λk i c=>absurd c (ot _)⟩;rcases slot_of l b p.j with⟨_,e⟩|⟨i,e,_⟩
  .unfold wj;rw[e,hd];rfl
  .exact absurd (ph (show t.place.toList[i]?=aa p.j by simpa using e)) he
 |d+1,n+1,p,hf,hd,he,hb=>by
  rcases slot_of l b p.j with⟨e,_⟩|⟨i,e1,e2⟩
  .exact absurd (hb 0 (ua _)) e
  .unfold wj;rw[e2];dsimp only;by_cases f:rE i=h
   .right;refine⟨0,i,ua _,e1,e2,f,?_,λk i c=>absurd c (ot _)⟩;rw[if_pos (~~~f)];rfl
   .rw[if_neg (~~~f)];rcases go_met l b rE h d n (t.advance p) ∅ ((adv_dummy t p).trans hd) he (λk c=>hb (k+1) ∅)with⟨g1,g2⟩|⟨m,a,g1,g2,g3,g4,g5,g6⟩
    .refine .inl ⟨g1,λk a c o g=>?_⟩;cases k with
     |zero=>
      have:a=i:=by have j:t.slot p.j=.live a:=g;rw[e2]at j;injection j with z;exact z.symm
      subst this;exact f
     |succ k=>exact g2 k a ∅ o g
    .refine .inr ⟨m+1,a,∅,g2,g3,g4,g5,λk a c g=>?_⟩;cases k with
     |zero=>
      have:a=i:=by have j:t.slot p.j=.live a:=g;rw[e2]at j;injection j with z;exact z.symm
      subst this;exact f
     |succ k=>exact g6 k a ∅ g
theorem ins_list{a:Type}(xs:Array a)(p:Nat)(x:a):(rj xs p x).toList=xs.toList.take p++x::xs.toList.drop p:=by unfold rj;simp[jl,tW,Array.toList_extract,List.extract,mR];exact pA (by simp)
theorem zip_ins{d c:Type}{a:List d}{b:List c}(h:a.length=b.length)(p:Nat)(x:d)(y:c)(q:d×c):q∈(a.take p++x::a.drop p).zip (b.take p++y::b.drop p)↔q=(x,y)\/q∈a.zip b:=by
 rw[List.zip_append (by simp[h]),jg,zV,bn];have:a.zip b=(a.take p).zip (b.take p)++(a.drop p).zip (b.drop p):=by rw[<-List.zip_append (by simp[h]),oj,oj]
 rw[this,jg];constructor
 .rintro(h|h|h)
  .exact .inr (.inl h)
  .exact .inl h
  .exact .inr (.inr h)
 .rintro(h|h|h)
  .exact .inr (.inl h)
  .exact .inl h
  .exact .inr (.inr h)
def Rch(t:cp)(a:List Nat)(j:Nat)(h:Int):Prop:=∃n,(pth t n (t.probeStart h)).j=j/\∀k,k<n->(pth t k (t.probeStart h)).j∈a
structure TPl(t:cp)(hs:List Int):Prop where
 ok:TOk t
 len:t.place.size=hs.length
 rch:∀q∈t.place.toList.zip hs,Rch t t.place.toList q.1 q.2
theorem put_ris{a:Array Nat}(b:a.toList.Pairwise (· < ·)){j:Nat}(i:j∉a.toList):(rj a (iT a j) j).toList.Pairwise (· < ·):=by
 obtain⟨l,b1,b2⟩:=below_ok b j;rw[ins_list];have up:∀y∈a.toList.drop (iT a j),j<y:=λy c=>by
  obtain⟨k,f,e⟩:=oy c;rw[zO]at e;rw[mP,fL]at f;have g:=b2 (iT a j+k) ∅ ∅;have h:a[iT a j+k]'∅=y:=by simpa using e
  rw[h]at g;have:y∈a.toList:=List.mem_of_mem_drop c;have:j≠y:=λz=>i (z ▸ this);lia
 have dn:∀x∈a.toList.take (iT a j),x<j:=λx d=>by
  obtain⟨k,f,e⟩:=oy d;rw[Ds]at e;rw[lQ,fL]at f;have g:=b1 k ∅ ∅;have h:a[k]'∅=x:=by simpa using e
  lia
 refine Dr.mpr ⟨b.sublist (List.take_sublist _ _),List.pairwise_cons.mpr ⟨up,b.sublist (List.drop_sublist _ _)⟩,λx d y c=>?_⟩;rcases bn.mp c with rfl|c
 .exact dn x d
 .exact tL (dn x d) (up y c)
theorem Rch.up{t t':cp}{c a:List Nat}{j:Nat}{h:Int}(b:t.mask=t'.mask)(g:∀x∈c,x∈a)(r:Rch t c j h):Rch t' a j h:=by
 obtain⟨n,e,f⟩:=r;have d:t'.probeStart h=t.probeStart h:=by unfold SetTable.probeStart;rw[b]
 exact⟨n,by rw[d,<-pth_mask b];exact e,λk i=>by rw[d,<-pth_mask b];exact g _ (f k i)⟩
theorem put_tp{t:cp}{a:List Int}(T:TPl t a)(h:Int){n:Nat}(o:(pth t n (t.probeStart h)).j∉t.place.toList)(p:∀k,k<n->(pth t k (t.probeStart h)).j∈t.place.toList)(l:(pth t n (t.probeStart h)).j<=t.mask):let t':=(t.put (pth t n (t.probeStart h)).j).1
  let c:=a.take (t.put (pth t n (t.probeStart h)).j).2++h::a.drop (t.put (pth t n (t.probeStart h)).j).2
  t'.dummies=#[]/\t'.place.toList.Pairwise (· < ·)/\(∀j∈t'.place.toList,j<=t'.mask)/\t'.mask=t.mask/\t'.place.size=t.place.size+1/\c.length=a.length+1 /\
   ∀q∈t'.place.toList.zip c,Rch t' t'.place.toList q.1 q.2:=by
 intro t' c;have f:t'.place.toList=t.place.toList.take (iT t.place (pth t n (t.probeStart h)).j)++(pth t n (t.probeStart h)).j::t.place.toList.drop (iT t.place (pth t n (t.probeStart h)).j):=ins_list _ _ _;have mem:∀x,x∈t'.place.toList↔x=(pth t n (t.probeStart h)).j\/x∈t.place.toList:=λx=>by
  rw[f,jg,bn];have:=congrArg (x∈·) (oj (iT t.place (pth t n (t.probeStart h)).j) t.place.toList);simp only[jg,eq_iff_iff]at this;rw[<-this];constructor
  .rintro(h|h|h)
   .exact .inr (.inl h)
   .exact .inl h
   .exact .inr (.inr h)
  .rintro(h|h|h)
   .exact .inr (.inl h)
   .exact .inl h
   .exact .inr (.inr h)
 have g:t'.mask=t.mask:=rfl;have r:t.place.toList.length=a.length:=by have:=T.len;simpa using this
 refine⟨?_,put_ris T.ok.ris o,λj d=>?_,rfl,?_,?_,λq b=>?_⟩
 .show(if SetTable.has t.dummies _ then _ else t.dummies)=#[];rw[T.ok.dm];simp[SetTable.has]
 .rcases(mem j).mp d with rfl|d
  .exact l
  .exact T.ok.le j d
 .rw[<-fL,f];simp;lia
 .show(a.take _++h::a.drop _).length=_;simp;lia
 .rw[f]at b;rcases(zip_ins r _ _ _ q).mp b with rfl|b
  .exact⟨n,by rw[pth_mask g];rfl,λk m=>by rw[pth_mask g];exact(mem _).mpr (.inr (p k m))⟩
  .exact(T.rch q b).up g.symm λx i=>(mem x).mpr (.inr i)
theorem adv_le{t:cp}{p:kA}(h:p.j+p.more<=t.mask):(t.advance p).j+(t.advance p).more<=t.mask:=by
 unfold DC;split
 .dsimp only;lia
 .show(mZ t.mask p.i p.perturb).1+(fM t.mask (mZ t.mask p.i p.perturb).1-(mZ t.mask p.i p.perturb).1)<=t.mask;have:(mZ t.mask p.i p.perturb).1<t.mask+1:=oq _ (ua _);generalize (mZ t.mask p.i p.perturb).1=i at *;unfold fM;split <;> lia
theorem pth_le{t:cp}:∀(n:Nat) {p:kA},p.j+p.more<=t.mask->(pth t n p).j+(pth t n p).more<=t.mask
 |0,p,h=>h
 |n+1,p,h=>pth_le n (adv_le h)
theorem stp_le{a i p:Nat}(h:i<a+1):(stp a i p).j+(stp a i p).more<=a:=by show i+(fM a i-i)<=a;unfold fM;split <;> lia
theorem start_le(t:cp)(h:Int)(n:Nat):(pth t n (t.probeStart h)).j<=t.mask:=by have:=pth_le (t:=t) n (p:=t.probeStart h) (stp_le (p:=eN h) (oq (eN h) (ua t.mask)));lia
def Occ(a:Array (Option Nat))(j:Nat):Prop:=∃k,a[j]?=aa (aa k)
theorem free_path(t:cp){a:Array (Option Nat)}(w:a.size=t.mask+1):∀(f i p j:Nat),i<t.mask+1->pL t.mask a f i p=aa j -> ∃n,(pth t n (stp t.mask i p)).j=j/\∀k,k<n->Occ a (pth t k (stp t.mask i p)).j
 |0,i,p,j,_,h=>by unfold pL at h;cases h
 |f+1,i,p,j,hi,h=>by
  have c:∀k,k<=fM t.mask i-i->(a.getD (i+k) (aa 0)).isNone=aj->Occ a (i+k):=λk d e=>by
   have s:i+k<a.size:=by have:=stp_le (p:=p) hi;have:i+(fM t.mask i-i)<=t.mask:=this;lia
   rw[we,jj s]at e;unfold Occ;rw[jj s];cases q:a[i+k]with
   |none=>rw[q]at e;cases e
   |some v=>exact⟨v,rfl⟩
  have b:∀k,k<=fM t.mask i-i->(pth t k (stp t.mask i p)).j=i+k:=λk d=>by rw[pth_run t k (stp t.mask i p) d];rfl
  unfold pL at h;cases q:(cr (fM t.mask i+1-i)).find? (λk=>(a.getD (i+k) (aa 0)).isNone)with
  |some k=>
   rw[q]at h;cases h;obtain⟨_,g,bs,r,y⟩:=List.find?_eq_some_iff_append.mp q;have d:k<fM t.mask i+1-i:=kn.mp (List.mem_of_find?_eq_some q);refine⟨k,b k ∅,λm z=>?_⟩;rw[b m ∅];refine c m ∅ ?_;have:m∈g:=by
    have A:g.length=k:=by have:=congrArg (λl=>l[g.length]?) r;simp only[pf (aZ _),Dp,List.getElem?_cons_zero]at this;rw[c_]at this;obtain⟨B,e⟩:=this;rw[List.getElem_range]at e;exact e
    have:=congrArg (λl=>l[m]?) r;rw[iS ∅,zC ∅]at this;exact ph this.symm
   have:=y m this;cases u:(a.getD (i+m) (aa 0)).isNone with
   |false=>rfl
   |true=>rw[u]at this;cases this
  |none=>
   rw[q]at h;obtain⟨n,x,f2⟩:=free_path t w f _ _ j (oq _ (ua _)) h;refine⟨fM t.mask i-i+1+n,by rw[pth_add,pth_leap];exact x,λk d=>?_⟩;by_cases o:k<fM t.mask i-i+1
   .rw[b k ∅];refine c k ∅ ?_;have:=DB.mp q k (kn.mpr (by unfold fM at o ⊢;split at o <;> split <;> lia));exact zM.mpr this
   .have e:k=fM t.mask i-i+1+(k-(fM t.mask i-i+1)):=∅
    rw[e,pth_add,pth_leap];exact f2 _ ∅
def LaidR(t:cp)(a:Array (Option Nat))(b:List Int):Prop:=∀(j k:Nat),a[j]?=aa (aa k)->∃h,b[k]?=aa h/\∃n,(pth t n (t.probeStart h)).j=j/\∀m,m<n->Occ a (pth t m (t.probeStart h)).j
theorem layClean_ok2(t:cp){q:Nat}(A:t.mask+1=2^q)(g:Array Int)(J:g.size<=t.mask):∃a,C8 t.mask g=aa a/\Laid t.mask a g.size/\LaidR t a g.toList:=by
 unfold C8;have o:∀(l c:List Int) (a:Array (Option Nat)),Laid t.mask a c.length->LaidR t a c->c.length+l.length<=t.mask+1->∃b,l.foldl (λG h=>do
   let (a,k) <-G
   let j <-pL t.mask a (rD t.mask) (eN h % (t.mask+1)) (eN h)
   pure (a.setIfInBounds j (aa k),k+1)) (aa (a,c.length))=aa (b,(c++l).length)/\Laid t.mask b (c++l).length/\LaidR t b (c++l):=by
  intro l
  induction l with
  |nil=>intro c a L R _;rw[iR];exact⟨a,rfl,L,R⟩
  |cons h l z=>
   intro c a L R B;simp only[cE]at B;obtain⟨j,s,L2⟩:=T8 A L ∅ h;obtain⟨n,r,w⟩:=free_path t L.1 _ _ _ _ (oq _ (ua _)) s;have C:j<a.size:=by rw[L.1,<-r];exact Nat.lt_succ_of_le (start_le t h n)
   have grow:∀x,Occ a x->Occ (a.setIfInBounds j (aa c.length)) x:=λx ⟨k,e⟩=>by
    unfold Occ;rw[Array.getElem?_setIfInBounds];by_cases d:j=x
    .rw[if_pos d,if_pos ∅];exact⟨_,rfl⟩
    .rw[if_neg d];exact⟨k,e⟩
   have R2:LaidR t (a.setIfInBounds j (aa c.length)) (c++[h]):=λx k e=>by
    rw[Array.getElem?_setIfInBounds]at e;by_cases d:j=x
    .subst d;rw[if_pos rfl,if_pos ∅]at e;cases e;exact⟨h,by simp,n,r,λm i=>grow _ (w m i)⟩
    .rw[if_neg d]at e;obtain⟨D,u,y,F,E⟩:=R x k e;have v:k<c.length:=(c_.mp u).1;exact⟨D,by rw[iS v];exact u,y,F,λm i=>grow _ (E m i)⟩
   have p:Laid t.mask (a.setIfInBounds j (aa c.length)) (c++[h]).length:=by rw[fz];exact L2
   obtain⟨b,e,I,H⟩:=z (c++[h]) _ p R2 (by simp;lia);refine⟨b,?_,by simpa using I,by simpa using H⟩;rw[jX];show l.foldl _ ((pL t.mask a (rD t.mask) (eN h % (t.mask+1)) (eN h)).bind λj=>aa (a.setIfInBounds j (aa c.length),c.length+1))=_;rw[s];have f:=e;rw[mR]at f;rw[fz]at f;exact f
 obtain⟨b,e,L,R⟩:=o g.toList [] (Array.replicate (t.mask+1) ae) ⟨by simp,by simp⟩ (λj k e=>by
  rw[Array.getElem?_replicate]at e;split at e <;> cases e) (by simp;lia)
 refine⟨b,?_,by simpa using L,by simpa using R⟩;rw[<-Array.foldl_toList];have f:=congrArg (Option.map (·.1)) e;exact f
theorem laid_tp{mask:Nat}(finger moves:Nat)(led plain:Bool){q:Nat}(Q:mask+1=2^q)(O:mask∈[7,31,127,511,2047,8191])(b:Array (Int×ai))(P:b.size*5<mask*3):∃t c,C7 mask finger moves led plain (b.map (·.1))=aa (t,c)/\t.led=led/\t.plain=plain/\t.mask=mask/\t.moves=moves/\(c.filterMap (b[·]?)).toList.Perm b.toList/\TPl t ((c.filterMap (b[·]?)).toList.map (·.1)):=by
 let t0:cp:={mask:=mask,place:=#[],dummies:=#[],finger:=finger,led:=led,moves:=moves,plain:=plain}
 obtain⟨a,e,L,R⟩:=layClean_ok2 t0 (q:=q) Q (b.map (·.1)) (by show(b.map _).size<=mask;simp;lia)
 let live:=(cr (mask+1)).filterMap λj=>(a.getD j ae).map (j,·)
 let t:cp:={mask:=mask,place:=(live.map (·.1)).toArray,dummies:=#[],finger:=finger,led:=led,moves:=moves,plain:=plain}
 have X:C7 mask finger moves led plain (b.map (·.1))=aa (t,(live.map (·.2)).toArray):=by unfold C7;have e':C8 mask (b.map (·.1))=aa a:=e;rw[e'];rfl
 have g:∀x:Nat×Nat,x∈live↔x.1<mask+1/\a[x.1]?=aa (aa x.2):=λx=>by
  show x∈(cr (mask+1)).filterMap _↔_;rw[Jc];constructor
  .rintro⟨j,z,e⟩;have u:j<a.size:=by rw[L.1];exact kn.mp z
   rw[we,jj u]at e;simp only[zW,mU]at e;obtain⟨k,Z,rfl⟩:=e;exact⟨kn.mp z,by rw[jj u,Z]⟩
  .rintro⟨H,E⟩;exact⟨x.1,kn.mpr H,by rw[we,E];rfl⟩
 have Y:live.map (·.2)=a.toList.filterMap id:=by
  show((cr (mask+1)).filterMap _).map _=_;rw[JH];have:a.toList=(cr (mask+1)).map λj=>a.getD j ae:=by
   refine pI λi=>?_;rw[gZ];by_cases D:i<mask+1
   .rw[zC D];simp[we,show i<a.size by rw[L.1];exact D]
   .rw[lX (by rw[fL,L.1];show mask+1<=i;lia),lX (~~~D)];rfl
  rw[this,List.filterMap_map];refine fm_congr' λj _=>?_;show Option.map (λx=>x.snd) (Option.map (λx=>(j,x)) (a.getD j ae))=a.getD j ae;cases a.getD j ae <;> rfl
 have f:(live.map (·.2)).Perm (cr b.size):=by rw[Y];have:=L.2;simpa using this
 have a6:∀k∈live.map (·.2),k<b.size:=λk w=>kn.mp (f.mem_iff.mp w);have s:∀l:List (Nat×Nat),(∀x∈l,x.2<b.size)->((l.map (·.2)).filterMap (b[·]?)).map (·.1)=l.map λx=>((b[x.2]?).map (·.1)).getD 0:=by
  intro l
  induction l with
  |nil=>intro _;rfl
  |cons x r N=>intro h;have d:=h x (fK ..);rw[cn,mJ,jj d];dsimp only;rw[cn,cn,N λy C=>h y (eJ _ C),jj d];rfl
 have I:∀x∈live,x.2<b.size:=λx d=>a6 _ (b8.mpr ⟨x,d,rfl⟩);have o:(((live.map (·.2)).toArray).filterMap (b[·]?)).toList=(live.map (·.2)).filterMap (b[·]?):=by simp
 have M:((live.map (·.2)).filterMap (b[·]?)).Perm b.toList:=by have:=f.filterMap (b[·]?);rwa[filterMap_getElem?_range]at this
 have p:live.length=b.size:=by have:=f.length_eq;simpa using this
 have B:∀x,Occ a x->x∈t.place.toList:=λx ⟨k,w⟩=>by
  show x∈(live.map (·.1)).toArray.toList;have d:x<mask+1:=by have:=(mV.mp w).1;rw[L.1]at this;exact this
  exact b8.mpr ⟨(x,k),(g _).mpr ⟨d,w⟩,rfl⟩
 refine⟨t,_,X,rfl,rfl,rfl,rfl,by rw[o];exact M,⟨⟨rfl,?_,λj z=>?_,O,?_⟩,?_,λx d=>?_⟩⟩
 .show(live.map (·.1)).Pairwise (· < ·);have A:(live.map (·.1)).Sublist (cr (mask+1)):=by
   show(((cr (mask+1)).filterMap _).map _).Sublist _;rw[JH];refine fm_sub _ λj k e=>?_;rw[Option.map_map]at e;cases q:a.getD j ae with
   |none=>rw[q]at e;cases e
   |some v=>rw[q]at e;exact(dO e).symm
  exact List.pairwise_lt_range.sublist A
 .have u:j∈live.map (·.1):=z;obtain⟨x,d,rfl⟩:=b8.mp u;exact Nat.le_of_lt_succ ((g x).mp d).1
 .show(live.map (·.1)).toArray.size*5<mask*3;simp[p];exact P
 .rw[o];show(live.map (·.1)).toArray.size=_;rw[s live I];simp
 .rw[o,s live I]at d;have G:x∈(live.map (·.1)).zip (live.map λx=>((b[x.2]?).map (·.1)).getD 0):=d;rw[List.zip_map']at G;obtain⟨y,C,rfl⟩:=b8.mp G;obtain⟨H,E⟩:=(g y).mp C;obtain⟨h,W,n,T,S⟩:=R _ _ E;have F:((b[y.2]?).map (·.1))=aa h:=by have:(b.map (·.1)).toList[y.2]?=aa h:=W;simpa using this
  show Rch t t.place.toList y.1 (((b[y.2]?).map (·.1)).getD 0);rw[F];have K:t0.mask=t.mask:=rfl;refine Rch.up (t:=t0) K (λx d=>d) ⟨n,T,λm J=>B _ (S m J)⟩
where
 fm_congr' {α β:Type}{f g:α->Option β}:∀{l:List α},(∀k∈l,f k=g k)->l.filterMap f=l.filterMap g
  |[],_=>rfl
  |x::l,h=>by rw[mJ,mJ,h x (fK ..),fm_congr' λk hk=>h k (eJ _ hk)]
 fm_sub {f:Nat->Option Nat}:∀(l:List Nat),(∀j k,f j=aa k->k=j)->(l.filterMap f).Sublist l
  |[],_=>.slnil
  |x::l,h=>by
   rw[mJ];cases q:f x with
   |none=>exact(fm_sub l h).cons _
   |some k=>rw[h x k q];exact(fm_sub l h).cons₂ _
section
variable{P:aN}{w:aG}{A:aT}{E:ai->am->Prop}{s:am}
structure Keyd(P:aN)(w:aG)(K:Type)[DecidableEq K] where
 is:aB->K->ai->Prop
 hash:K->Int
 room:aT->Prop
 keep:∀{h h':aB}{k:K}{v:ai},is h k v->(∀b o,h.get? b=aa o->o.cls=.type "tuple"->h'.get? b=aa o)->is h' k v
 ref:∀{h:aB}{k:K}{v:ai},is h k v->∃a o,v=.ref a/\h.get? a=aa o
 eqBool:∀{A:aT}{E:ai->am->Prop}{s:am}{x y:K}{u v:ai}{Q:Bool->am->Prop},room A->is s.heap x u->is s.heap y v->Q (decide (x=y)) s->ar (au P w) A (PySem.eqBool u v) Q E s
 quiet:∀{A:aT}{E:ai->am->Prop}{s:am}{k:K}{v:ai}{Q:Bool->am->Prop},is s.heap k v->Q ah s->ar (au P w) A (wl 8 v) Q E s
 cls:∀{A:aT}{E:ai->am->Prop}{s:am}{k:K}{v:ai}{Q:Bool->am->Prop},is s.heap k v->Q aj s->ar (au P w) A (wm 8 v) Q E s
 hbv:∀{A:aT}{E:ai->am->Prop}{s:am}{k:K}{v:ai}{Q:Bool->am->Prop},is s.heap k v->Q aj s->ar (au P w) A (wn 8 v) Q E s
variable{K:Type}[DecidableEq K]{kd:Keyd P w K}
def Els(kd:Keyd P w K)(h:aB)(a:List (Int×ai))(ks:List K):Prop:=a.length=ks.length/\∀q∈a.zip ks,q.1.1=kd.hash q.2/\kd.is h q.2 q.1.2
theorem seen_not{x:ai}{k:K}(h:kd.is s.heap k x):∀(d:List ai),(∀y∈d,∃k,kd.is s.heap k y)->∀{Q:Bool->am->Prop},Q aj s->ar (au P w) A (JT x d) Q E s:=by
 intro d m Q q;unfold JT;refine aq ?_;refine wo _ (λrest r f=>r.1=ae/\f=s/\∀y∈rest,∃k,kd.is s.heap k y) _ ?_ ?_ _ _ ⟨rfl,rfl,m⟩
 .rintro y rest r f ⟨i,rfl,j⟩;obtain⟨v,c⟩:=j y fK;have next:∀z,z=(ForInStep.yield ((ae:Option Bool),()):ForInStep (Option Bool×Unit))->(∃l,z=ForInStep.yield l/\l.1=ae):=λz e=>⟨_,e,rfl⟩
  obtain⟨a,o,rfl,B⟩:=kd.ref h;obtain⟨b,u,rfl,C⟩:=kd.ref c;dsimp only;split
  .exact aD ⟨rfl,rfl,λz g=>j z (eJ _ g)⟩
  .refine aq (kd.quiet h ?_);simp only[l5,fo,if_false];refine aq (kd.quiet c ?_);simp only[l5,fo,if_false];refine aq (kd.cls h ?_);simp only[fo,if_false];refine aq (kd.cls c ?_);simp only[fo,if_false];exact aD ⟨rfl,rfl,λz g=>j z (eJ _ g)⟩
 .rintro⟨p,n⟩ f ⟨i,rfl,_⟩;simp only at i;subst i;exact aD q
theorem search_eq(a:af)(x:ai)(h:Int)(b:Bool)(l:Nat)(c:Option kA):ub a x h b (l+1) c=(do
  let (es,_,t) <-setState a
  if t.gaveWay then lW "set:on-a-table-that-gave-way"
  let aa met:=t.probe (λi=>(es[i]?.map (·.1)).getD 0) h (c.getD (t.probeStart h))|lW "internal:set-table-without-an-empty-slot"
  match met with
  |.empty j f=>
   match f with
   |none=>return .free j aj
   |some d=>
    if b&&t.slot d != .dummy then rule "set.search.the-dummy-was-taken";return <-ub a x h b l ae
    return .free d ah
  |.candidate j i next=>
   if !t.led then
    if <-JT x ((es.filter (·.1 == h)).toList.map (·.2))then lW "set:the-search-would-show-the-table"
   let aa (_,y):=es[i]?|lW "internal:set-entry"
   let equal <-holding [y] (eqBool y x)
   let (es',_,t') <-setState a
   if b&&equal then return .there ae
   let aa same:=t'.sameMemory t.moves t.mask|lW "set.changed-during-lookup:is-the-new-block-at-the-old-address"
   let still <-match (if same then t'.slot j else .empty)with
    |.live g=>match es'[g]? with
     |some (_,m)=>do pure (if <-isSame m y then aa g else ae)
     |none=>pure ae
    |_=>pure ae
   match still with
   |none=>rule "set.search.anew";ub a x h b l ae
   |some g=>if equal then return .there (aa g)else ub a x h b l (aa next)):=rfl
theorem same_self{a:af}{o:Obj}{Q:Bool->am->Prop}(h:s.heap.get? a=aa o)(q:Q ah s):ar (au P w) A (isSame (.ref a) (.ref a)) Q E s:=by unfold isSame;dsimp only;rw[if_pos (by simp)];exact aD q
theorem live_at{t:cp}(ok:TOk t){i:Nat}(a:i<t.place.size):t.slot t.place[i]=.live i:=by
 rcases slot_of ok.dm ok.ris t.place[i]with⟨e,_⟩|⟨i',e1,e2⟩
 .exact absurd (by simp) e
 .rw[e2];obtain⟨b,c⟩:=mV.mp e1;have:i'=i:=by
   rcases Nat.lt_trichotomy i' i with z|z|z
   .have:=t8.mp ok.ris i' i (~~~b) (~~~a) z;simp at this;lia
   .exact z
   .have:=t8.mp ok.ris i i' (~~~a) (~~~b) z;simp at this;lia
  rw[this]
theorem searchV{a:af}{d:Array (Int×ai)}{ep:Nat}{t:cp}{ks:List K}{k:K}{x:ai}(hr:kd.room A)(S:s.heap.get? a=aa {cls:=.type "set",dict:=ae,data:=.set d ep t})(Y:t.fits d.size=ah)(T:TPl t (d.toList.map (·.1))) (f:Els kd s.heap d.toList ks) (L:kd.is s.heap k x) {N:Nat} (H:(pth t N (t.probeStart (kd.hash k))).j∉t.place.toList) (hb:∀m,m<N->(pth t m (t.probeStart (kd.hash k))).j∈t.place.toList) (hN:N<10*(t.mask+15)){Q:SetFound->am->Prop} (q1:k∈ks->Q (.there ae) s) (q2:k∉ks->Q (.free (pth t N (t.probeStart (kd.hash k))).j aj) s):∀(C m:Nat) (c:Option kA),N-m<C->m<=N->c.getD (t.probeStart (kd.hash k))=pth t m (t.probeStart (kd.hash k)) -> (∀j i g,j<m->t.slot (pth t j (t.probeStart (kd.hash k))).j=.live i->ks[i]?=aa g->g≠k)->ar (au P w) A (ub a x (kd.hash k) ah C c) Q E s
 |0,m,c,h,_,_,_=>absurd h (ot _)
 |C+1,m,c,h1,h2,h3,h4=>by
  rw[search_eq];refine aq (lU S rfl Y ?_);dsimp only;have hg:t.gaveWay=aj:=by unfold SetTable.gaveWay;have:=T.ok.most.2.2;simp[this]
  rw[hg];simp only[fo,if_false];have eY:∀i j,t.place[i]?=aa j->∃(q:Int×ai) (g:K),d[i]?=aa q/\ks[i]?=aa g/\q.1=kd.hash g/\kd.is s.heap g q.2:=λi j X=>by
   have a6:i<d.size:=by have:=(mV.mp X).1;have:=T.len;simp at this;lia
   have F:i<ks.length:=by have:=f.1;simp at this;lia
   refine⟨d[i],ks[i],jj a6,eM F,?_⟩;exact f.2 (d[i],ks[i]) (ph (i:=i) (by rw[zI];exact⟨by simp[a6],by simp[F]⟩))
  rcases go_met T.ok.dm T.ok.ris (λi=>((d[i]?).map (·.1)).getD 0) (kd.hash k) (10*rD t.mask) (N-m) (pth t m (t.probeStart (kd.hash k))) (by unfold rD;lia) (pth_dummy t m _)
    (by rw[<-pth_add,show m+(N-m)=N by lia];exact H) (λj hj=>by rw[<-pth_add];exact hb _ ∅)with⟨g1,g2⟩|⟨n,i,g1,g2,g3,g4,g5,g6⟩
  .have e1:t.probe (λi=>((d[i]?).map (·.1)).getD 0) (kd.hash k) (c.getD (t.probeStart (kd.hash k)))=aa (.empty (pth t N (t.probeStart (kd.hash k))).j ae):=by
    rw[h3];show wj t _ _ _ _=_;rw[g1,<-pth_add,show m+(N-m)=N by lia]
   rw[e1];refine aD (q2 λu=>?_);obtain⟨i,X,ek⟩:=oy u;have o:i<t.place.size:=by have:=T.len;have:=f.1;simp at *;lia
   obtain⟨q,g,I,B,e4,e5⟩:=eY i _ (jj o);have ek':g=k:=by rw[eM X,ek]at B;exact(dO B).symm
   subst ek';obtain⟨n,J,r2⟩:=T.rch (t.place[i],q.1) (ph (i:=i) (by rw[zI];exact⟨by simp[o],by rw[gZ,pH,I];rfl⟩));rw[e4]at J r2;have ir:t.place[i]∈t.place.toList:=by simp
   have hnN:n<N:=by
    rcases Nat.lt_trichotomy n N with z|z|z
    .exact z
    .subst z;rw[J]at H;exact absurd ir H
    .exact absurd (r2 N z) H
   have nj:t.slot (pth t n (t.probeStart (kd.hash g))).j=.live i:=by rw[J];exact live_at T.ok o
   by_cases v:n<m
   .exact h4 n i g v nj B rfl
   .have:=g2 (n-m) i ∅ (by rw[<-pth_add,show m+(n-m)=n by lia,J];exact jj o) (by rw[<-pth_add,show m+(n-m)=n by lia];exact nj);exact this (by rw[I];exact e4)
  .rw[<-pth_add]at g2 g3;have e1:t.probe (λi=>((d[i]?).map (·.1)).getD 0) (kd.hash k) (c.getD (t.probeStart (kd.hash k)))=aa (.candidate (pth t (m+n) (t.probeStart (kd.hash k))).j i (pth t (m+n+1) (t.probeStart (kd.hash k)))):=by rw[h3];show wj t _ _ _ _=_;rw[g5,<-pth_add,<-pth_add,zN]
   rw[e1];dsimp only;obtain⟨q,g,I,B,e4,e5⟩:=eY i _ g2;have rest:ar (au P w) A (do
     let aa (_,y):=d[i]?|lW "internal:set-entry"
     let equal <-holding [y] (PySem.eqBool y x)
     let (es',_,t') <-setState a
     if ah&&equal then return .there ae
     let aa same:=t'.sameMemory t.moves t.mask|lW "set.changed-during-lookup:is-the-new-block-at-the-old-address"
     let still <-match (if same then t'.slot (pth t (m+n) (t.probeStart (kd.hash k))).j else .empty)with
      |.live l=>match es'[l]? with
       |some (_,y')=>do pure (if <-isSame y' y then aa l else ae)
       |none=>pure ae
      |_=>pure ae
     match still with
     |none=>rule "set.search.anew";ub a x (kd.hash k) ah C ae
     |some l=>if equal then return .there (aa l)else ub a x (kd.hash k) ah C (aa (pth t (m+n+1) (t.probeStart (kd.hash k))))) Q E s:=by
    rw[I];dsimp only;refine aq (jW (kd.eqBool hr e5 L ?_));refine aq (lU S rfl Y ?_);dsimp only;by_cases v:g=k
    .rw[decide_eq_true v];simp only[Bool.and_self,if_true];exact aD (q1 (by subst v;exact ph B))
    .rw[decide_eq_false v];simp only[C3,fo,if_false];have M:t.sameMemory t.moves t.mask=aa ah:=by unfold SetTable.sameMemory;simp
     rw[M];dsimp only;rw[if_pos rfl,g3];dsimp only;rw[I];dsimp only;obtain⟨b,ob,eb,O⟩:=kd.ref e5;rw[eb];refine aq (same_self O ?_);rw[if_pos rfl];refine aq (aD ?_);dsimp only;refine searchV hr S Y T f L H hb hN q1 q2 C (m+n+1) _ ∅ ∅ rfl λj l p hj r u=>?_;by_cases c1:j<m
     .exact h4 j l p c1 r u
     .by_cases c2:j=m+n
      .subst c2;rw[g3]at r;injection r with z;subst z;rw[B]at u;cases u;exact v
      .intro z;subst z;have nh:t.slot (pth t (j-m) (pth t m (t.probeStart (kd.hash p)))).j=.live l:=by rw[<-pth_add,show m+(j-m)=j by lia];exact r
       have:=g6 (j-m) l ∅ nh;rcases slot_of T.ok.dm T.ok.ris (pth t j (t.probeStart (kd.hash p))).j with⟨_,y⟩|⟨i2,y1,y2⟩
       .rw[r]at y;cases y
       .rw[r]at y2;injection y2 with z2;subst z2;obtain⟨wY,k2,f2,f3,f4,f5⟩:=eY l _ y1;rw[u]at f3;cases f3;exact this (by rw[f2];exact f4)
   cases hl:t.led with
   |true=>simp only[l5,fo,if_false];exact rest
   |false=>
    simp only[uc,if_true];refine aq (seen_not (kd:=kd) L _ (λy hy=>?_) ?_)
    .obtain⟨e,rX,rfl⟩:=b8.mp hy;have Z:e∈d.toList:=by rw[Array.toList_filter]at rX;exact(o_.mp rX).1
     obtain⟨D,G,e6⟩:=oy Z;have W:D<ks.length:=by rw[<-f.1];exact G
     exact⟨ks[D],by have:=(f.2 (d.toList[D],ks[D]) (ph (i:=D) (by rw[zI];exact⟨eM G,eM W⟩))).2;rw[e6]at this;exact this⟩
    .simp only[fo,if_false];exact rest
end
section
variable{P:aN}{w:aG}{A:aT}{E:ai->am->Prop}{s:am}{K:Type}[DecidableEq K]
def elV(a:Keyd P w K)(p:K×ai):Int×ai:=(a.hash p.1,p.2)
structure SetV(kd:Keyd P w K)(h:aB)(a:af)(ps:List (K×ai)):Prop where
 ex:∃(es:Array (Int×ai)) (ep:Nat) (t:cp) (qs:List (K×ai)),h.get? a=aa {cls:=.type "set",dict:=ae,data:=.set es ep t}/\qs.Perm ps/\es.toList=qs.map (elV kd)/\es.size<4090/\TPl t (es.toList.map (·.1))/\t.led=(!eF w)/\(ps≠[]->t.plain=aj)
variable{kd:Keyd P w K}
theorem SetV.at{h h':aB}{a:af}{b:List (K×ai)}(S:SetV kd h a b)(k:∀o,h.get? a=aa o->h'.get? a=aa o):SetV kd h' a b:=by obtain⟨es,ep,t,c,e,r⟩:=S.ex;exact⟨es,ep,t,c,k _ e,r⟩
theorem TPl.fits{t:cp}{a:List Int}(T:TPl t a){n:Nat}(b:n=a.length):t.fits n=ah:=by unfold SetTable.fits SetTable.fill;have:=T.len;have:=T.ok.roomy;rw[T.ok.dm];simp;lia
def addV(a:List (K×ai))(p:K×ai):List (K×ai):=if p.1∈a.map (·.1)then a else a++[p]
theorem relay_eq(a:af)(b:Nat):setRelay a b=(do
  let (es,_,t) <-setState a
  if JA b > bf then lW "set:memory"
  let (es,t) <-(do
   let aa (t,order):=t.relaid (es.map (·.1)) b|lW "internal:set-table-without-room"
   let es':=order.filterMap (es[·]?)
   if es'.size != es.size then lW "internal:set-table-lost-an-element"
   pure (es',t))
  storeSet a es t):=rfl
theorem grow_ok{mask n:Nat}(b:mask∈[7,31,127,511,2047,8191])(f:(n-1)*5<mask*3)(d:mask*3<=n*5)(c:n<4090):∃a q,JA (ol n)=a+1/\a+1=2^q/\a∈[7,31,127,511,2047,8191]/\n*5<a * 3/\a+1<=bf:=by
 simp only[bn,gi,or_false]at b;rcases b with e|e|e|e|e|e <;> subst e
 .obtain rfl:n=5:=∅
  exact⟨31,5,by decide,rfl,by decide,by decide,by decide⟩
 .obtain rfl:n=19:=∅
  exact⟨127,7,by decide,rfl,by decide,by decide,by decide⟩
 .obtain rfl:n=77:=∅
  exact⟨511,9,by decide,rfl,by decide,by decide,by decide⟩
 .obtain rfl:n=307:=∅
  exact⟨2047,11,by decide,rfl,by decide,by decide,by decide⟩
 .obtain rfl:n=1229:=∅
  exact⟨8191,13,by decide,rfl,by decide,by decide,by decide⟩
 .lia
theorem els_of{h:aB}{c:List (Int×ai)}{a:List (K×ai)}(e:c=a.map (elV kd))(f:∀p∈a,kd.is h p.1 p.2):Els kd h c (a.map (·.1)):=by subst e;refine⟨by simp,λq b=>?_⟩;rw[List.zip_map']at b;obtain⟨p,d,rfl⟩:=b8.mp b;exact⟨rfl,f p d⟩
theorem set_addV{a:af}{B:List (K×ai)}{k:K}{x:ai}{Q:Bool->am->Prop}(hr:kd.room A)(S:SetV kd s.heap a B)(hk:∀p∈B,kd.is s.heap p.1 p.2)(X:kd.is s.heap k x)(hn:B.length<4000)(h:∀o b,ko a s.heap o->SetV kd o a (addV B (k,x))->Q b {s with heap:=o}):ar (au P w) A (C9 a x (kd.hash k)) Q E s:=by
 obtain⟨f,ep,t,D,Z,hp,kP,hsz,T,l6,dv⟩:=S.ex;have hqk:∀p∈D,kd.is s.heap p.1 p.2:=λp hq=>hk p (hp.mem_iff.mp hq);have els:=els_of kP hqk;have bF:f.size=B.length:=by have e1:=congrArg ln kP;have v:=hp.length_eq;simp at e1;lia
 have hf:t.fits f.size=ah:=T.fits (by simp);have l:k∈D.map (·.1)↔k∈B.map (·.1):=(hp.map (·.1)).mem_iff;obtain⟨u,ox,rfl,hox⟩:=kd.ref X;unfold C9 setAddHashedIn;refine jW (aq (lU Z rfl hf ?_));dsimp only;have hbs:byScan (.ref u) f=aj:=by unfold byScan;simp[Value.scannable]
 rw[hbs];simp only[fo,if_false];obtain⟨N0,hN0,hE0⟩:=pth_empty T.ok (kd.hash k);obtain⟨N,hN,hE,hB⟩:=least (p:=λn=>(pth t n (t.probeStart (kd.hash k))).j∉t.place.toList) N0 hE0;have hB':∀m,m<N->(pth t m (t.probeStart (kd.hash k))).j∈t.place.toList:=λm hm=>Classical.not_not.mp (hB m hm);have h8:=T.ok.most.1;unfold setSearch;refine aq (searchV hr Z hf T els X hE hB' ∅ (λir=>?_) (λKf=>?_) 100000 0 ae ∅ (jY _) rfl λj i k' hj=>absurd hj (ot _))
 .refine aD (h s.heap _ (JB a s.heap) ?_);unfold addV;rw[if_pos (l.mp ir)];exact S
 .dsimp only;refine aq (lU Z rfl hf ?_);dsimp only;have a6:=start_le t (kd.hash k) N;obtain⟨p1,p2,p3,W,I,O,M⟩:=put_tp T (kd.hash k) hE hB' a6;have G:(t.put (pth t N (t.probeStart (kd.hash k))).j).1.led=t.led:=rfl;have Y:(t.put (pth t N (t.probeStart (kd.hash k))).j).2<=f.size:=by
   have:=(below_ok T.ok.ris (pth t N (t.probeStart (kd.hash k))).j).1;have e:t.place.size=f.size:=by have:=T.len;simpa using this
   rw[<-e];exact this
  generalize hPut:t.put (pth t N (t.probeStart (kd.hash k))).j=TP at p1 p2 p3 W I O M G Y ⊢;obtain⟨J,g⟩:=TP;dsimp only at p1 p2 p3 W I O M G Y ⊢;have Eg:(rj f g (kd.hash k,.ref u)).toList=(D.take g++(k,.ref u)::D.drop g).map (elV kd):=by rw[ins_list,kP,pt,cn,List.map_take,List.map_drop];rfl
  have hhs:(rj f g (kd.hash k,.ref u)).toList.map (·.1)=(f.toList.map (·.1)).take g++kd.hash k::(f.toList.map (·.1)).drop g:=by rw[ins_list,pt,cn,List.map_take,List.map_drop]
  have ut:(D.take g++(k,Value.ref u)::D.drop g).Perm (addV B (k,.ref u)):=by unfold addV;rw[if_neg (λz=>Kf (l.mpr z))];refine List.perm_middle.trans ?_;rw[oj];exact(hp.cons _).trans (List.perm_append_singleton _ _).symm
  have Ea:(rj f g (kd.hash k,.ref u)).size=f.size+1:=by rw[<-fL,ins_list];simp;lia
  have cH:addV B (k,Value.ref u)≠[]:=by unfold addV;rw[if_neg (λz=>Kf (l.mpr z))];simp
  rw[<-hhs]at O M;generalize hes2:rj f g (kd.hash k,Value.ref u)=es1 at Eg hhs Ea O M ⊢;have C:∀c:cp,c={J with plain:=aj}->ar (au P w) A (do
    storeSet a es1 c
    if(!aj&&c.tooFull)=ah then do
      setRelay a (ol (f.size+1))
      pure ah
     else pure ah) (λr s'=>∃o,r=ah/\s'={s with heap:=o}/\ko a s.heap o/\SetV kd o a (addV B (k,.ref u))) E s:=by
   intro c v;have g_:c.led=(!eF w):=by rw[v];exact G.trans l6
   have eC:c.plain=aj:=by rw[v]
   have d1:c.dummies=#[]:=by rw[v];exact p1
   have d2:c.place=J.place:=by rw[v]
   have d3:c.mask=J.mask:=by rw[v]
   have L:∀q∈c.place.toList.zip (es1.toList.map (·.1)),Rch c c.place.toList q.1 q.2:=λq hq=>by rw[d2]at hq ⊢;exact(M q hq).up d3.symm λx X=>X
   have D9:c.fill=f.size+1:=by unfold SetTable.fill;rw[d1,d2,I];have:=T.len;simp at this ⊢;lia
   have J_:c.mask∈[7,31,127,511,2047,8191]:=by rw[d3,W];exact T.ok.sz
   have Vh:c.fits es1.size=ah:=by unfold SetTable.fits;rw[D9,Ea,d2,I];have h1:=T.len;have h2:=T.ok.roomy;have h3:=T.ok.most.2.1;simp at h1 ⊢;rw[d3,W];lia
   refine aq (C_ Z rfl ?_ (Da (tL (show es1.size<4090 by lia) (by decide))));have o1:=lh.put (es':=es1) (t':=c) Z;have iX:=pD s.heap a (Obj.putSet es1 c);by_cases F:c.tooFull=ah
   .rw[F];simp only[uc,Bool.and_self,if_true];have U9:c.mask*3<=(f.size+1)*5:=by unfold SetTable.tooFull at F;rw[D9]at F;simpa using F
    have H:(f.size+1-1)*5<c.mask*3:=by have h1:=T.len;have h2:=T.ok.roomy;simp at h1;rw[d3,W];lia
    obtain⟨m',q,g1,g2,g3,g4,g5⟩:=grow_ok J_ H U9 ∅;rw[relay_eq];refine aq (aq (lU o1 rfl Vh ?_));dsimp only;rw[g1,if_neg ∅];obtain⟨t3,d,f1,f2,f3,f4,f5,f6,f7⟩:=laid_tp (mask:=m') c.finger (c.movedTo m') c.led c.plain g2 g3 es1 ∅;have er:c.relaid (es1.map (·.1)) (ol (f.size+1))=aa (t3,d):=by unfold SetTable.relaid;rw[g1];exact f1
    rw[er];dsimp only;have Af:(d.filterMap (es1[·]?)).size=es1.size:=by have:=f6.length_eq;rwa[fL,fL]at this
    refine aq ?_;rw[if_neg (by rw[Af];simp)];refine aD ?_;dsimp only;obtain⟨y,r1,r2⟩:∃y:List (K×ai),(d.filterMap (es1[·]?)).toList=y.map (elV kd)/\y.Perm (D.take g++(k,Value.ref u)::D.drop g):=by rw[Eg]at f6;exact perm_mapE f6
    refine C_ o1 rfl ?_ (Da (tL (show(d.filterMap (es1[·]?)).size<4090 by lia) (by decide)));refine aD ⟨_,rfl,rfl,iX.trans (pD _ a _),⟨_,_,t3,y,lh.put o1,r2.trans ut,r1,∅,f7,f2.trans g_,λ_=>f3.trans eC⟩⟩
   .rw[zM.mpr F];simp only[C3,fo,if_false];have H:c.place.size*5<c.mask*3:=by unfold SetTable.tooFull at F;rw[D9]at F;have h1:=T.len;simp at F h1;rw[d2,I];lia
    refine aD ⟨_,rfl,rfl,iX,⟨es1,_,c,_,o1,ut,Eg,∅,⟨⟨d1,by rw[d2];exact p2,by rw[d2,d3];exact p3,J_,H⟩,?_,L⟩,g_,λ_=>eC⟩⟩;rw[d2,I,O];have:=T.len;lia
  split
  .refine aq (kd.hbv X ?_);simp only[fo,if_false];refine aW (C _ rfl) λr s' ζ=>?_;obtain⟨o,e1,v,e3,e4⟩:=ζ;subst e1 v;exact h o _ e3 e4
  .rename_i Eb;refine aq (aD ?_);simp only[if_true];refine aW (C J (by
    have:J.plain=aj:=by simpa using Eb
    rw[<-this])) λr s' ⟨o,e1,v,e3,e4⟩=>?_
   subst e1 v;exact h o _ e3 e4
end
section
variable{P:aN}{w:aG}{A:aT}{E:ai->am->Prop}{s:am}
theorem tupTy{a:af}{b:Array ai}(h:IsTup s.heap a b):s.TypeIs (.ref a) "tuple":=let ⟨o,ho,hc,_⟩:=h;⟨o,ho,hc⟩
def HsAt(P:aN)(w:aG)(A:aT)(s:am)(v:ai)(x:Int):Prop :=
 ∀(b:Nat) (E:ai->am->Prop) (Q:Int->am->Prop),(∀a,b<=a->Q x {s with toks:=a})->ar (au P w) A (pyHash v) Q E {s with toks:=b}
theorem hash_tup{a:af}{g:Array ai}{hs:List (ai×Int)}(z:A.units<cLine)(v:IsTup s.heap a g)(D:g.toList=hs.map (·.1))(G:∀p∈hs,HsAt P w A.in1 s p.1 p.2):HsAt P w A s (.ref a) (vQ (n4 (hs.map (·.2)))):=λl E Q h=>by
 have m:Shared.TypeIs {s with toks:=l} (.ref a) "tuple":=tupTy v;obtain⟨o,C,_,n,H⟩:=v;unfold pyHash
 first|unfold pyHashByItsType|skip
 first|refine aq (wpAny_cRoomFor_or (.inr z) ?_)|skip
 refine aq (vY m F.slot_tuple_hash.lookup ?_);show ar _ _ (if(aa (Value.builtin "tuple.__hash__") == aa Value.none)=ah then _ else _) Q E _;rw[if_neg (by rw[beq_builtin_none];exact eX)];refine aq (vY m F.slot_tuple_hash.lookup ?_);show ar _ _ (callSpecialIfBoundUnlessNone? (.ref a) "__hash__" _ >>= _) Q E _;refine aq (wpAny_callSpecialIfBoundUnlessNone?_slot m UZ (mQ UZ m F.entry_tuple_hash ?_ (F.args_tuple_hash_1 _)));show ar _ _ (Jo (.ref a) >>= _) _ _ _;refine aq (wpAny_tupleItemsOf (s:={s with toks:=l}) C H ?_);refine aq ?_;rw[<-DJ,D];refine wo _
  (λrest (b:Array Int) u=>∃d c f,hs=d++c/\rest=c.map (·.1)/\b.toList=d.map (·.2)/\l<=f/\u={s with toks:=f})
  _ ?_ ?_ _ _ ⟨[],hs,l,rfl,rfl,rfl,aZ _,rfl⟩
 .rintro x rest b u ⟨d,c,f,rfl,j,r,B,rfl⟩;cases c with
  |nil=>cases j
  |cons p c=>
   rw[cn]at j;injection j with h1 y;subst h1 y;refine aq (G p (by simp) f _ _ λi y=>?_)
   first
    |exact aD ⟨d++[p],c,i,by simp,rfl,by simp[r],∅,rfl⟩
    |exact aq (aD (aD ⟨d++[p],c,i,by simp,rfl,by simp[r],∅,rfl⟩))
 .rintro b u ⟨d,c,f,rfl,j,r,B,rfl⟩;have:c=[]:=by cases c with|nil=>rfl|cons=>cases j
  subst this;rw[iR]at h;show ar _ _ (retInt (n4 b.toList)) _ _ _;rw[r];refine wpAny_ret_mkInt ?_;show ar _ _ (if(decide (-(2:Int)^63<=n4 (d.map (·.2)))&&decide (n4 (d.map (·.2))<2^63))=ah then _ else _) Q E _;unfold vQ at h;by_cases q:(decide (-(2:Int)^63<=n4 (d.map (·.2)))&&decide (n4 (d.map (·.2))<2^63))=ah
  .rw[if_pos q];rw[if_pos q]at h;exact aD (h _ (by simp;lia))
  .rw[if_neg q];rw[if_neg q]at h;exact aq (mW (aD (h _ (by simp;lia))))
theorem hash_str(z:Str)(t:Tok):HsAt P w A s (.str z t) ((gG P w).hash z):=λa E Q h=>(gG P w).pyHash (s:={s with toks:=a}) (k:=z) (by show qX z (.str z t)=ah;simp[qX]) (h _ (zB _))
theorem quiet_tup{n:Nat}{a:af}{b:Array ai}{Q:Bool->am->Prop}(g:IsTup s.heap a b)(q:∀v∈b.toList,∀(E:ai->am->Prop) (Q:Bool->am->Prop),Q ah s->ar (au P w) A (wl n v) Q E s)(h:Q ah s):ar (au P w) A (wl (n+1) (.ref a)) Q E s:=by
 have f:=tupTy g;obtain⟨o,p,_,m,x⟩:=g;unfold wl;refine aq (vY f F.slot_tuple_eq.lookup ?_);show ar _ _ (zF (.ref a) (.type "tuple") >>= _) _ _ s;refine aq (De f isSubtype_tuple_tuple ?_);simp only[l5,fo,if_false];refine aq (Df p x ?_);refine aq ?_;show ar _ _ (forIn b _ _) _ _ s;rw[<-DJ];refine wo _ (λrest r c=>r.1=ae/\c=s/\∀v∈rest,v∈b.toList) _ ?_ ?_ _ _ ⟨rfl,rfl,λv l=>l⟩
 .rintro v rest r c ⟨d,rfl,i⟩;refine aq (q v (i v fK) _ _ ?_);simp only[l5,fo,if_false];exact aD ⟨rfl,rfl,λu j=>i u (eJ _ j)⟩
 .rintro⟨z,y⟩ c ⟨d,rfl,_⟩;simp only at d;subst d;exact aD h
theorem cls_tup{n:Nat}{a:af}{b:Array ai}{Q:Bool->am->Prop}(f:IsTup s.heap a b)(q:∀v∈b.toList,∀(E:ai->am->Prop) (Q:Bool->am->Prop),Q aj s->ar (au P w) A (wm n v) Q E s)(h:Q aj s):ar (au P w) A (wm (n+1) (.ref a)) Q E s:=by
 have j:=tupTy f;obtain⟨o,p,_,m,x⟩:=f;unfold wm;refine aq (tF j ?_);dsimp only;rw[if_pos (by decide)];refine aq (aD ?_);simp only[l5,fo,if_false];refine aq (Df p x ?_);dsimp only;refine aq ?_;rw[<-DJ];refine wo _ (λrest r c=>r.1=ae/\c=s/\∀v∈rest,v∈b.toList) _ ?_ ?_ _ _ ⟨rfl,rfl,λv l=>l⟩
 .rintro v rest r c ⟨d,rfl,g⟩;refine aq (q v (g v fK) _ _ ?_);simp only[fo,if_false];exact aD ⟨rfl,rfl,λu i=>g u (eJ _ i)⟩
 .rintro⟨z,y⟩ c ⟨d,rfl,_⟩;simp only at d;subst d;exact aD h
theorem hbv_tup{n:Nat}{a:af}{b:Array ai}{Q:Bool->am->Prop}{pre post:List ai}{x:ai}(f:IsTup s.heap a b)(e:b.toList=pre++x::post)(B:∀v∈pre,∀(E:ai->am->Prop) (Q:Bool->am->Prop),Q ah s->ar (au P w) A (wn n v) Q E s)(l:∀(E:ai->am->Prop) (Q:Bool->am->Prop),Q aj s->ar (au P w) A (wn n x) Q E s) (h:Q aj s):ar (au P w) A (wn (n+1) (.ref a)) Q E s:=by
 have j:=tupTy f;obtain⟨o,C,_,m,D⟩:=f;unfold wn;refine aq (vY j F.slot_tuple_hash.lookup ?_);show ar _ _ (seqItems? (.ref a) >>= _) _ _ s;refine aq (Df C D ?_);refine aq ?_;show ar _ _ (forIn b _ _) _ _ s;rw[<-DJ,e];refine wo _ (λrest r d=>r.1=ae/\d=s/\∃p,rest=p++x::post/\∀v∈p,v∈pre) _ ?_ ?_ _ _ ⟨rfl,rfl,pre,rfl,λv q=>q⟩
 .rintro v rest r d ⟨z,rfl,p,c,g⟩;cases p with
  |nil=>rw[kw]at c;injection c with h1 h2;subst h1;refine aq (l _ _ ?_);simp only[uc,if_true];exact aD (aD h)
  |cons y p=>rw[Dw]at c;injection c with h1 h2;subst h1;refine aq (B v (g v fK) _ _ ?_);simp only[l5,fo,if_false];exact aD ⟨rfl,rfl,p,h2,λu i=>g u (eJ _ i)⟩
 .rintro⟨H,G⟩ d ⟨z,rfl,p,c,_⟩;cases p <;> cases c
theorem tup_uniq{h:aB}{a:af}{x y:Array ai}(g:IsTup h a x)(f:IsTup h a y):x=y:=by
 obtain⟨o,e,_,n,d⟩:=g;obtain⟨i,b,_,j,c⟩:=f;rw[e]at b;cases b;rw[d]at c;cases c;rfl
theorem strs_uniq{a:List ai}{x y:List Str}(r:c8 a x)(s:c8 a y):x=y:=by
 induction r generalizing y with
 |nil=>cases s;rfl
 |cons _ _ _ g=>
  cases s with
  |cons _ _ t=>rw[g t]
theorem all_getD{a b:List Str}:((cr (min a.length b.length)).all (λj=>a.getD j kq == b.getD j kq)&&a.length == b.length)=decide (a=b):=by
 rw[mM,g7,tP,decide_eq_true_iff,beq_iff_eq];constructor
 .rintro⟨g,f⟩;refine List.ext_getElem f λi c d=>?_;have:=g i (kn.mpr ∅);rw[beq_iff_eq]at this;simpa[c,d]using this
 .rintro rfl;exact⟨λx _=>by simp,rfl⟩
theorem strs_len{a:List ai}{b:List Str}(h:c8 a b):a.length=b.length:=h.length
theorem eq_strs{b h:af}{c a:Array ai}{i d:List Str}(u:A.units<cLine)(o:IsTup s.heap b c)(f:c8 c.toList i)(p:IsTup s.heap h a)(g:c8 a.toList d):vX A s (.ref b) (.ref h) (decide (i=d)):=by
 by_cases n:b=h
 .subst n;obtain rfl:=tup_uniq o p;obtain rfl:=strs_uniq f g;rw[decide_eq_true rfl];exact .same _
 .have m:=strs_len f;have l:=strs_len g;rw[fL]at m l;rw[<-all_getD,<-m,<-l];refine .of_refs n (.tuples o p u λj r q=>?_);obtain⟨t,e⟩:=yw j c[j] f (by simp[r]);obtain⟨x,v⟩:=yw j a[j] g (by simp[q]);rw[e,v];exact Jq _ _ _ _
theorem tup_kept{h d:aB}{a:af}{x:Array ai}(f:IsTup h a x)(k:∀b o,h.get? b=aa o->o.cls=.type "tuple"->d.get? b=aa o):IsTup d a x:=by obtain⟨o,e,c,r⟩:=f;exact⟨o,k a o e c,c,r⟩
theorem strs_pairs{a:List ai}{b:List Str}(h:c8 a b):a=(a.zip (b.map (gG P w).hash)).map (·.1)/\(a.zip (b.map (gG P w).hash)).map (·.2)=b.map (gG P w).hash/\∀p∈a.zip (b.map (gG P w).hash),HsAt P w A s p.1 p.2:=by
 induction h with
 |nil=>exact⟨rfl,rfl,λp c=>by simp at c⟩
 |cons z t _ d=>
  obtain⟨i,g,f⟩:=d;rw[cn,zV,cn,cn];refine⟨by rw[<-i],by rw[g],λp c=>?_⟩;rcases bn.mp c with rfl|c
  .exact hash_str z t
  .exact f p c
theorem strs_mem_shape{a:List ai}{b:List Str}(h:c8 a b):∀v∈a,∃z t,v=Value.str z t:=λv c=>h.all v c
end
def ltL(a b:List Tx):Bool:=decide (a<b)
theorem ltL_cons(x y:Tx)(xs a:List Tx):ltL (x::xs) (y::a)=if x=y then ltL xs a else decide (x<y):=by
 unfold ltL;by_cases h:x=y
 .subst h;rw[if_pos rfl,mM,decide_eq_true_iff,decide_eq_true_iff,DL];exact⟨λz=>z.elim (λq=>absurd q (List.lt_irrefl _)) λq=>q.2,λq=>.inr ⟨rfl,q⟩⟩
 .rw[if_neg h,mM,decide_eq_true_iff,decide_eq_true_iff,DL];exact⟨λz=>z.elim id λq=>absurd q.1 h,.inl⟩
def ordL:KeyOrd where
 α:=List Tx
 blt:=ltL
 irrefl:=λa=>decide_eq_false (List.lt_irrefl a)
 trans:=λa b c f d=>decide_eq_true (List.lt_trans (of_decide_eq_true f) (of_decide_eq_true d))
 negTrans:=λa b c h=>by
  unfold ltL;by_cases g:a<b
  .exact .inl (decide_eq_true g)
  .have i:b<=a:=List.not_lt.mp g;exact .inr (decide_eq_true (List.lt_of_le_of_lt i (of_decide_eq_true h)))
 total:=λa b f d=>List.le_antisymm (List.not_lt.mp (of_decide_eq_false d)) (List.not_lt.mp (of_decide_eq_false f))
section
open PySem.SeqAt
open PySem.AutoSeq1 (wpAny_loadPart')
open PySem.MeetsSeq PySem.MeetsSeq2 PySem.MeetsSeq3
def cpsL(a:List Str):List Tx:=a.map λz=>z.cps.toList
theorem cps_inj{x y:Str}(h:x.cps.toList=y.cps.toList):x=y:=by rw[<-sN x,<-sN y,h]
theorem tuple_lt_strs(l b:af)(i f:Array ai)(n n2:Nat)(dd X:Option af)(sl P:Array (Option ai))(J K:List Str)(hi:c8 i.toList J)(Z:c8 f.toList K):Meets (Builtin.«tuple.__lt__» ⟨[.ref l,.ref b],[]⟩) (λ_ R s=>s.heap.get? l=aa {cls:=.type "tuple",dict:=dd,data:=.seq i n,slots:=sl}/\s.heap.get? b=aa {cls:=.type "tuple",dict:=X,data:=.seq f n2,slots:=P} /\ R (.ok (.ret (.bool (ltL (cpsL J) (cpsL K))))) s) :=
 .of_wp λo w A R s h=>by
  obtain⟨D,g,d,r,v⟩:=s;obtain⟨hl,hb,h⟩:=h;have f2:=AutoSeq1.sub_tuple_tuple;have z1:i.size=J.length:=by rw[<-hi.length];simp
  have z2:f.size=K.length:=by rw[<-Z.length];simp
  wp_walk using CN hl,CN hb,wo _ (λrest b S=>b.1=ae/\S=⟨D,g,d,r,v⟩/\∃(H G:List ai) (j m:List Str),rest=H.zip G /\ c8 H j/\c8 G m/\j.length+f.size=m.length+i.size/\R (.ok (.ret (.bool (ltL (cpsL j) (cpsL m))))) ⟨D,g,d,r,v⟩) _
  case turn=>
   rintro⟨y,x⟩ rest b S ⟨O,rfl,H,G,j,m,p,T,I,F,L⟩;cases T with
   |nil=>rw[List.zip_nil_left]at p;cases p
   |cons a t C=>
    cases I with
    |nil=>rw[List.zip_nil_right]at p;cases p
    |cons c u B=>
     rw[zV]at p;injection p with hyx Vi;injection hyx with hy hx;subst hy hx;rename_i vs1 N vs2 M;have q:R (.ok (.ret (.bool (if a.cps.toList=c.cps.toList then ltL (cpsL N) (cpsL M)else decide (a.cps.toList<c.cps.toList))))) ⟨D,g,d,r,v⟩:=by rw[<-ltL_cons];exact L
     simp only[cE]at F;refine aq (EqAt.str_str a t c u o w _ _ ?_);by_cases e:a=c
     .subst e;rw[if_pos rfl]at q;rw[beq_self_eq_true]
      wp_walk
      exact⟨rfl,rfl,_,_,_,_,Vi,C,B,∅,q⟩
     .rw[if_neg (λz=>e (cps_inj z))]at q;rw[beq_false_of_ne e];have W:∀(E:ai->am->Prop) (Q:ai->am->Prop),Q (.bool (decide (a.cps.toList<c.cps.toList))) ⟨D,g,d,r,v⟩->ar (au o w) A.in1 (richCompare .Lt (.str a t) (.str c u)) Q E ⟨D,g,d,r,v⟩:=λE Q h=>(JU h:ar (au o w) A.in1 (dX .Lt (.str a t) (.str c u)) Q E _)
      wp_walk using W
      exact⟨_,rfl,by simpa using q⟩
  case fin=>
   rintro⟨b1,b2⟩ S ⟨O,rfl,H,G,j,m,p,T,I,F,L⟩;simp only at O;subst O;have Y:ltL (cpsL j) (cpsL m)=decide (i.size<f.size):=by
    cases T with
    |nil=>
     cases I with
     |nil=>simp only[mT]at F;exact(decide_eq_false (by simp[cpsL])).trans (decide_eq_false ∅).symm
     |cons c u hw=>simp only[mT,cE]at F;exact(decide_eq_true (by simp[cpsL])).trans (decide_eq_true ∅).symm
    |cons a t Y=>
     cases I with
     |nil=>simp only[mT,cE]at F;exact(decide_eq_false (by simp[cpsL])).trans (decide_eq_false ∅).symm
     |cons c u hw=>
      rw[zV]at p;cases p
   rw[Y]at L
   wp_walk
   exact⟨_,rfl,by simpa[Builtin.Tuple.tupleCompareSizes]using L⟩
  case h=>exact⟨rfl,rfl,i.toList,f.toList,J,K,rfl,hi,Z,∅,h⟩
end
section
variable{P:aN}{w:aG}{A:aT}{E:ai->am->Prop}{s:am}
theorem lt_tupStrs{l b:af}{c a:Array ai}{d f:List Str}{Q:ai->am->Prop}(D:IsTup s.heap l c)(H:IsTup s.heap b a)(G:c8 c.toList d)(F:c8 a.toList f)(C:A.units<cLine) (h:Q (.bool (ltL (cpsL d) (cpsL f))) s):ar (au P w) A (dX .Lt (.ref l) (.ref b)) Q E s:=by
 obtain⟨⟨J,I,v,z⟩,q,u,n,r⟩:=id D;obtain⟨⟨y,i,j,g⟩,p,m,B,o⟩:=id H;simp only at u r m o;subst u r m o;exact richCompare_meets_room (op:=.Lt) ⟨_,q,rfl⟩ ⟨_,p,rfl⟩ PySem.F.slot_tuple_lt PySem.F.entry_tuple_lt (PySem.F.args_tuple_lt_2 _ _) (tuple_lt_strs l b c a n B I i z g d f G F)
  ⟨q,p,show Value.bool (ltL (cpsL d) (cpsL f))≠Value.notImplemented/\Q (.bool (ltL (cpsL d) (cpsL f))) s from⟨(λx=>nomatch x),h⟩⟩ C
theorem cpsL_inj{x y:List Str}(h:cpsL x=cpsL y):x=y:=by have:=congrArg (List.map tS) h;simpa[cpsL,dA,t_,sN]using this
theorem sorted_genK{v:ai}{Q:ai->am->Prop}(hu:A.units+32<cLine)(O:ar (au P w) A.in1 (collect v) (λa c=>∃(κ:KeyKind) (kz:gI),(∀v∈a,∃k,κ.keyOf v=aa k)/\a.length<=1000000 /\ (∀(D:aT) (f:aB),D.units+8<cLine->(∀b o,c.heap.get? b=aa o->f.get? b=aa o)->2<=a.length->ig κ kz P w D {c with heap:=f}/\∀{E:ai->am->Prop}{Q:gI->am->Prop},Q kz {c with heap:=f}->ar (au P w) D (keyKind' a.toArray) Q E {c with heap:=f}) /\ ∀(f:aB) (out:Array ai) (e:Nat),(∀b o,c.heap.get? b=aa o->f.get? b=aa o) -> f.get? c.heap.objs.size=aa (io "list" out e)->out.toList.Perm a->out.toList.Pairwise (λx y=>∀p q,κ.keyOf x=aa p->κ.keyOf y=aa q->κ.blt q p=aj)->Q (.ref c.heap.objs.size) {c with heap:=f}) E s):ar (au P w) A (call (.builtin "sorted") [v]) Q E s:=by
 refine Calls.call_function_entry kind_sorted plain_sorted entry_sorted (args_sorted1 _) ?_;unfold Builtin.«sorted»;refine aq (m:=checkCount "sorted" 1 1 _) (aD ?_);refine aq (aW O λa c ζ=>?_);obtain⟨κ,kz,S,I,n,C⟩:=ζ;refine aq (wpAny_newList ?_);have r:(c.heap.push (io "list" a.toArray 0)).get? c.heap.objs.size=aa (io "list" a.toArray 0):=cz _ rfl;refine aq (jW (mQ slot_list_sort ⟨_,r,rfl⟩ entry_list_sort (Fe (κ:=κ) (kz:=kz) r (λp g=>?_) I (λf k T=>n _ f (by simp;lia) (λb o e=>k b o (cZ (bC e)) (bw _ e)) T) λd g M=>⟨_,rfl,?_⟩) (args_list_sort _)))
 .have:p.1∈a:=by
   have H:p∈(a.toArray.zip a.toArray).toList:=g;rw[Array.toList_zip]at H;exact vU H |>.1
  exact S _ this
 .obtain⟨e,N⟩:=sortedHeap_at (out:=(arrOf d).map (·.2)) r;have l:(arrOf d).toList.Perm (a.zip a):=by
   have:=Dv.mp g;have e0:(lu a).toList=a.zip a:=by show(a.toArray.zip a.toArray).toList=_;rw[Array.toList_zip]
   rwa[e0]at this
  have same:∀p∈(arrOf d).toList,p.1=p.2:=λp g=>by have:=l.mem_iff.mp g;rw[<-List.map_id a,List.zip_map']at this;obtain⟨x,_,rfl⟩:=b8.mp this;rfl
  have Z:((arrOf d).map (·.2)).toList.Perm a:=by rw[Array.toList_map];have:=l.map (·.2);rwa[JV (aZ _)]at this
  refine aD ⟨_,rfl,C _ _ e (λb o G=>?_) N Z ?_⟩
  .have n:b<c.heap.objs.size:=bC G;rw[sortedHeap_old (cZ n) (by rw[jZ];exact ku n)];exact bw _ G
  .rw[Array.toList_map];refine tR.mpr (t8.mpr λi j F z bK p q L K=>?_);have J:j<(lu a).size:=by rw[<-g.size_eq];simpa using z
   have B:i<(arrOf d).size:=by simpa using F
   have u:j<(arrOf d).size:=by simpa using z
   have h:=M i j (li bK) J;rw[s_ B,s_ u]at h;have Y:=same _ (v6 F);have f2:=same _ (v6 z);have X:kO κ (arrOf d)[i]=p:=by
    unfold kO;have:(arrOf d)[i].1=(arrOf d).toList[i].2:=by rw[<-Y];simp
    rw[this,L];rfl
   have W:kO κ (arrOf d)[j]=q:=by
    unfold kO;have:(arrOf d)[j].1=(arrOf d).toList[j].2:=by rw[<-f2];simp
    rw[this,K];rfl
   rw[X,W]at h;exact h
end
end L2
namespace Pu
open L2
def Hv{f:Type}(b:List Nat)(d:ac f)(x y:PV):ac f:=λa=>(aM (eP a b) a).bind λc _=>(aM (if(cG c).Nodup then eI a (.inl x::.inl y::c)else ae) a).bind λg _=>fA a (.inl x::.inl y::c) (d g)
def A5(a:List Nat)(dt:ac Bool)(de:ac PV):List (PV×PV)->List PV->ak->R (List PV)
 |[],c,f=>.ok c f
 |x::xs,c,f=>(cg (Hv a dt x.1 x.2 f)).bind λk b=>match k with
  |true=>(cg (Hv a de x.1 x.2 b)).bind λy d=>A5 a dt de xs (c++[y]) d
  |false=>A5 a dt de xs c b
def QB(c:List Nat)(g:ac (List (PV×PV)))(dt:ac Bool)(de:ac PV):ac PO:=λd=>(g d).bind λxs b=>(A5 c dt de xs [] b).bind λf a=>.ok (.lst f) a
section
variable{X:Cx}{E:XK}{a:d9}{x y:Str}{c:List Str}{b:List Nat}
def Fm{g d:Type}(f:Nat->d):Nat->List g->List (d×g)
 |_,[]=>[]
 |n,x::xs=>(f n,x)::Fm f (n+1) xs
def Rt(xs:List PV):List (PV×PV):=Fm (λi=>PV.int (i:Nat)) 0 xs
end
section
variable{X:Cx}{E:XK}
def OU(c:ac (List PV)):ac (List (PV×PV)):=λb=>(c b).bind λx a=>match x with
 |[.tup xs]=>.ok (Rt xs) a
 |_=>.no
end
abbrev gb:=List aE
def se(a:List (gb×PV))(k:gb)(v:PV):List (gb×PV):=if(a.any λb=>decide (b.1=k))=ah then a.map (λb=>if b.1=k then(b.1,v)else b)else a++[(k,v)]
def xE:List PV->Option gb
 |[]=>aa []
 |x::xs=>(iD x).bind λk=>(xE xs).map (k::·)
def vE:PV->Option gb
 |.tup xs=>xE xs
 |_=>ae
section
variable{K:ay}{F:af->Prop}{S:Nat->af->Prop}{ε:ak}{f:St}{H:Hp}{i:Nat}{c:List (gb×PV)}{d:List (gb×V)}{a:af}
theorem Gv:∀{xs:List PV}{b:List V}{k:gb},Reps K H F xs b->xE xs=aa k->b=k.map kV
 |[],b,k,r,e=>by cases r;cases e;rfl
 |x::xs,b,k,⟨v,r,j,h,g⟩,e=>by simp only[xE,pK,mU]at e;obtain⟨n,m,ks,l,rfl⟩:=e;rw[j,ti h m,Gv g l];rfl
theorem K5{x:PV}{v:V}{k:gb}(r:aY K H F x v)(e:vE x=aa k):∃b,v=.ref b/\H b=aa (.tup (k.map kV)):=by
 cases x <;> simp[vE]at e;obtain⟨b,j,rfl,h,g⟩:=r;exact⟨b,rfl,by rw[h,Gv g e]⟩
theorem jU.len(h:jU K H F c d):d.length=c.length:=by
 unfold jU at h
 induction h with
 |nil=>rfl
 |cons _ _ b=>simp[b]
theorem jU.any(h:jU K H F c d)(k:gb):(c.any λb=>decide (b.1=k))=d.any λb=>decide (b.1=k):=by
 unfold jU at h
 induction h with
 |nil=>rfl
 |cons r _ g=>rw[og,og,g,r.1]
theorem jU.put(h:jU K H F c d)(k:gb){x:PV}{v:V}(r:aY K H F x v):jU K H F (se c k x) (fX d k v):=by
 unfold se fX;rw[h.any k];split
 .rename_i b;clear b;unfold jU at h ⊢
  induction h with
  |nil=>exact .nil
  |@cons p q ps qs r1 _ ih=>
   refine .cons ?_ ih;dsimp only;by_cases e:p.1=k
   .rw[if_pos e,if_pos (by rw[<-r1.1];exact e)];exact⟨r1.1,r⟩
   .rw[if_neg e,if_neg (by rw[<-r1.1];exact e)];exact r1
 .exact CT h ⟨rfl,r⟩
theorem aS.dtAt(r:aS K F S ε f H)(e:ε[i]?=aa (.own (.dT c))):∃a d,f[i]?=aa (aa (.ref a))/\H a=aa (.dT d)/\jU K H F c d/\S i a/\∀b,S i b->b=a:=by obtain⟨a,n,⟨j,m,l⟩,g⟩:=r.own i _ e;exact⟨a,j,n,m,l,(g a).mpr rfl,λb h=>(g b).mp h⟩
end
def nz(b:ak)(i:Nat):Option (List (gb×PV)):=match b[i]? with
 |some (.own (.dT a))=>aa a
 |_=>ae
theorem x_{b:ak}{i:Nat}{a:List (gb×PV)}(h:nz b i=aa a):b[i]?=aa (.own (.dT a)):=by
 unfold nz at h;split at h
 .cases h;assumption
 .cases h
section
variable{X:Cx}{E:XK}{pin:List Nat}{e b c:aC}{de f g:ac PV}{d:Pos}
def xT(i:Nat)(f de:ac PV):ac aK:=λl=>(de l).bind λy h=>(aM (nz h i) h).bind λ_ h=>(f h).bind λk a=>(aM (nz a i) a).bind λj a=>(aM (vE k) a).bind λk a=>if j.length<bj then .ok .next (a.set i (.own (.dT (se j k y))))else .no
theorem UF(i:Nat){y:Str}{I l:Pos}(hu:X.A.units+64<cLine)(hb:DE X E b f)(he:DE X E e de)(hN:X.N[i]?=aa y:=by rfl)(fq:fh X.env.scope y:=by first|exact Or.inl rfl|exact Or.inr (Or.inl rfl)|exact Or.inr (Or.inr rfl))(hd:ad y:=by decide) (bA:(y==("__classdict__":Str))=aj:=by decide) (hs:lj e (aa (.Subscript (.Name y I) b l)) d.line X.env=pure aj:=by rfl):DS X E pin (.Assign [.Subscript (.Name y I) b l] e d) (xT i f de):=λF S M p H D T h=>by
 refine iM (Fd ∅ (gC hN fq hd bA) bQ bQ hs) (he F S M p H _ T (h.bindE.imp λy m F1 S1 H1 s g1 q v P=>?_));cases G:nz m i with
 |none=>rw[G]at q;exact q.elim
 |some K=>
  rw[G]at q;simp only[cJ,R.bind_ok]at q;obtain⟨a,N,B,ha0,_⟩:=s.dtAt (x_ G);refine⟨.ref a,B,hb F1 S1 m p H1 _ s (q.bindE.imp λk r F2 S2 H2 J g2 j u Q=>?_)⟩;cases o:nz r i with
  |none=>rw[o]at j;exact j.elim
  |some x=>
   rw[o]at j;simp only[cJ,R.bind_ok]at j;obtain⟨a',O,n,ha,L,_⟩:=J.dtAt (x_ o);rw[B]at n;cases n;cases C:vE k with
   |none=>rw[C]at j;exact j.elim
   |some w=>
    rw[C]at j;simp only[cJ,R.bind_ok]at j;split at j
    .rename_i hl;obtain⟨bb,rfl,W⟩:=K5 Q C;have gu:=L.put w (P.grow g2 s.fit);obtain⟨Y,g3⟩:=J.updO (po':=.dT (se x w y)) (o':=.dT (fX O w v)) (x_ o) rfl B trivial λH' Z m2 A Sa z=>⟨⟨_,A,gu.mono Z⟩,z⟩
     exact⟨a,_,rfl,zo.t ha W (by rw[L.len];exact gE hl mz),j F2 S2 p _ Y g3 (jn.refl _ _)⟩
    .exact j.elim
def BZ:ac PO:=λa=>.ok (.dT []) a
theorem Np:DN X E (.Dict [] [] d) BZ:=λF S m l H Q i h=>b9 TF λp a=>by
 have al:Al F F H (upd H p (.dT [])):=Al.new0 a;refine h F S _ (i.al al) al.grow p (λb=>b=p) ⟨⟨[],upd_same,.nil⟩,λb=>ou⟩ λb z=>?_;subst z;refine⟨a,λz=>?_,λ⟨j,z⟩=>?_,_,upd_same,trivial⟩
 .obtain⟨o,q⟩:=i.ex b z;rw[a]at q;cases q
 .obtain⟨_,_,o,q,_⟩:=i.foot j b z;rw[a]at q;cases q
end
end Pu
namespace L2
def lB(h:aB)(d:af)(a:Array tO)(b:Nat):Prop:=∃o,h.get? d=aa o/\o.ExactDict/\o.data=.dict a b
section
variable{P:aN}{w:aG}{A:aT}{E:ai->am->Prop}{s:am}{d it:af}{es:Array tO}{ep i:Nat}
theorem lB.ty(r:lB s.heap d es ep):s.TypeIs (.ref d) "dict":=let ⟨o,ho,hc,_⟩:=r;⟨o,ho,hc.1⟩
theorem lB.at{h h':aB}(r:lB h d es ep)(k:∀o,h.get? d=aa o->h'.get? d=aa o):lB h' d es ep:=let ⟨o,ho,z⟩:=r;⟨o,k o ho,z⟩
theorem lB.lt{h:aB}(r:lB h d es ep):d<h.objs.size:=let ⟨o,ho,_⟩:=r;bC ho
theorem Oo{Q:ai->am->Prop}(f:(d == jf)=aj)(r:lB s.heap d es ep)(q:Q (.ref s.heap.objs.size) {s with heap:=s.heap.push {cls:=.type "dict_keyiterator",data:=.fields #[.ref d,.int 0 0,.int es.size 0,.int ep 0]}}):ar (au P w) A (n8 (.ref d)) Q E s:=by have a:=r.ty;obtain⟨o,c,g,b⟩:=id r;refine JF a F.slot_dict_iter (mQ F.slot_dict_iter a F.entry_dict_iter ?_ (F.args_dict_iter_1 _));unfold Builtin.«dict.__iter__» Builtin.Dict.dictSlotNone;refine aq (aq (wpAny_notOrdered_dict a ?_));refine aD (show ar _ _ (Builtin.Dict.showsAll d >>= _) _ _ s from ?_);unfold Builtin.Dict.showsAll;rw[if_neg (by rw[f];exact eX)];refine aq (aD (aq (JW c b (aq (wpAny_dictEpoch c b ?_)))));refine aq (lq (aD ⟨_,rfl,"dict_keyiterator",_,⟨_,cz _ rfl,rfl⟩,F.slot_dict_keyiterator_next.lookup,?_⟩));simpa[dY]using q
theorem KO{Q:Option ai->am->Prop}(a:s.heap.IsKeyIter it d i es.size ep)(r:lB s.heap d es ep)(m:i<es.size)(q:∀g,g.IsKeyIter it d (i+1) es.size ep->ko it s.heap g->Q (aa es[i].key) {s with heap:=g}):ar (au P w) A (mK (.ref it)) Q E s:=by
 obtain⟨n,c,f,b⟩:=id a;obtain⟨o,h,p,l⟩:=id r;unfold mK;refine aq (Dc (zu (name:=vW "__next__") a.typeIs DM (mQ DM a.typeIs U0 ?_ (U1 _))));refine aq (aD (aq (aq ?_)))
 first|refine aq (DQ a.typeIs (aD ?_))|refine aq (DU a.typeIs (aD ?_))
 refine aq (wpAny_fieldsOf c b ?_);simp only[show Builtin.Dict_items.ownsTuple "dict_keyiterator"=aj by decide,fo,if_false];show ar _ _ (if(Value.ref d == Value.none)=ah then _ else _) _ _ s;rw[if_neg (show ¬((Value.ref d == Value.none)=ah)from eX)];refine aq (aD (aq (JW h l ?_)));rw[if_neg (by simp)];refine aq (aD (aq (wpAny_dictEpoch h l ?_)));rw[if_neg (by simp)];refine aD ?_;simp only[show ¬((i:Int)<0)from by lia,if_false,lS,jj m];refine aq ?_
 first|refine aq (DQ a.typeIs (aD ?_))|refine aq (DU a.typeIs (aD ?_))
 refine aq (wpAny_isOneOf_keyiter a.typeIs ?_);refine show ar _ _ (lV (.ref it) 1 (dY ((i:Int)+1)) >>= _) _ _ s from aq (pF c b (by simp) ?_)
 have j:(s.heap.update it (lY (·.setIfInBounds 1 (dY ((i:Int)+1))))).IsKeyIter it d (i+1) es.size ep :=⟨_,pC _ c (zL (rn b _)),(Obj.cls_mapFields ..).trans f,by rw[rn b];simp[dY]⟩
 refine aq (jW (aq (wpAny_isOneOf_keyiter (s:={s with heap:=s.heap.update it (lY (·.setIfInBounds 1 (dY ((i:Int)+1))))}) j.typeIs ?_)));exact show ar _ _ (pure es[i].key) _ _ _ from aD (aD ⟨_,rfl,aD (q _ j (pD ..))⟩)
theorem T6{Q:Option ai->am->Prop}(o:A.handled=ae)(c:s.heap.IsKeyIter it d i es.size ep)(r:lB s.heap d es ep)(n:es.size<=i)(q:∀l,Heap.ExtBut it s.heap l->Q ae {s with heap:=l}):ar (au P w) A (mK (.ref it)) Q E s:=by
 obtain⟨u,g,p,h⟩:=id c;obtain⟨v,f,x,j⟩:=id r;unfold mK;refine aq (Dc (zu (name:=vW "__next__") c.typeIs DM (mQ DM c.typeIs U0 ?_ (U1 _))));refine aq (aD (aq (aq ?_)))
 first|refine aq (DQ c.typeIs (aD ?_))|refine aq (DU c.typeIs (aD ?_))
 refine aq (wpAny_fieldsOf g h ?_);simp only[show Builtin.Dict_items.ownsTuple "dict_keyiterator"=aj by decide,fo,if_false];show ar _ _ (if(Value.ref d == Value.none)=ah then _ else _) _ _ s;rw[if_neg (show ¬((Value.ref d == Value.none)=ah)from eX)];refine aq (aD (aq (JW f j ?_)));rw[if_neg (by simp)];refine aq (aD (aq (wpAny_dictEpoch f j ?_)));rw[if_neg (by simp)];refine aD ?_;simp only[show ¬((i:Int)<0)from by lia,if_false,lS,Array.getElem?_eq_none n];refine aq ?_
 first|refine aq (DQ c.typeIs (aD ?_))|refine aq (DU c.typeIs (aD ?_))
 refine show ar _ _ (lV (.ref it) 0 .none >>= _) _ _ s from aq (pF g h (by simp) ?_)
 refine show ar _ _ (newExc (.type "StopIteration") [] >>= _) _ _ _ from aq ?_
 simp only[newExc,newTuple];refine aq (lq ?_ (by size_fits));refine aq (m:=Dd _ _) (rm (a:=Value.none) (by first|rfl | (simp only[Dd];rfl)) ?_);refine lq ?_ (by size_fits);simp only[raiseNew];refine aq (wpAny_handled ?_);rw[show A.in1.handled=ae from o];refine aq (aD (wpAny_throw ?_));refine aq (De (T:="StopIteration") (b:=ah) ⟨_,cz _ rfl,rfl⟩ isSubtype_stop ?_);exact aD (q _ (((pD ..).extBut.push _).push _))
theorem NJ(q:A.handled=ae)(I d:af)(r:d≠I)(es:Array tO)(ep:Nat):Walks P w A I [I,d] [I] es.size (λi v=>∃e,es[i]?=aa e/\v=e.key) (λi h=>h.IsKeyIter I d i es.size ep/\lB h d es ep) where
 sub:=λb c=>by simp at c;simp[c]
 frame:=λ_ _ _ a m=>⟨a.1.at λo e=>m I (by simp) o e,a.2.at λo e=>m d (by simp) o e⟩
 item:=λi s Q E n a g=>KO a.1 a.2 n λj f l=>g _ j s.toks ⟨es[i],by simp[n],rfl⟩ ⟨f,a.2.at λo e=>by rw[l.2 d r];exact e⟩ λb o c e=>l.extBut b o (λh=>c (by simp[h])) e
 done:=λs Q E a g=>T6 q a.1 a.2 (aZ _) λj p=>g j s.toks λb o c e=>p b o (λh=>c (by simp[h])) e
 self:=λ_ _ _ _ a g=>wpAny_pyIter_keyiter a.1 g
theorem QZ(c:(d == jf)=aj):PySem.W.KdlSrc P w "dict" d d es.size (λi v=>∃e,es[i]?=aa e/\v=e.key) (λh=>lB h d es ep) where
 type:=λ_ a=>a.ty
 there:=λ_ a=>⟨a.lt,a.lt⟩
 keep:=λ_ _ a f=>a.at λo e=>f d (.inl rfl) o e
 notList:=by decide
 notTuple:=by decide
 hint:=λ_ _ _ _ a b=>PySem.W.kdl_hint_dict a.ty b
 iter:=λ_ _ g a=>⟨_,_,(λ_ _ b=>Oo c a b),NJ g _ d (cZ a.lt) es ep,⟨⟨_,cz _ rfl,rfl,rfl⟩,a.at λo e=>bw _ e⟩⟩
end
section
variable{X:Cx}{f:List (af×Obj)}{d:St}{H:Hp}{s:am}{a:af}{c:List (List aE×V)}
theorem QJ{P:aN}{w:aG}{h:aB}{o:Obj}(z:h.get? a=aa o)(k:bR P w H h a (.dT c)):(a == jf)=aj/\∃j,lB h a j (ny o)/\j.size=c.length/\(c.map (·.1)).Nodup /\
  ∀(i:Nat) (e:tO),j[i]?=aa e->∃p b,c[i]?=aa p/\e.key=.ref b/\H b=aa (.tup (p.1.map kV)):=by
 obtain⟨u,F,xs,g,L,j,J,E,v,D,y,A⟩:=k;rw[z]at E;cases E;have K:ny o=J:=by unfold ny;rw[D]
 have B:=CF g;refine⟨F,j,⟨o,z,v,by rw[K];exact D⟩,by rw[<-fL,y,cN];exact B.symm,?_,λi e C=>?_⟩
 .have:c.map (·.1)=xs.map (·.1):=by
   clear y A B u
   induction g with
   |nil=>rfl
   |cons r _ n=>simp[n,r.1]
  rw[this];exact A
 .rw[<-pH,y,gZ]at C;obtain⟨x,v,rfl⟩:=mU.mp C;have:∀{l:List (List aE×V)}{m:List (List aE×af×ai)} (i:Nat) (x:List aE×af×ai),km (λ(p:List aE×V) (q:List aE×af×ai)=>p.1=q.1/\H q.2.1=aa (.tup (p.1.map kV))/\RelV p.2 q.2.2) l m->m[i]?=aa x->∃p,l[i]?=aa p/\H x.2.1=aa (.tup (p.1.map kV)):=by
   intro l m i x r
   induction r generalizing i with
   |nil=>intro e;simp at e
   |cons r _ n=>
    intro e;cases i with
    |zero=>simp at e;subst e;exact⟨_,rfl,r.2.1⟩
    |succ i=>exact n i (~~~e)
  obtain⟨p,G,I⟩:=this i x g v;exact⟨p,x.2.1,G,rfl,I⟩
theorem Inv.freezeT(I:Inv X f d H s)(e:H a=aa (.dT c)):∃o,s.heap.get? a=aa o/\Inv X f d (upd H a (.frz o (.dT c))) s:=by
 have k:bR X.prog X.w H s.heap a (.dT c):=I.hok a _ e;obtain⟨z,h,xs,b,o,es,ep,g,r⟩:=id k;refine⟨o,g,I.recast e (λ_ q=>by cases q) (λo u q=>?_) (λ_ q=>by cases q) (λ_ q=>by cases q) ⟨g,z,h,xs,Paired.mapP b λp q z=>⟨z.1,?_,z.2.2⟩,o,es,ep,g,r⟩⟩
 .have:=I.base.frzs a o u q;rw[e]at this;cases this
 .rw[bh (EH z.2.1 e (λz=>nomatch z))];exact z.2.1
end
def kl(o:Obj):List af:=match o.data with
 |.dict es _=>es.toList.map λe=>match e.key with
  |.ref b=>b
  |_=>0
 |_=>[]
def KP(H:Hp)(a:List (List aE×V))(bs:List af):Prop:=bs.length=a.length/\∀(i:Nat) (b:af),bs[i]?=aa b->∃p,a[i]?=aa p/\H b=aa (.tup (p.1.map kV))
theorem Nv{P:aN}{w:aG}{H:Hp}{h:aB}{a:af}{o:Obj}{d:List (List aE×V)}(q:h.get? a=aa o)(k:bR P w H h a (.dT d)):(a == jf)=aj/\∃es,lB h a es (ny o)/\es.size=d.length/\(d.map (·.1)).Nodup/\KP H d (kl o)/\∀(i:Nat) (e:tO),es[i]?=aa e->∃b,(kl o)[i]?=aa b/\e.key=.ref b:=by
 obtain⟨A,es,rd,n,z,m⟩:=QJ q k;have j:kl o=es.toList.map λe=>match e.key with
  |.ref b=>b
  |_=>0:=by
  obtain⟨C,y,_,B⟩:=rd;rw[q]at y;cases y;unfold kl;rw[B]
 have l:∀(i:Nat) (e:tO),es[i]?=aa e->∃b,(kl o)[i]?=aa b/\e.key=.ref b:=λi e f=>by obtain⟨p,b,x,g,v⟩:=m i e f;refine⟨b,?_,g⟩;rw[j,gZ,pH,f,pG,g]
 refine⟨A,es,rd,n,z,⟨by rw[j,cN,fL];exact n,λi b r=>?_⟩,l⟩;have f:i<es.size:=by have:=(c_.mp r).1;rw[j,cN,fL]at this;exact this
 obtain⟨p,c,x,g,v⟩:=m i es[i] (by simp[f]);obtain⟨D,u,s⟩:=l i es[i] (by simp[f]);rw[r]at u;cases u;rw[g]at s;cases s;exact⟨p,x,v⟩
open Mx
section
variable{P:aN}{w:aG}{A:aT}{E:ai->am->Prop}{s:am}
def FtIs(h:aB)(c:List Str)(v:ai):Prop:=c≠[]/\∃(a:af) (b:Array ai),v=.ref a/\IsTup h a b/\c8 b.toList c
theorem FtIs.inj{h:aB}{k b:List Str}{v:ai}(x:FtIs h k v)(y:FtIs h b v):k=b:=by
 obtain⟨_,a,d,rfl,g,f⟩:=x;obtain⟨_,l,c,e,i,j⟩:=y;cases e;obtain rfl:=tup_uniq g i;exact strs_uniq f j
theorem FtIs.keep{h c:aB}{k:List Str}{v:ai}(x:FtIs h k v)(g:∀b o,h.get? b=aa o->c.get? b=aa o):FtIs c k v:=by obtain⟨n,a,its,rfl,f,d⟩:=x;exact⟨n,a,its,rfl,tup_kept f λb o e _=>g b o e,d⟩
def ftKey(h:aB):KeyKind where
 toKeyOrd:=ordL
 keyOf:=λv=>open Classical in if z:∃a,FtIs h a v then aa (cpsL z.choose)else ae
 dflt:=([]:List Tx)
theorem ftKey_of{h:aB}{a:List Str}{v:ai}(x:FtIs h a v):(ftKey h).keyOf v=aa (cpsL a):=by
 have z:∃a,FtIs h a v:=⟨a,x⟩
 show(open Classical in if z:∃a,FtIs h a v then aa (cpsL z.choose)else ae)=_;rw[dif_pos z,z.choose_spec.inj x]
theorem ftKey_some{h:aB}{k:List Tx}{v:ai}(x:(ftKey h).keyOf v=aa k):∃a,FtIs h a v/\cpsL a=k:=by
 by_cases z:∃a,FtIs h a v
 .obtain⟨a,z⟩:=z;rw[ftKey_of z]at x;exact⟨a,z,dO x⟩
 .have:(ftKey h).keyOf v=ae:=dif_neg z;rw[this]at x;cases x
theorem lex_strs{b:Bool}{Q:Bool->am->Prop}{m g:List ai}{j f:List Str}(i:Nat){d:Bool}(q:c8 m j)(o:c8 g f)(l:d=decide (j.length<f.length))(h:Q (ltL (cpsL j) (cpsL f)) s):PySem.W.KatLex P w A b d Q (m.zip g) i s:=by
 induction q generalizing g f i d with
 |nil=>
  rw[List.zip_nil_left];refine PySem.W.kat_nil ?_;rw[l];refine cast (congrArg (λz=>Q z s) ?_) h;cases o with
  |nil=>exact(decide_eq_false (by simp[cpsL])).trans (decide_eq_false (by simp)).symm
  |cons c u n=>exact(decide_eq_true (by simp[cpsL])).trans (decide_eq_true (by simp)).symm
 |cons a t r p=>
  cases o with
  |nil=>rw[List.zip_nil_right];refine PySem.W.kat_nil ?_;rw[l];refine cast (congrArg (λz=>Q z s) ?_) h;exact(decide_eq_false (by simp[cpsL])).trans (decide_eq_false (by simp)).symm
  |cons c u n=>
   rw[zV];refine JX (Jq a t c u _ _ _ _ ?_);have h:=ltL_cons .. ▸ h;by_cases e:a=c
   .subst e;rw[if_pos rfl]at h;rw[beq_self_eq_true];exact PySem.W.kat_yes (p (i+1) n (by rw[l];simp) h)
   .rw[if_neg (λz=>e (cps_inj z))]at h;rw[beq_false_of_ne e];refine PySem.W.kat_no ?_;cases (b&&i == 0)with
    |true=>exact oneLt_str h
    |false=>exact PySem.W.kat_one _ _ (JU h)
theorem ftLt{h j:aB}(J:A.units+8<cLine)(k:∀b o,h.get? b=aa o->j.get? b=aa o):ig (ftKey h) (tuples' ah) P w A {s with heap:=j}:=λE x y a b Q B z r=>by obtain⟨G,q,rfl⟩:=ftKey_some B;obtain⟨K,p,rfl⟩:=ftKey_some z;obtain⟨_,M,n,rfl,C,i⟩:=q.keep k;obtain⟨_,L,g,rfl,F,c⟩:=p.keep k;obtain⟨o,u,_,m,v⟩:=C;obtain⟨H,D,_,I,l⟩:=F;refine PySem.W.kat_lt u v D l (lex_strs 0 i c ?_ r);have f:=strs_len i;have d:=strs_len c;rw[fL]at f d;rw[f,d]
theorem ft_kind{b:List ai}{Q:gI->am->Prop}(c:∀v∈b,∃d,FtIs s.heap d v)(I:2<=b.length)(h:Q (tuples' ah) s):ar (au P w) A (keyKind' b.toArray) Q E s:=by
 have i:∀(b:List ai),(∀v∈b,∃d,FtIs s.heap d v)->∃fs,U2 s.heap b fs/\fs.length=b.length/\∀f∈fs,∃z t,f=Value.str z t:=by
  intro b
  induction b with
  |nil=>intro _;exact⟨[],PySem.W.KatTups.nil,rfl,λf g=>by simp at g⟩
  |cons v b x=>
   intro c;obtain⟨fs,p,r,n⟩:=x λu y=>c u (eJ _ y);obtain⟨d,G,a,j,rfl,⟨o,B,F,m,D⟩,q⟩:=c v fK;cases d with
   |nil=>exact absurd rfl G
   |cons z H=>
    generalize C:j.toList=l at q;cases q with
    |cons _ t q=>
     refine⟨.str z t::fs,PySem.W.KatTups.cons B F D (by rw[<-pH,C];rfl) p,by simp[r],λf g=>?_⟩;rcases bn.mp g with rfl|g
     .exact⟨z,t,rfl⟩
     .exact n f g
 obtain⟨fs,p,r,n⟩:=i b c;refine PySem.W.kat_kind (T:=.type "str") p ∅ (λv c=>?_) (by decide) ?_
 .obtain⟨z,t,rfl⟩:=n v c;exact .now
 .have:(Value.type "str" != Value.type "tuple")=ah:=by decide
  rw[this];exact h
end
end L2
namespace Pu
open L2
section
variable{K:ay}{F:af->Prop}{H:Hp}
theorem jU.keys{a:List (gb×PV)}{b:List (gb×V)}(h:jU K H F a b):b.map (·.1)=a.map (·.1):=by
 unfold jU at h
 induction h with
 |nil=>rfl
 |cons r _ c=>rw[cn,cn,c,r.1]
end
end Pu
namespace L2
open Mx
def je(a b:List Tx):Bool:=!ltL b a
def lI(ks:List (List Tx)):List (List Tx):=ks.mergeSort je
theorem Ul(a b:List Tx):(je a b||je b a)=ah:=by
 unfold je;cases h:ltL b a with
 |false=>rfl
 |true=>
  have:ltL a b=aj:=by
   cases c:ltL a b with
   |false=>rfl
   |true=>exact absurd (ordL.trans _ _ _ h c) (by have:ltL b b=aj:=ordL.irrefl _;show ¬ltL b b=ah;rw[this];decide)
  rw[this];rfl
theorem L_(a b c:List Tx)(f:je a b=ah)(d:je b c=ah):je a c=ah:=by unfold je at *;have:ltL c a=aj:=ro (O:=ordL) (a:=a) (b:=b) (c:=c) (show ltL b a=aj by simpa using f) (show ltL c b=aj by simpa using d);rw[this];rfl
theorem Ta(a b:List Tx)(d:je a b=ah)(c:je b a=ah):a=b:=by unfold je at *;exact ordL.total a b (show ltL a b=aj by simpa using c) (show ltL b a=aj by simpa using d)
theorem Hi(ks:List (List Tx)):(lI ks).Perm ks:=zD ks je
theorem Uk(ks:List (List Tx)):(lI ks).Pairwise (λa b=>je a b=ah):=Jy L_ Ul ks
theorem Rw{ks c:List (List Tx)}(f:c.Perm ks)(d:c.Pairwise (λx y=>je x y=ah)):c=lI ks :=Jz (le:=λa b=>je a b=ah) (λa b _ _=>Ta a b) d (Uk ks) (f.trans (Hi ks).symm)
def iB(k:List Tx):List aE:=k.map λx=>Sum.inr (tS x)
theorem LJ(k:List Tx):(iB k).map kV=cR k:=by simp[iB,cR,kV,tV]
section
variable{X:Cx}
theorem Rv{P:aN}{w:aG}{H:Hp}{h:aB}{k:List Tx}{a:af}(ok:df P w H h)(e:H a=aa (.tup (cR k)))(c:k≠[]):FtIs h (k.map tS) (.ref a):=by
 obtain⟨_,b,r,p,_⟩:=(show bR P w H h a (.tup (cR k))from ok a _ e)
 exact⟨λz=>c (~~~z),a,b.toArray,rfl,p,by have:=uB r;rw[v4];exact this⟩
theorem L8(hu:X.A.units+64<cLine)(hc:X.calm=ah):d4 X (.builtin "sorted") (λxs H Q=>∃(d:af) (a:List (List aE×V)) (ks:List (List Tx)),xs=[.ref d]/\H d=aa (.dT a)/\a.map (·.1)=ks.map iB/\(∀k∈ks,k≠[])/\ks.length<=1000000 /\ ∀l (S:List (List Tx×af)),H l=ae->(∀q∈S,H q.2=aa (.tup (cR q.1)))->S.map (·.1)=lI ks->Q (.ref l) (upd H l (.lst (S.map λq=>.ref q.2)))):=by
 intro ag s σ H xs us Q I r h;obtain⟨d,a,ks,rfl,hd,hk,cH,Y,q⟩:=h;obtain⟨u,rfl,ru⟩:=vals1 r;cases ru;obtain⟨o,ho,_⟩:=I.freezeT hd;obtain⟨hs,es,rd,W,nd,B,ul⟩:=Nv ho (show bR X.prog X.w H s.heap d (.dT a)from I.hok d _ hd);have A:a.length=ks.length:=by have:=congrArg ln hk;simpa using this
 have D:∀x∈ks.zip (kl o),H x.2=aa (.tup (cR x.1)):=λx c=>by
  obtain⟨n,F⟩:=List.getElem?_of_mem c;rw[zI]at F;obtain⟨p,h1,f⟩:=B.2 n _ F.2;have M:(a.map (·.1))[n]?=aa p.1:=by rw[gZ,h1];rfl
  rw[hk,gZ,F.1,pG]at M;rw[f,<-dO M,LJ]
 refine sorted_genK ∅ (PySem.W.kdu_collect (QZ (P:=X.prog) (w:=X.w) (es:=es) (ep:=ny o) hs) (uC (I.ok.hd hc)) rd (by rw[W,A];exact li (sI Y)) λm J O k L=>?_);have I1:Inv X ag σ H {s with heap:=m,toks:=J}:=I.kept (t':=J) k;have kF:O.toList=(ks.zip (kl o)).map λx=>Value.ref x.2:=by
  have G:(ks.zip (kl o)).map (λx=>Value.ref x.2)=(kl o).map Value.ref:=by rw[<-JV (l₁:=ks) (l₂:=kl o) (by rw[B.1,A];exact aZ _),dA];simp[JV,B.1,A]
  rw[G];apply pI;intro n;by_cases F:n<es.size
  .have uo:n<O.size:=by rw[L.1];exact F
   obtain⟨e,h1,f⟩:=L.2 n O[n] (by rw[jj]);obtain⟨b,M,h4⟩:=ul n e h1;rw[gZ,M,pH,jj uo,f,h4];rfl
  .rw[lX (by rw[fL,L.1];lia),lX (by rw[cN,B.1,<-W];lia)]
 have g:∀(f:aB),(∀b o,m.get? b=aa o->f.get? b=aa o)->∀x∈ks.zip (kl o),FtIs f (x.1.map tS) (.ref x.2):=λf i x c=>(Rv I1.hok (D x c) (cH _ (vU c).1)).keep i;have mem:∀v∈O.toList,∃x∈ks.zip (kl o),v=.ref x.2:=λv j=>by rw[kF]at j;obtain⟨x,c,rfl⟩:=b8.mp j;exact⟨x,c,rfl⟩
 refine⟨ftKey m,tuples' ah,λv j=>?_,by rw[fL,L.1,W,A];exact Y,λA' f hA i g_=>⟨ftLt hA i,λ{E Q} qq=>ft_kind (s:={s with heap:=f,toks:=J}) (λv j=>?_) g_ qq⟩,λf T e i iq b1 b2=>?_⟩
 .obtain⟨x,c,rfl⟩:=mem v j;exact⟨_,ftKey_of (g m (λ_ _ z=>z) x c)⟩
 .obtain⟨x,c,rfl⟩:=mem v j;exact⟨_,g f i x c⟩
 .rw[kF]at b1;obtain⟨C,G,N⟩:=perm_mapE b1;have K:∀q∈C,q∈ks.zip (kl o):=λq Z=>N.mem_iff.mp Z;refine⟨.ref _,_,I1.laid (t':=J) (o:=.lst (C.map λq=>.ref q.2)) i (aZ _) ⟨?_,T.toList,e,?_,by rw[JS];exact iq⟩,rfl,q _ C I1.fresh (λq Z=>D q (K q Z)) ?_⟩
  .rw[cN,N.length_eq,List.length_zip];have:=sI Y;lia
  .rw[G];clear G N K
   induction C with
   |nil=>exact .nil
   |cons q C ih=>exact .cons rfl ih
  .refine Rw ?_ ?_
   .have:=N.map (·.1);rwa[List.map_fst_zip (by rw[B.1,A];exact aZ _)]at this
   .rw[G]at b2;refine tR.mpr ((tR.mp b2).imp_of_mem λ{x y} c hy hh=>?_);have:=hh _ _ (ftKey_of (g m (λ_ _ z=>z) x (K x c))) (ftKey_of (g m (λ_ _ z=>z) y (K y hy)));have:ltL (cpsL (y.1.map tS)) (cpsL (x.1.map tS))=aj:=this;simp only[cpsL,dA,t_,jw,DY]at this;unfold je;rw[this];rfl
end
end L2
namespace Pu
open L2
def p8:gb->Option (List Tx)
 |[]=>aa []
 |.inr z::r=>(p8 r).map (z.cps.toList::·)
 |_=>ae
def qL:List (gb×PV)->Option (List (List Tx))
 |[]=>aa []
 | (k,_)::r=>(p8 k).bind λt=>(qL r).map (t::·)
theorem E_:∀{k:gb}{t:List Tx},p8 k=aa t->k=iB t
 |[],t,h=>by cases h;rfl
 |.inr z::r,t,h=>by simp only[p8,mU]at h;obtain⟨l,a,rfl⟩:=h;rw[E_ a];simp[iB,sN]
 |.inl _::_,_,h=>by cases h
theorem G8:∀{a:List (gb×PV)}{ks:List (List Tx)},qL a=aa ks->a.map (·.1)=ks.map iB
 |[],ks,h=>by cases h;rfl
 | (k,_)::r,ks,h=>by simp only[qL,pK,mU]at h;obtain⟨t,c,d,b,rfl⟩:=h;rw[cn,cn,G8 b,E_ c]
theorem N2(t:List Tx):p8 (iB t)=aa t:=by
 induction t with
 |nil=>rfl
 |cons x t a=>show p8 (Sum.inr (tS x)::iB t)=_;simp[p8,a,jw]
theorem Q4(ks:List (List Tx))(v:PV):qL (ks.map λk=>(iB k,v))=aa ks:=by
 induction ks with
 |nil=>rfl
 |cons k ks a=>simp[qL,a,N2]
def qp(k:List Tx):PV:=.tup (ao k)
def xP(a:List (gb×PV)):Option PO:=(qL a).bind λks=>if ks.length<=1000000/\(∀k∈ks,k≠[]/\∀x∈k,x.length<=bj)then aa (.lst ((lI ks).map qp))else ae
def qG(i:Nat):ac PO:=λa=>(aM (nz a i) a).bind λb a=>aM (xP b) a
theorem T_{X:Cx}{E:XK}(i:Nat){y:Str}{G p r:Pos}(L:X.A.units+64<cLine)(P:X.calm=ah)(M:X.mg "sorted"=ae)(W:X.N[i]?=aa y:=by rfl)(fq:fh X.env.scope y:=by first|exact Or.inl rfl|exact Or.inr (Or.inl rfl)|exact Or.inr (Or.inr rfl))(O:ad y:=by decide) (bA:(y==("__classdict__":Str))=aj:=by decide) (N:Gl X "sorted":=by rfl):DN X E (.Call (.Name "sorted" p) [.Name y G] [] r) (qG i):=λF S D σ H Q g h=>by
 unfold qG at h;cases B:nz D i with
 |none=>rw[B]at h;exact h.elim
 |some s=>
  rw[B]at h;simp only[cJ,R.bind_ok]at h;obtain⟨a,I,ea,T,u,ia,_⟩:=g.dtAt (x_ B);unfold xP at h;cases A:qL s with
  |none=>rw[A]at h;exact h.elim
  |some ks=>
   rw[A,gk]at h;split at h
   .rename_i v;refine b9 (nY (L8 L P) N M u_ (i9 (gC W fq O bA) ka (iy rfl)) (by decide) (by decide) (iy rfl) rfl) ⟨.ref a,ea,a,I,ks,rfl,T,by rw[u.keys];exact G8 A,λk u=>(v.2 k u).1,v.1,λl d n m f=>?_⟩;have al:Al F F H (L2.upd H l (.lst (d.map λq=>.ref q.2))):=Al.new0 n;have reps:∀(d:List (List Tx×af)),(∀q∈d,H q.2=aa (.tup (cR q.1))/\∀x∈q.1,x.length<=bj)->Reps X.K H F ((d.map (·.1)).map qp) (d.map λq=>.ref q.2):=by
     intro d
     induction d with
     |nil=>intro _;rfl
     |cons q d J=>intro m;obtain⟨Z,Y⟩:=m q fK;exact⟨_,_,rfl,⟨q.2,cR q.1,rfl,Z,Vr.mpr ⟨rfl,Y⟩⟩,J λz K=>m z (eJ _ K)⟩
    refine h F S _ (g.al al) al.grow l (λc=>c=l) ⟨⟨_,upd_same,?_⟩,λc=>ou⟩ λb z=>?_
    .rw[<-f];refine al.reps (reps d λq C=>⟨m q C,?_⟩);have:q.1∈lI ks:=by rw[<-f];exact b8.mpr ⟨q,C,rfl⟩
     exact(v.2 _ ((Hi ks).mem_iff.mp this)).2
    .subst z;exact⟨n,λz=>Dx (g.ex _ z) (λo w=>by rw[n]at w;cases w),λ⟨j,z⟩=>Dx (g.foot j b z).2.2 (λo w=>by rw[n]at w;cases w.1),_,upd_same,trivial⟩
   .exact h.elim
end Pu
namespace L2
theorem Qf{P:aN}{w:aG}{A:aT}{E:ai->am->Prop}{s:am}{t b:af}{f:List ai}{Q:ai->am->Prop}(v:IsTup s.heap t #[])(x:IsTup s.heap b f.toArray)(h:Q (.ref b) s):ar (au P w) A (il .Add (.ref t) (.ref b)) Q E s:=by
 obtain⟨⟨z,y,p,r⟩,l,o,n,m⟩:=id v;obtain⟨⟨q,c,d,a⟩,j,g,u,i⟩:=id x;simp only at o m g i;subst o m g i;exact concat_meets ⟨_,l,rfl⟩ ⟨_,j,rfl⟩ Jj seq_tuple_add Jk Jl (Jm _ _)
  (tuple_addW0 t b #[] f.toArray n u y c r a rfl) ⟨l,j,h⟩
def B4(K:ay):R2:=λx y H Q=>∃a b c,x=.ref a/\y=.ref b/\cL K H a []/\cL K H b c/\Q (.ref b) H
theorem VI{X:Cx}:bT X (il .Add) (B4 X.K):=by
 intro w s o H x y v u Q I f d h;obtain⟨a,b,p,rfl,rfl,n,m,q⟩:=h;cases f;cases d;obtain⟨l,g,j,_⟩:=I.tuple n;obtain⟨c,r,i,_⟩:=I.tuple m;cases g;exact Qf j i ⟨.ref b,H,I,rfl,q⟩
end L2
namespace Pu
open L2
def nW:PV->PV->Option PV
 |.tup [],.tup a=>aa (.tup a)
 |x,y=>bI x y
theorem E9{X:Cx}:bT X (il .Add) (λx y H Q=>B4 X.K x y H Q\/xW X.K x y H Q):=VI.or fW
theorem GR{K:ay}:P2 K (λx y H Q=>B4 K x y H Q\/xW K x y H Q) nW:=λF H x y v u Q pv d c e q=>by
 unfold nW at e;split at e
 .cases e;obtain⟨a,h,rfl,f,i⟩:=d;obtain⟨b,g,rfl,j,l⟩:=id c;rw[show h=[] from i]at f;exact .inl ⟨a,b,g,rfl,rfl,cL.of f,cL.of j,q _ F H (Al.refl ..) c⟩
 .exact .inr (fQ F H _ _ v u Q pv d c e q)
end Pu
namespace L2
open Pu
def uV(a:af)(o:Obj)(b:List (aE×V)):It :=⟨λi H=>H a=aa (.frz o (.dK b))/\i<b.length,λi H x c=>c=H/\∃p,b[i]?=aa p/\x=p.2,λi H=>H a=aa (.frz o (.dK b))/\b.length<=i⟩
theorem Ry{P:aN}{w:aG}{K:ay}{Z:aC}(a j:af)(o:Obj)(g:List (aE×V)):sC P w K Z (uV a o g) [j] j (λi h=>h.IsValIter j a i g.length (ny o)) where
 mem:=by simp
 obj:=λi h f b l=>by
  have e:b=j:=by simpa using l
  subst e;obtain⟨o,e,c,d⟩:=f;exact⟨o,e,λv z=>by rw[d]at z;cases z⟩
 keep:=λi h r f k=>f.at λo e=>k j (by simp) o e
 item:=by
  intro X F u G T i W s O H E I n f C;subst F u G;obtain⟨y,S⟩:=C;obtain⟨A,B⟩:=(show bR X.prog X.w H s.heap a (.frz o (.dK g))from I.hok a _ y)
  obtain⟨hs,Y,m,D⟩:=Cw A B;obtain⟨p,Q⟩:∃p,g[i]?=aa p:=⟨_,eM S⟩
  obtain⟨q,x,e1,e2⟩:=L2.KV.at m Q;obtain⟨M,L,f2,f3,f4,J⟩:=n j (by simp);rw[m.len]at f;refine wpAny_pyNext_values_item (k:=q.1) (v:=q.2) f D x λr N sb=>?_;have I1:Inv X W O H {s with heap:=r}:=I.turned (t':=s.toks) (λb o l e=>(sb.2 b l).trans e) M L f3 f4 J;rw[<-m.len]at N;obtain⟨oi,e,c,d⟩:=id N;exact⟨q.2,rfl,uI (s:={s with heap:=r}) e c d (by decide) ⟨p.2,H,I1,e2,⟨rfl,p,Q,rfl⟩,N,λb l=>(n b l).1⟩⟩
 done:=by
  intro X F u G T i W s O H E I n f C;subst F u G;obtain⟨y,S⟩:=C;obtain⟨A,B⟩:=(show bR X.prog X.w H s.heap a (.frz o (.dK g))from I.hok a _ y)
  obtain⟨hs,Y,m,D⟩:=Cw A B;obtain⟨M,L,f2,f3,f4,J⟩:=n j (by simp);have hl:=m.len;rw[hl]at f;exact wpAny_pyNext_values_end (I.ok.hd T) f D (lX ∅) λr eb=>⟨rfl,I.turned (t':=s.toks) (λb o l e=>eb b o l e) M L f3 f4 J⟩
 self:=λ_ _ _ _ _ f h=>wpAny_pyIter_valiter f h
section
variable{X:Cx}{c:aC}
def R9(i:Nat):TI:=λd H R=>∃a b,d[i]?=aa (aa (.ref a))/\H a=aa (.dK b)/\∀o q,H q=ae->(b.map (·.1)).Nodup->b.length<=bf->R (uV a o b) (upd (upd H q (iN q a)) a (.frz o (.dK b)))
theorem SA(i:Nat){y:Str}{m g f:Pos}(O:X.N[i]?=aa y)(J:fh X.env.scope y)(M:ad y)(T:(y==("__classdict__":Str))=aj)(G:kr (.Name y m) "values" X.env (aX (.Name y m) X.env)=aX (.Name y m) X.env) (F:(g.endLine == f.line)=ah):PI X c (.Call (.Attribute (.Name y m) "values" g) [] [] f) (R9 i):=by
 intro W s C H R I h;obtain⟨a,d,P,n,q⟩:=h;refine aW (Fx Ju JO PySem.F.type_dict_values GX (gC O J M T) G F W s C H (λx B=>∃q,x=.ref q/\H q=ae/\B=upd H q (iN q a)) I ⟨.ref a,P,.inr (.inr (.inl ⟨rfl,.inl ⟨_,n⟩⟩)),a,d,rfl,rfl,n,λq K=>⟨q,rfl,K,rfl⟩⟩) λv j ζ=>?_;obtain⟨x,B,r,D,E⟩:=ζ;obtain⟨p,e,u,Q⟩:=E;subst e Q;cases D;have S:a≠p:=by rintro rfl;rw[n]at u;cases u
 have w:upd H p (iN p a) a=aa (.dK d):=by rw[bh S];exact n
 obtain⟨o,L,z⟩:=r.freeze w;obtain⟨hs,Z,A,l⟩:=Cw (o:=o) L (show bR X.prog X.w _ j.heap a (.dK d)from r.hok a _ w);obtain⟨Y,_,_⟩:=(show bR X.prog X.w _ j.heap p (iN p a)from r.hok p _ upd_same)
 refine wpAny_pyIter_values Y l ?_;rw[<-A.len];refine⟨j.heap.objs.size,[j.heap.objs.size],_,_,_,rfl,z.kept (t':=j.toks) λb o e=>bw _ e,Ry a _ o d,⟨_,cz _ rfl,rfl,rfl⟩,λb N=>?_,q o p u (by rw[A.keysD];exact l.nodup) (show d.length<=bf by have:=(show bR X.prog X.w _ j.heap a (.dK d)from r.hok a _ w).1;exact this)⟩;have e:b=j.heap.objs.size:=by simpa using N
 subst e;exact z.fpOk (aZ _) (z.hok.fresh (aZ _))
end
section
variable{X:Cx}{c:d9}{x:Str}{f:List Str}{d:List Nat}
def UQ(i:Nat)(w:TT)(z:TE)(d:List Nat):TE:=λp H Q=>∃a g,p[i]?=aa (aa (.ref a))/\H a=aa (.dK g)/\∀o q l,H q=ae->(g.map (·.1)).Nodup->g.length<=bf->upd (upd H q (iN q a)) a (.frz o (.dK g)) l=ae->∃W:Nat->Nat->List V->Hp->Prop,(∃m,W 0 m [] (upd (upd (upd H q (iN q a)) a (.frz o (.dK g))) l (.lst [])))/\∀i m h n,W i m h n ->
 ((uV a o g).stop i n/\Q (.ref l) (upd n a (.dK g)))\/((uV a o g).go i n/\∀v u,(uV a o g).yld i n v u->w (aa v::gL p d) u λb s=>if b=ah then z (aa v::gL p d) s λy r=>r l=aa (.lst h)/\h.length<bf/\∃j,j<m/\W (i+1) j (h++[y]) (upd r l (.lst (h++[y]))) else ∃j,j<m/\W (i+1) j h s)
theorem Pm{E:aC}{Y G r j g:Pos}{y:Str}{D:List aC}{L:TT}{M:TE}(i:Nat)(B:jr X c x f d)(hc:X.calm=ah)(hN:X.N[i]?=aa y)(hv:fh X.env.scope y)(hd:ad y)(bA:(y==("__classdict__":Str))=aj)(kD:kr (.Name y r) "values" X.env (aX (.Name y r) X.env)=aX (.Name y r) X.env) (kE:(j.endLine == g.line)=ah)(ht:∀C b n K J,qH (cD X c f C b n K J) D L) (he:∀C b n K J,PE (cD X c f C b n K J) E M) (hs:∀x,mL (.Call (.Attribute (.Name y r) "values" j) [] [] g) X.env x=pure x:=by intro _;rfl):PE X (.ListComp E [⟨.Name x Y,.Call (.Attribute (.Name y r) "values" j) [] [] g,D,0⟩] c G) (UQ i L M d):=by
 intro ag s O H Q I h;obtain⟨a,p,ea,N,h⟩:=h;have hn:∀o u,X.H₀ a≠aa (.frz o u):=λo u z=>by
  have:=I.base.frzs a o u z;rw[N]at this;cases this
 refine aW (Gw B hc (SA i hN hv hd bA kD kE) ht he hs ag s O H (λv F=>∃o,F a=aa (.frz o (.dK p))/\Q v (upd F a (.dK p))) I ⟨a,p,ea,N,λo q hq Z hz l hl=>?_⟩) λv s' ⟨x,F,I',T,o,e',q⟩=>⟨x,_,I'.thaw e' hn,T,q⟩
 obtain⟨W,S,A⟩:=h o q l hq Z hz hl;refine⟨W,S,λi m P F w=>?_⟩;rcases A i m P F w with⟨st,q⟩|z
 .exact .inl ⟨st,o,st.1,q⟩
 .exact .inr ⟨z.1,λv H1 y=>⟨[aa v],rfl,rfl,z.2 v H1 y⟩⟩
end
end L2
namespace Pu
open L2
section
variable{X:Cx}{E:XK}{pin:List Nat}{c:Pos}
def oN:List (aE×PV)->Option (List Int)
 |[]=>aa []
 | (_,.int i)::r=>(oN r).map (i::·)
 |_=>ae
theorem Tn{K:ay}{H:Hp}{F:af->Prop}:∀{a:List (aE×PV)}{b:List (aE×V)}{is:List Int},ik K H F a b->oN a=aa is->b.map (·.2)=is.map V.int:=by
 intro a b is h e;unfold ik at h
 induction h generalizing is with
 |nil=>cases e;rfl
 |@cons p q ps qs r _ ih=>
  obtain⟨j,pv⟩:=p;obtain⟨i,f⟩:=q;cases pv <;> simp only[oN,mU]at e <;> try cases e
  obtain⟨g,d⟩:=r;obtain rfl:f=V.int _:=d;rename_i h;rw[cn,ih h.1,<-h.2];rfl
def qC(i:Nat):ac PO:=λa=>(aM (dq a i) a).bind λb a=>(aM (oN b) a).bind λis a=>.ok (.lst ((is.filter λn=>decide (0<n)).map .int)) a
theorem EB{K:ay}{H:Hp}{F:af->Prop}:∀l:List Int,Reps K H F (l.map .int) (l.map V.int)
 |[]=>rfl
 |i::l=>⟨_,_,rfl,rfl,EB l⟩
theorem RZ{H:Hp}{a l q:af}{o b:HO}{u v:HO}(e:H a=aa v)(f:l≠a)(d:q≠a):upd (upd (upd (upd H q b) a o) l u) a v=upd (upd H q b) l u:=by
 have:upd H q b a=aa v:=by rw[bh (dW d)];exact e
 exact UN this f
theorem TV{g:d9}{x y:Str}(i:Nat){px p1 p2 p3 p4 G u s:Pos}{c0}(B:jr X g x [x] [])(hc:X.calm=ah)(hN:X.N[i]?=aa y:=by rfl)(fq:fh X.env.scope y:=by first|exact Or.inl rfl|exact Or.inr (Or.inl rfl)|exact Or.inr (Or.inr rfl))(hd:ad y:=by decide) (bA:(y==("__classdict__":Str))=aj:=by decide)(kD:kr (.Name y G) "values" X.env (aX (.Name y G) X.env)=aX (.Name y G) X.env:=by rfl) (kE:(u.endLine == s.line)=ah:=by rfl)(hp0:∀C d f A w,PE (cD X g [x] C d f A w) (.Name x p1) (y0 0):=by intro _ _ _ _ _;exact pv 0) (fN:∀C d f A w,PE (cD X g [x] C d f A w) (.Name x p2) (y0 0):=by intro _ _ _ _ _;exact pv 0)(hs:∀x,mL (.Call (.Attribute (.Name y G) "values" u) [] [] s) X.env x=pure x:=by intro _;rfl):DN X E (.ListComp (.Name x p1) [⟨.Name x px,.Call (.Attribute (.Name y G) "values" u) [] [] s,[.Compare (.Name x p2) [.Gt] [.Constant (.int 0) c0 p3] p4],0⟩] g c) (qC i):=λF S ε σ H Q P h=>by
 unfold qC at h;cases e0:dq ε i with
 |none=>rw[e0]at h;exact h.elim
 |some kvs=>
  rw[e0]at h;simp only[cJ,R.bind_ok]at h;cases M:oN kvs with
  |none=>rw[M]at h;exact h.elim
  |some is=>
  rw[M]at h;simp only[cJ,R.bind_ok]at h;obtain⟨a,r,ea,ha,hk,hS,_⟩:=P.dkAt (lL e0);have pY:=Tn hk M;have bF:r.length=is.length:=by have:=congrArg ln pY;rwa[cN,cN]at this
  refine b9 (Pm i B hc hN fq hd bA kD kE (λC d f A w=>IV (B9 (Ku (fN C d f A w) Iu))) (λC d f A w=>hp0 C d f A w) hs) ⟨a,r,ea,ha,λo q l hq nd hz D=>?_⟩;have hqa:q≠a:=by rintro rfl;rw[ha]at hq;cases hq
  have O:l≠a:=by rintro rfl;rw[upd_same]at D;cases D
  have J:l≠q:=by rintro rfl;rw[bh O,upd_same]at D;cases D
  have T:H l=ae:=by rw[bh O,bh J]at D;exact D
  let PS:Nat->List V:=λj=>((is.take j).filter λn=>decide (0<n)).map V.int
  refine⟨λj m Y H'=>m=r.length-j/\j<=r.length/\Y=PS j/\H'=upd (upd (upd H q (iN q a)) a (.frz o (.dK r))) l (.lst Y),⟨_,rfl,jY _,by simp[PS],rfl⟩,?_⟩;rintro j m Y H' ⟨rfl,hj,rfl,rfl⟩;have L:upd (upd (upd H q (iN q a)) a (.frz o (.dK r))) l (.lst (PS j)) a=aa (.frz o (.dK r)):=by rw[bh (dW O),upd_same]
  by_cases a6:j<r.length
  .refine .inr ⟨⟨L,a6⟩,λv H1 ⟨M,p,hp,e2⟩=>?_⟩;subst M e2;have K:j<is.length:=∅
   have I:p.2=V.int is[j]:=by
    have h1:(r.map (·.2))[j]?=aa p.2:=by rw[gZ,hp];rfl
    rw[pY,gZ,eM K]at h1;exact(dO h1).symm
   have W:PS (j+1)=PS j++(if 0<is[j] then [V.int is[j]] else []):=by show((is.take (j+1)).filter λn=>decide (0<n)).map V.int=((is.take j).filter λn=>decide (0<n)).map V.int++_;rw[wc K,List.filter_append,pt];congr 1;by_cases z:0<is[j] <;> simp[z]
   have dv:(PS j).length<=j:=by show(List.map V.int _).length<=j;rw[cN];exact cX (D1 _ _) (by rw[lQ];lia)
   refine⟨p.2,rfl,is[j],0,I,rfl,_,rfl,?_⟩;dsimp only;by_cases z:0<is[j]
   .rw[if_pos (show decide (0<is[j])=ah from decide_eq_true z)];rw[if_pos z]at W;refine⟨p.2,rfl,upd_same,∅,r.length-(j+1),∅,rfl,a6,?_,?_⟩
    .rw[I];exact W.symm
    .rw[MW]
   .rw[if_neg (show ¬decide (0<is[j])=ah by rw[decide_eq_false z];exact eX)];rw[if_neg z,iR]at W;exact⟨r.length-(j+1),∅,rfl,a6,W.symm,rfl⟩
  .have e:j=r.length:=∅
   subst e;refine .inl ⟨⟨L,aZ _⟩,?_⟩;rw[RZ ha O hqa];have hPS:PS r.length=(is.filter λn=>decide (0<n)).map V.int:=by show((is.take r.length).filter _).map V.int=_;rw[bF,t9]
   rw[hPS];have N:Al F F H (upd H q (iN q a)):=Al.new0 hq;have wA:upd H q (iN q a) l=ae:=by rw[bh J];exact T
   have Z:=P.al N;have al:Al F F (upd H q (iN q a)) (upd (upd H q (iN q a)) l (.lst ((is.filter λn=>decide (0<n)).map V.int))):=Al.new0 wA;refine h F S _ (Z.al al) (N.grow.trans al.grow) l (λb=>b=l) ⟨⟨_,upd_same,EB _⟩,λb=>ou⟩ λb z=>?_;subst z;refine⟨T,λz=>?_,λ⟨j,z⟩=>?_,_,upd_same,trivial⟩
   .obtain⟨o,q⟩:=P.ex b z;rw[T]at q;cases q
   .obtain⟨_,_,o,q,_⟩:=P.foot j b z;rw[T]at q;cases q
theorem Am{b:List Int}{a:List ai}(r:bt (b.map V.int) a):IntsAre a b:=by
 induction b generalizing a with
 |nil=>cases r;exact .nil
 |cons i b d=>
  cases r with
  |cons h r=>obtain⟨t,rfl⟩:=h;exact .cons _ _ (d r)
theorem LZ(v:X.calm=ah):d4 X (.builtin "sum") (λxs H Q=>∃(p:af) (a:List Int),xs=[.ref p]/\b_ X.K H p (a.map V.int)/\Q (.int a.sum) H):=by
 intro C s y H xs z Q I r h;obtain⟨p,a,rfl,n,q⟩:=h;obtain⟨u,rfl,j⟩:=vals1 r;cases j;obtain⟨b,i,l,A⟩:=I.list n;have f:=Am i;obtain⟨xs,d⟩:=f.allInts.items;have m:s.heap.IsList p (intItems xs):=d ▸ l.isList;refine sum_intListG (I.ok.hd v) m λB g t' o=>?_;have x:a=xs.toList.map (·.1):=by rw[<-nums_intItems,<-d];exact(show numsOf b.toArray.toList=a from f.numsOf).symm
 have w:preSum (numAt xs) xs.size=a.sum:=by rw[preSum_eq,pA (by simp),x]
 rw[w];exact⟨.int a.sum,H,I.kept (t':=g) o,⟨t',rfl⟩,q⟩
def sT:List PV->Option PV
 |[.lst xs]=>(intsQ xs).map λis=>.int is.sum
 |_=>ae
where intsQ:List PV->Option (List Int)
 |[]=>aa []
 |.int i::r=>(intsQ r).map (i::·)
 |_=>ae
theorem E8{K:ay}{H:Hp}{F:af->Prop}:∀{xs:List PV}{a:List V}{is:List Int},Reps K H F xs a->sT.intsQ xs=aa is->a=is.map V.int
 |[],_,_,r,e=>by cases e;exact r
 |x::xs,a,is,⟨v,r,f,d,b⟩,e=>by
  cases x <;> simp only[sT.intsQ,mU]at e <;> try cases e
  rename_i h;rw[f,E8 b h.1,<-h.2,show v=_ from d];rfl
theorem OP:PL X.K (λxs H Q=>∃(p:af) (b:List Int),xs=[.ref p]/\b_ X.K H p (b.map V.int)/\Q (.int b.sum) H) sT:=λF H xs j Q pv f e q=>by
 unfold sT at e;split at e
 .obtain⟨v,rfl,a,l,rfl,g,_,d⟩:=fU f;obtain⟨is,i,h⟩:=mU.mp e;have:=E8 d i;subst this;subst h;exact⟨a,is,rfl,.inl g,q _ F H (Al.refl ..) rfl⟩
 .cases e
end
section
variable{X:Cx}{e c P:aC}{i:List aC}{C a:List a8}{t:ac Bool}{x w:ac Slot}{l:ac (List bX)}{Y:ac PV}{k N M L:Nat}{m u p n:List Str}{g j W T:ac Slot}{B A y:Str}{O d J G E K D:Pos}
theorem Kw{f:af}{fd:gh}(Fn:jP X.prog X.w X.K X.mg X.base (cf X.prog X.w) k f fd m (bB X.K g))(hb:Binds X.K fd m [])(hk:n9 X.K (.ref f)=ah)(hr:eT k X.A)(ha:DG X.nox E0 (e::i) l)(h1:aU (e::i) X.env=(aj,aX e X.env)::aU i X.env) (h2:(c7 d (aU i X.env)).any (·.1)=aj):∀F S ε σ H Q (XE:ai->Hp->Prop),aS X.K F S ε σ H->Ok X.K (λc _ Z=>XE c Z) σ F S H (jT g l ε) (λs _ F' S' Z=>∀v Sr,k9 X.K Z F' s v Sr->(∀b,Sr b->H b=ae/\¬F' b/\¬U S' b/\∃o,Z b=aa o/\ef o)->Q v Z) -> ∀ag s,Inv X ag σ H s->ar (au X.prog X.w) X.A (callWith d (.ref f) [] (c7 d (aU (e::i) X.env)) (pi d (pq [] X.env))) (EP X ag σ Q) (XP X ag σ XE) s:=λF S ε σ H Q XE rl h ag s I=>by
 have q0:Ok X.K E0 σ F S H (l ε) (λas ε1 F1 S1 H1=>Ok X.K (λc _ Z=>XE c Z) σ F1 S1 H1 (yb ε1 as g) (λs _ F' S' Z=>∀v Sr,k9 X.K Z F' s v Sr->(∀b,Sr b->H b=ae/\¬F' b/\¬U S' b/\∃o,Z b=aa o/\ef o)->Q v Z)):=by
  unfold jT at h;cases e0:l ε with
  |no=>rw[e0]at h;exact h.elim
  |er c ε'=>rw[e0]at h;exact h.elim
  |ok as ε1=>rw[e0]at h;exact λF1 S1 H1 r1 j=>Ok.from h j
 have wa:=(ha F S ε σ H (λvs H1=>∃F1 S1 ε1 as,aS X.K F1 S1 ε1 σ H1/\i5 X.K σ F1 H1 as vs/\(∀b,H1 b=ae->H b=ae)/\Ok X.K (λc _ Z=>XE c Z) σ F1 S1 H1 (yb ε1 as g) (λs _ F' S' Z=>∀v Sr,k9 X.K Z F' s v Sr->(∀b,Sr b->H b=ae/\¬F' b/\¬U S' b/\∃o,Z b=aa o/\ef o)->Q v Z)) rl (q0.imp λas ε1 F1 S1 H1 r1 j q vs av=>⟨F1,S1,ε1,as,r1,av,λb z=>nE j z,q⟩)).run d ag s (I.wish _);refine Jh (h₀:=X.base) I.ok.mod.kin hk (eW wa (λus s1 ⟨vs,H1,I1,r,F1,S1,ε1,as,r1,av,fb,q⟩=>⟨I1.unwish.kIn,?_⟩) λ_ _ z=>z.elim) h1 h2;exact UL Fn hr hb I1.unwish r (Rj (OR r1 av q) λv Z ⟨sl,ε',F',S',Sr,r',g',rs,fr,hq⟩=>hq v Sr rs λb z=>⟨fb b (fr b z).1,(fr b z).2⟩)
end
section
variable{X:Cx}{E:XK}{pin:List Nat}{a:Pos}
def jV(i j:Nat)(c:ac aK):List PV->ak->R aK
 |[],ε=>.ok .next ε
 |x::xs,ε=>match x with
  |.tup [u,v]=>match c ((ε.set i (.val u)).set j (.val v))with
   |.ok .next b=>jV i j c xs b
   |.ok .cont b=>jV i j c xs b
   |.ok .brk b=>.ok .next b
   |r=>r
  |_=>.no
def nP(i j:Nat)(c:ac (List PV))(d:ac aK):ac aK:=λb=>(c b).bind λxs ε1=>jV i j d xs ε1
theorem IC(i j:Nat){x y:Str}{p p2 B:Pos}{k:Nat}{n:aC}{o:List a8}{di:ac (List PV)}{L:ac aK}(wF:zq (au X.prog X.w) X.A X.env X.xe)(hc:X.calm=ah)(hN:X.N.Nodup)(hi:DI X E (.Tuple [.Name x p,.Name y p2] k B) n di)(hb:gz X E pin o L)(hp:i∉pin:=by decide) (eC:j∉pin:=by decide) (I:X.N[i]?=aa x:=by rfl) (hy:X.N[j]?=aa y:=by rfl) (Y:Loc X.env.scope x:=by first|exact Or.inl rfl|exact Or.inr rfl) (g_:Loc X.env.scope y:=by first|exact Or.inl rfl|exact Or.inr rfl) (hs:∀x,mL n X.env x=pure x:=by intro _;rfl)(hf:X.fn x=ah\/X.env.scope.names.lookup x=aa .local:=by first|exact .inl rfl|exact .inr rfl) (Z:X.fn y=ah\/X.env.scope.names.lookup y=aa .local:=by first|exact .inl rfl|exact .inr rfl):DS X E pin (.For (.Tuple [.Name x p,.Name y p2] k B) n o [] a) (nP i j di L):=λF S ε σ H D rl h=>by
 refine iM (GQ wF hc zj (RU hc (IH (zm hN I Y hf) (IH (zm hN hy g_ Z) RF))) qN hs) (hi F S ε σ H _ rl (h.bindE.imp λxs N F1 S1 H1 r1 g1 h1 J vs RR rs hz hw keep=>?_));refine Hx hw (λk d m=>∃r z l,aS X.K r z l d m/\bq (U S1) (U z) F1 r H1 m/\gT X.K E pin d r z m (jV i j L (xs.drop k) l) D) ⟨F1,S1,N,r1,bq.refl ..,h1⟩ (λk d m _ ⟨r,z,l,_,g,_⟩=>keep z r m g) ?_ ?_
 .rintro k v d m hv ⟨r,z,l,T,K,q⟩;obtain⟨x,I,rx⟩:=rs.back hv;have hk:k<xs.length:=(c_.mp I).1;have ed:xs.drop k=x::xs.drop (k+1):=by rw[v_ hk];congr 1;exact(c_.mp I).2
  rw[ed]at q;have Q:=rx.grow K r1.fit;unfold jV at q;split at q
  .rename_i u w;obtain⟨pp,us,rfl,dZ,ru⟩:=Q;obtain⟨P,ra,rfl,r2,O,rb,rfl,C,rfl⟩:=ru;have r5:=(T.set (i:=i) r2).set (i:=j) C;have gl:bq (U z) (U λW b=>(z W b/\W≠i)/\W≠j) r r m m:=(bq.less i).trans (bq.less j);refine⟨pp,_,rfl,cL.of dZ,rfl,P,_,rfl,O,_,rfl,rfl,?_⟩;show oX X o _ ((d.set i (aa P)).set j (aa O)) m;refine hb r _ _ _ m _ r5 ?_;have q:=q.from gl ((jn.set (x:=aa P) hp).trans (jn.set (x:=aa O) eC));cases e:L ((l.set i (.val u)).set j (.val w))with
   |no=>rw[e]at q;exact q
   |er c A=>rw[e]at q;exact q
   |ok f A=>
    rw[e]at q;cases f with
    |next=>exact λF3 S3 M H3 C G B=>⟨F3,S3,A,C,(K.trans gl).trans G,q.from G B⟩
    |cont=>exact λF3 S3 M H3 C G B=>⟨F3,S3,A,C,(K.trans gl).trans G,q.from G B⟩
    |brk=>exact q
    |ret s=>exact q
  .exact q.elim
 .rintro d m ⟨r,z,l,T,K,q⟩;have Y:vs.length=xs.length:=rs.len;rw[Y,JK]at q;exact q r z d m T (bq.refl ..) (jn.refl _ _)
end
end Pu
namespace HT
theorem getItem_tuple_whole{c:aN}{w:aG}{A:aT}{E:ai->am->Prop}{s:am}{t i:af}{a:Array ai}{n m:ai}{b g:Option Int}{Q:ai->am->Prop}(f:IsTup s.heap t a)(o:s.heap.IsSliceOf i n m .none)(r:lT n b)(q:lT m g)(x:sIx a.size 0 b=0) (v:sIx a.size a.size g=a.size) (h:Q (.ref t) s):ar (au c w) A (n_ (.ref t) (.ref i)) Q E s:=by
 obtain⟨u,p,j,y⟩:=id o;have l:s.TypeIs (.ref i) "slice":=⟨u,p,j⟩
 unfold n_
 try with_reducible refine jW ?_
 first|refine aq (aD ?_)|skip
 refine aq (wpAny_sequenceKey f.typeIs (by decide) ?_);refine aq (zu (name:=vW "__getitem__") f.typeIs CP (mQ CP f.typeIs entry_tuple_getitem ?_ (args_tuple_getitem _ _)));show ar _ _ (Jo (.ref t) >>= _) _ _ s;refine aq (tupleItemsOf_ f ?_);refine aq (tF l ?_);rw[if_pos (by decide)];refine aq (HK o r q ?_);have d:(((sIx a.size 0 b:Nat):Int) == 0&&(1:Int) == 1&&(sIx a.size a.size g-sIx a.size 0 b) == a.size)=ah:=by rw[x,v];simp
 show ar _ _ (if(((sIx a.size 0 b:Nat):Int) == 0&&(1:Int) == 1&&(sIx a.size a.size g-sIx a.size 0 b) == a.size)=ah then _ else _) _ _ s;rw[if_pos d];unfold Builtin.Tuple.tupleIsExact;refine aq (aq (tF f.typeIs (aD ?_)));rw[if_pos (by decide)];exact aq (mW (aD ⟨_,rfl,aD h⟩))
end HT
namespace L2
def Ca(K:ay):V->Option Int->Option Int->Hp->VK->Prop:=λx b c H Q=>∃a xs,x=.ref a/\cL K H a xs/\HT.sIx xs.length 0 b=0/\HT.sIx xs.length xs.length c=xs.length/\Q (.ref a) H
theorem Vp{X:Cx}:lD X (Ca X.K):=by
 intro B s o H x v u p y A w Q I f l i g h;obtain⟨a,xs,rfl,j,n,m,q⟩:=h;cases f;obtain⟨b,r,c,z⟩:=I.tuple j;have d:b.toArray.size=xs.length:=by rw[cM];exact r.length.symm
 refine⟨"tuple",_,PyProof.Rows.slot_tuple_getitem.lookup,c.typeIs,?_⟩;exact HT.getItem_tuple_whole c l i g (by rw[d];exact n) (by rw[d];exact m) ⟨.ref a,H,I,rfl,q⟩
end L2
namespace Pu
open L2
def zl:PV->Option Int->Option Int->Option PV
 |.tup xs,a,b=>if HT.sIx xs.length 0 a=0/\HT.sIx xs.length xs.length b=xs.length then aa (.tup xs)else aa (.tup (dG xs a b))
 |x,a,b=>b7 x a b
theorem Pp{X:Cx}:lD X (λx a b H Q=>Ca X.K x a b H Q\/x0 X.K x a b H Q):=Vp.or ij
theorem K7{K:ay}:Bm K (λx b c H Q=>Ca K x b c H Q\/x0 K x b c H Q) zl:=λF H x b c v Q pv d e q=>by
 cases x with
 |tup xs=>
  unfold zl at e;dsimp only at e;split at e
  .rename_i f;cases e;obtain⟨a,h,rfl,i,g⟩:=id d;exact .inl ⟨a,h,rfl,cL.of i,by rw[g.len];exact f.1,by rw[g.len];exact f.2,q _ F H (Al.refl ..) d⟩
  .rename_i f;exact .inr (gU F H _ b c v Q pv d ((if_neg f).trans e) q)
 |_=>exact .inr (gU F H _ b c v Q pv d e q)
end Pu
namespace L2
open Mx
section
variable{P:aN}{w:aG}{A:aT}{E:ai->am->Prop}{s:am}
def DrIs(h:aB)(k:List Str×List Str)(v:ai):Prop:=k.1≠[]/\∃(a b c:af) (f d:Array ai),v=.ref a/\IsTup h a #[.ref b,.ref c]/\IsTup h b f/\c8 f.toList k.1/\IsTup h c d/\c8 d.toList k.2
theorem DrIs.inj{h:aB}{k f:List Str×List Str}{v:ai}(x:DrIs h k v)(y:DrIs h f v):k=f:=by
 obtain⟨_,a,b,c,n,g,rfl,u,r,q,p,o⟩:=x;obtain⟨_,G,F,D,i,d,e,z,C,m,l,j⟩:=y;cases e;have B:b=F/\c=D:=by have:=congrArg Array.toList (tup_uniq u z);simp at this;exact this
 obtain⟨rfl,rfl⟩:=B;obtain rfl:=tup_uniq r C;obtain rfl:=tup_uniq p l;exact Prod.ext (strs_uniq q m) (strs_uniq o j)
def hashTs(P:aN)(w:aG)(a:List Str):Int:=vQ (n4 (a.map (gG P w).hash))
def hashDr(P:aN)(w:aG)(k:List Str×List Str):Int:=vQ (n4 [hashTs P w k.1,hashTs P w k.2])
theorem hash_ts{b:af}{a:Array ai}{c:List Str}(j:A.units+1<cLine)(i:IsTup s.heap b a)(h:c8 a.toList c):HsAt P w A s (.ref b) (hashTs P w c):=by obtain⟨g,f,d⟩:=strs_pairs (P:=P) (w:=w) (A:=A.in1) (s:=s) h;have:=hash_tup (P:=P) (w:=w) (A:=A) (s:=s) ∅ i g d;rw[f]at this;exact this
theorem hash_dr{k:List Str×List Str}{v:ai}(n:A.units+4<cLine)(x:DrIs s.heap k v):HsAt P w A s v (hashDr P w k):=by
 obtain⟨_,a,b,c,g,d,rfl,m,l,j,i,h⟩:=x;refine hash_tup (hs:=[(.ref b,hashTs P w k.1),(.ref c,hashTs P w k.2)]) ∅ m rfl λp f=>?_;simp only[bn,gi,or_false]at f;rcases f with rfl|rfl
 .exact hash_ts (show A.units+1+1<cLine by lia) l j
 .exact hash_ts (show A.units+1+1<cLine by lia) i h
def drKd(P:aN)(w:aG):Keyd P w (List Str×List Str) where
 is:=DrIs
 hash:=hashDr P w
 room:=λA=>A.units+4<cLine
 keep:=λ⟨D,a,b,c,g,d,e,i,l,h,p,m⟩ k=>⟨D,a,b,c,g,d,e,tup_kept i k,tup_kept l k,h,tup_kept p k,m⟩
 ref:=λ⟨_,a,_,_,_,_,e,⟨o,i,_⟩,_⟩=>⟨a,o,e,i⟩
 eqBool:=λ{A E s x y u v Q} Y H G q=>by
  by_cases B:u=v
  .subst B;obtain rfl:=H.inj G;rw[decide_eq_true rfl]at q;exact SeqAt.EqAt.same _ _ _ _ _ q
  .obtain⟨_,a,b,c,g,d,rfl,i,l,h,p,m⟩:=H;obtain⟨_,a',b',Z,F,C,rfl,L,N,J,r,I⟩:=G;have M:decide (x=y)=((cr (min 2 2)).all (λj=>if j=0 then decide (x.1=y.1)else decide (x.2=y.2))&&2 == 2):=by obtain⟨W,T⟩:=x;obtain⟨S,O⟩:=y;rw[mM];simp[v3]
   rw[M]at q;refine SeqAt.EqAt.of_refs (λz=>B (by rw[z])) (.tuples i L ∅ λj K X=>?_) _ _ _ _ q
   match j,K with
   |0,_=>exact eq_strs (show A.units+1<cLine by lia) l h N J
   |1,_=>exact eq_strs (show A.units+1<cLine by lia) p m r I
 quiet:=λ⟨_,a,b,c,g,d,e,i,l,h,p,m⟩ q=>by
  subst e;refine quiet_tup (n:=7) i (λv f E Q q=>?_) q;simp only[bn,gi,or_false]at f;rcases f with rfl|rfl
  .refine quiet_tup (n:=6) l (λv f E Q q=>?_) q;obtain⟨z,t,rfl⟩:=strs_mem_shape h v f;exact rm (by unfold wl;rfl) q
  .refine quiet_tup (n:=6) p (λv f E Q q=>?_) q;obtain⟨z,t,rfl⟩:=strs_mem_shape m v f;exact rm (by unfold wl;rfl) q
 cls:=λ⟨_,a,b,c,g,d,e,i,l,h,p,m⟩ q=>by
  subst e;refine cls_tup (n:=7) i (λv f E Q q=>?_) q;simp only[bn,gi,or_false]at f;rcases f with rfl|rfl
  .refine cls_tup (n:=6) l (λv f E Q q=>?_) q;obtain⟨z,t,rfl⟩:=strs_mem_shape h v f;exact rm (by unfold wm;rfl) q
  .refine cls_tup (n:=6) p (λv f E Q q=>?_) q;obtain⟨z,t,rfl⟩:=strs_mem_shape m v f;exact rm (by unfold wm;rfl) q
 hbv:=λ⟨D,a,b,c,g,d,e,i,l,h,p,m⟩ q=>by
  subst e;refine hbv_tup (n:=7) (pre:=[]) (x:=.ref b) (post:=[.ref c]) i rfl (λv f=>by simp at f) (λE Q q=>?_) q;cases r:g.toList with
  |nil=>rw[r]at h;have:=strs_len h;exact absurd (pB this.symm) D
  |cons v rest=>refine hbv_tup (n:=6) (pre:=[]) (x:=v) (post:=rest) l r (λv f=>by simp at f) (λE Q q=>?_) q;obtain⟨z,t,rfl⟩:=strs_mem_shape h v (by rw[r];simp);exact rm (by unfold wn;rfl) q
def ltD(a b:List Tx×List Tx):Bool:=if a.1=b.1 then ltL a.2 b.2 else ltL a.1 b.1
theorem ltL_tot{a b:List Tx}(h:a≠b):ltL a b=aj->ltL b a=ah:=λd=>by
 cases c:ltL b a with
 |true=>rfl
 |false=>exact absurd (ordL.total a b d c) h
theorem ltL_irr(a:List Tx):ltL a a=aj:=ordL.irrefl a
def ordD:KeyOrd where
 α:=List Tx×List Tx
 blt:=ltD
 irrefl:=λa=>by unfold ltD;rw[if_pos rfl];exact ltL_irr _
 trans:=λa b c g f=>by
  unfold ltD at *;by_cases i:a.1=b.1
  .rw[if_pos i]at g;by_cases d:b.1=c.1
   .rw[if_pos d]at f;rw[if_pos (i.trans d)];exact ordL.trans _ _ _ g f
   .rw[if_neg d]at f;rw[if_neg (by rw[i];exact d),i];exact f
  .rw[if_neg i]at g;by_cases d:b.1=c.1
   .rw[if_neg (by rw[<-d];exact i),<-d];exact g
   .rw[if_neg d]at f;have m:=ordL.trans _ _ _ g f;have l:ltL a.1 c.1=ah:=m;rw[if_neg (λz=>by rw[z,ltL_irr]at l;cases l)];exact m
 negTrans:=λa b c h=>by
  unfold ltD at *;by_cases j:a.1=b.1
  .rw[if_pos j];by_cases d:b.1=c.1
   .rw[if_pos (j.trans d)]at h;rw[if_pos d];exact ordL.negTrans _ _ _ h
   .rw[if_neg (by rw[j];exact d)]at h;rw[if_neg d,<-j];exact .inr h
  .rw[if_neg j];by_cases d:b.1=c.1
   .rw[if_neg (by rw[<-d];exact j)]at h;rw[d];exact .inl h
   .rw[if_neg d];by_cases i:a.1=c.1
    .cases n:ltL a.1 b.1 with
     |true=>exact .inl rfl
     |false=>have:=ltL_tot j n;rw[i]at this;exact .inr this
    .rw[if_neg i]at h;exact ordL.negTrans _ _ _ h
 total:=λa b g f=>by
  unfold ltD at *;by_cases e:a.1=b.1
  .rw[if_pos e]at g;rw[if_pos e.symm]at f;exact Prod.ext e (ordL.total _ _ g f)
  .rw[if_neg e]at g;rw[if_neg (λz=>e z.symm)]at f;exact absurd (ordL.total _ _ g f) e
def cpsD(k:List Str×List Str):List Tx×List Tx:=(cpsL k.1,cpsL k.2)
def drKey(h:aB):KeyKind where
 toKeyOrd:=ordD
 keyOf:=λv=>open Classical in if z:∃k,DrIs h k v then aa (cpsD z.choose)else ae
 dflt:=(([],[]):List Tx×List Tx)
theorem drKey_of{h:aB}{k:List Str×List Str}{v:ai}(x:DrIs h k v):(drKey h).keyOf v=aa (cpsD k):=by
 have z:∃k,DrIs h k v:=⟨k,x⟩
 show(open Classical in if z:∃k,DrIs h k v then aa (cpsD z.choose)else ae)=_;rw[dif_pos z,z.choose_spec.inj x]
theorem drKey_some{h:aB}{q:List Tx×List Tx}{v:ai}(x:(drKey h).keyOf v=aa q):∃k,DrIs h k v/\cpsD k=q:=by
 by_cases z:∃k,DrIs h k v
 .obtain⟨k,z⟩:=z;rw[drKey_of z]at x;exact⟨k,z,dO x⟩
 .have:(drKey h).keyOf v=ae:=dif_neg z;rw[this]at x;cases x
theorem drLt{h:aB}(Z:A.units+8<cLine)(k:∀b o,h.get? b=aa o->o.cls=.type "tuple"->s.heap.get? b=aa o):ig (drKey h) (tuples' aj) P w A s:=λE x y a b Q M L I=>by
 obtain⟨f,H,rfl⟩:=drKey_some M;obtain⟨d,G,rfl⟩:=drKey_some L;obtain⟨_,a1,b1,W,F,p,rfl,N,B,v,u,r⟩:=(drKd P w).keep H k;obtain⟨_,a2,b2,T,q,i,rfl,S,C,n,l,j⟩:=(drKd P w).keep G k;obtain⟨o,J,_,m,K⟩:=N;obtain⟨X,O,_,Y,D⟩:=S;have c:Q (if cpsL f.1=cpsL d.1 then ltL (cpsL f.2) (cpsL d.2)else ltL (cpsL f.1) (cpsL d.1)) s:=I;refine PySem.W.kat_lt J K O D ?_;show PySem.W.KatLex P w A aj _ Q [(Value.ref b1,Value.ref b2),(Value.ref W,Value.ref T)] 0 s;refine JX (eq_strs ∅ B v C n _ _ _ _ ?_);by_cases g:f.1=d.1
 .rw[if_pos (by rw[g])]at c;rw[decide_eq_true g];refine PySem.W.kat_yes (JX (eq_strs ∅ u r l j _ _ _ _ ?_));by_cases e:f.2=d.2
  .rw[e,ltL_irr]at c;rw[decide_eq_true e];exact PySem.W.kat_yes (PySem.W.kat_nil (~~~c))
  .rw[decide_eq_false e];exact PySem.W.kat_no (PySem.W.kat_one _ _ (lt_tupStrs u l r j ∅ c))
 .rw[if_neg (λz=>g (cpsL_inj z))]at c;rw[decide_eq_false g];exact PySem.W.kat_no (PySem.W.kat_one _ _ (lt_tupStrs B C v n ∅ c))
theorem drKind{d:List ai}{Q:gI->am->Prop}(i:∀v∈d,∃k,DrIs s.heap k v)(B:2<=d.length)(h:Q (tuples' aj) s):ar (au P w) A (keyKind' d.toArray) Q E s:=by
 have l:∀(d:List ai),(∀v∈d,∃k,DrIs s.heap k v)->∃fs,U2 s.heap d fs/\fs.length=d.length/\∀f∈fs,∃b g,f=Value.ref b/\IsTup s.heap b g:=by
  intro d
  induction d with
  |nil=>intro _;exact⟨[],PySem.W.KatTups.nil,rfl,λf j=>by simp at j⟩
  |cons v d C=>
   intro i;obtain⟨fs,p,z,n⟩:=C λu D=>i u (eJ _ D);obtain⟨k,_,a,b,c,g,y,rfl,⟨o,r,x,m,F⟩,B,_⟩:=i v fK;refine⟨.ref b::fs,PySem.W.KatTups.cons r x F rfl p,by simp[z],λf j=>?_⟩;rcases bn.mp j with rfl|j
   .exact⟨b,g,rfl,B⟩
   .exact n f j
 obtain⟨fs,p,z,n⟩:=l d i;refine PySem.W.kat_kind (T:=.type "tuple") p ∅ (λv i=>?_) (by decide) ?_
 .obtain⟨b,g,rfl,o,r,x,_⟩:=n v i;exact λ_ _ _ _ k q=>tF ⟨o,k _ _ r,x⟩ q
 .have:(Value.type "tuple" != Value.type "tuple")=aj:=by decide
  rw[this];exact h
end
section
variable{X:Cx}
abbrev DrK:=List Tx×List Tx
def kSD(k:DrK):List Str×List Str:=(k.1.map tS,k.2.map tS)
theorem kSD_inj{a b:DrK}(h:kSD a=kSD b):a=b:=by obtain⟨g,f⟩:=a;obtain⟨b1,b2⟩:=b;have d:=congrArg (λx=>cpsL x.1) h;have c:=congrArg (λx=>cpsL x.2) h;simp only[kSD,cpsL,dA,t_,jw,DY]at d c;rw[d,c]
def DrH(H:Hp)(k:DrK)(a:af):Prop:=k.1≠[]/\∃b c,H a=aa (.tup [.ref b,.ref c])/\H b=aa (.tup (cR k.1))/\H c=aa (.tup (cR k.2))
theorem DrH.is{P:aN}{w:aG}{H:Hp}{h:aB}{k:DrK}{a:af}(ok:df P w H h)(x:DrH H k a):DrIs h (kSD k) (.ref a):=by
 obtain⟨v,b,c,u,s,q⟩:=x;obtain⟨_,o,r,p,_⟩:=(show bR P w H h a (.tup [.ref b,.ref c])from ok a _ u)
 obtain⟨_,f,l,n,_⟩:=(show bR P w H h b (.tup (cR k.1))from ok b _ s)
 obtain⟨_,d,j,m,_⟩:=(show bR P w H h c (.tup (cR k.2))from ok c _ q)
 obtain _|⟨i,_|⟨g,_|_⟩⟩:=r;cases i;cases g;exact⟨λz=>v (by simpa[kSD]using z),a,b,c,f.toArray,d.toArray,rfl,p,n,by have:=uB l;rw[v4];exact this,m,by have:=uB j;rw[v4];exact this⟩
def toVD(q:DrK×af):(List Str×List Str)×ai:=(kSD q.1,.ref q.2)
def addQD(a:List (DrK×af))(q:DrK×af):List (DrK×af):=if q.1∈a.map (·.1)then a else a++[q]
def uniqQD(a:List (DrK×af)):List (DrK×af):=a.foldl addQD []
theorem addV_toVD(a:List (DrK×af))(q:DrK×af):addV (a.map toVD) (toVD q)=(addQD a q).map toVD:=by
 unfold addV addQD;have c:(toVD q).1∈(a.map toVD).map (·.1)↔q.1∈a.map (·.1):=by rw[dA,b8,b8];exact⟨λ⟨y,b,e⟩=>⟨y,b,kSD_inj e⟩,λ⟨y,b,e⟩=>⟨y,b,by show kSD y.1=kSD q.1;rw[e]⟩⟩
 by_cases h:q.1∈a.map (·.1)
 .rw[if_pos h,if_pos (c.mpr h)]
 .rw[if_neg h,if_neg λz=>h (c.mp z),pt];rfl
theorem uniqQD_take(a:List (DrK×af))(i:Nat)(h:i<a.length):uniqQD (a.take (i+1))=addQD (uniqQD (a.take i)) a[i]:=by unfold uniqQD;rw[wc h,JC];rfl
theorem addQD_len(a:List (DrK×af))(q:DrK×af):a.length<=(addQD a q).length:=by
 unfold addQD;split
 .exact aZ _
 .simp
theorem uniqQD_mono(l a:List (DrK×af)):a.length<=(l.foldl addQD a).length:=by
 induction l generalizing a with
 |nil=>exact aZ _
 |cons x r b=>exact cX (addQD_len a x) (b _)
theorem uniqQD_le(a:List (DrK×af))(i:Nat):(uniqQD (a.take i)).length<=(uniqQD a).length:=by
 have e:uniqQD a=(a.drop i).foldl addQD (uniqQD (a.take i)):=by unfold uniqQD;rw[<-JC,oj]
 rw[e];exact uniqQD_mono _ _
theorem uniqQD_mem(l b:List (DrK×af)):∀x∈l.foldl addQD b,x∈b\/x∈l:=by
 induction l generalizing b with
 |nil=>exact λx a=>.inl a
 |cons y r c=>
  intro x a;rcases c _ x a with z|z
  .unfold addQD at z;split at z
   .exact .inl z
   .rcases jg.mp z with z|z
    .exact .inl z
    .exact .inr (by rw[gH.mp z];exact fK)
  .exact .inr (eJ _ z)
theorem uniqQD_sub{a:List (DrK×af)}{x:DrK×af}(h:x∈uniqQD a):x∈a:=(uniqQD_mem a [] x h).elim (λz=>by simp at z) id
def setDHO(X:Cx)(a:af)(b:List (DrK×af)):HO:=.ext λh=>SetV (drKd X.prog X.w) h a (b.map toVD)
def refsD(a:List (DrK×af)):List V:=a.map λq=>.ref q.2
theorem refsD_vals:∀{a:List (DrK×af)}{b:List ai},bt (refsD a) b->b=a.map λq=>Value.ref q.2
 |[],_,.nil=>rfl
 |q::a,_,.cons r h=>by cases r;rw[refsD_vals h];rfl
theorem vals_refsD:∀(a:List (DrK×af)),bt (refsD a) (a.map λq=>Value.ref q.2)
 |[]=>.nil
 |q::a=>.cons rfl (vals_refsD a)
theorem call_setLD(hu:X.A.units+64<cLine)(hc:X.calm=ah):d4 X (.type "set") (λxs H Q=>∃(p:af) (c:List (DrK×af)),xs=[.ref p]/\b_ X.K H p (refsD c)/\(∀q∈c,DrH H q.1 q.2)/\(uniqQD c).length<4000/\∀a,H a=ae->Q (.ref a) (upd H a (setDHO X a (uniqQD c)))):=by
 intro ag s σ H xs us Q I r h;obtain⟨p,c,rfl,C,hP,h4,q⟩:=h;obtain⟨u,rfl,N⟩:=vals1 r;cases N;obtain⟨y,M,Y,hz⟩:=I.list C;have G:=refsD_vals M;have B:y.toArray.size=c.length:=by rw[cM,G,cN]
 have f:∀(h:aB),(∀b o,b<s.heap.objs.size->s.heap.get? b=aa o->h.get? b=aa o)->∀x∈c,(drKd X.prog X.w).is h (kSD x.1) (.ref x.2):=λh k x z=>(drKd X.prog X.w).keep ((hP x z).is I.hok) λb o e _=>k b o (bC e) e;refine IM (P:=X.prog) (w:=X.w) (I.ok.hd hc) (.inl Y.isList) (J:=λi h=>SetV (drKd X.prog X.w) h s.heap.objs.size ((uniqQD (c.take i)).map toVD)/\∀b o,b<s.heap.objs.size->s.heap.get? b=aa o->h.get? b=aa o)
  (λi h n ⟨S,k⟩ g=>⟨S.at λo e=>g _ o (aZ _) e,λb o l e=>g b o (li l) (k b o l e)⟩) ⟨⟨#[],0,_,[],cz _ rfl,tQ _,rfl,by decide,⟨⟨rfl,List.Pairwise.nil,(λj hj=>by cases hj),(by show 7∈_;decide),(by show 0*5<7*3;decide)⟩,rfl,(λq C=>by cases C)⟩,rfl,λh=>absurd rfl h⟩,λb o _ e=>bw _ e⟩
  (λi v d E Q hi A ⟨S,k⟩ q=>?_) λn m ⟨S,_⟩ k=>?_
 .have D:i<c.length:=∅
  obtain rfl:v=.ref c[i].2:=by rw[G]at A;simp[D]at A;exact A.symm
  have F:=f d.heap k c[i] (v6 D);unfold setAdd;refine jW (aq (hash_dr (P:=X.prog) (w:=X.w) (s:=d) (show X.A.units+3+4<cLine by lia) F d.toks _ _ λm O=>?_));refine set_addV (kd:=drKd X.prog X.w) (s:={d with toks:=m}) (k:=kSD c[i].1) (show X.A.units+3+4<cLine by lia) S (λp hp=>?_) F (by rw[cN];exact vZ (uniqQD_le c i) h4) λn b K Z=>?_
  .obtain⟨x,z,rfl⟩:=b8.mp hp;exact f d.heap k x (D3 (uniqQD_sub z))
  .refine q n m b O K ⟨?_,λb o l e=>by rw[K.2 b (cZ l)];exact k b o l e⟩;rw[uniqQD_take c i D,<-addV_toVD];exact Z
 .have L:SetV (drKd X.prog X.w) n s.heap.objs.size ((uniqQD c).map toVD):=by
   rw[B,t9]at S;exact S
  refine⟨.ref s.heap.objs.size,_,I.laid (t':=m) (o:=setDHO X s.heap.objs.size (uniqQD c)) (λb o e=>k b o (bC e) e) (aZ _) ?_,rfl,q _ I.fresh⟩;obtain⟨es,ep,t,ss,e,_⟩:=L.ex;exact⟨L,⟨_,e⟩,λh1 h2 W T=>W.at T⟩
theorem call_sortedSetD(hu:X.A.units+64<cLine)(hc:X.calm=ah):d4 X (.builtin "sorted") (λxs H Q=>∃(p:af) (d:List (DrK×af)),xs=[.ref p]/\H p=aa (setDHO X p d)/\(∀q∈d,DrH H q.1 q.2)/\d.length<4000 /\ ∀l g,H l=ae->U3 g d->g.Pairwise (λx y=>ltD y.1 x.1=aj)->Q (.ref l) (upd H l (.lst (refsD g)))):=by
 intro ag s K H xs us Q I r h;obtain⟨p,d,rfl,Z,hP,h4,q⟩:=h;obtain⟨u,rfl,M⟩:=vals1 r;cases M;obtain⟨S,_,_⟩:=(show bR X.prog X.w H s.heap p (setDHO X p d)from I.hok p _ Z)
 obtain⟨J,ep,t,ps,ho,G,F,B,T,P,dv⟩:=S.ex;have SE:sB X.w s.heap p J:=⟨ep,t,ho,B,T.fits (by simp),P,λh0=>dv λz=>h0 (by have j:=congrArg ln F;have f:=G.length_eq;rw[z]at f;simp at j f;rw[j,f];rfl)⟩
 have n:(J.toList.map (·.2)).Perm (d.map λq=>Value.ref q.2):=by rw[F,dA];have:=G.map (·.2);rwa[dA]at this
 refine sorted_genK ∅ (EJ (uC (I.ok.hd hc)) SE λL vs pv k eg eo=>?_);obtain⟨C,g',d',t',O⟩:=L;obtain rfl:g'=s.gens:=eg;obtain rfl:O=s.os:=eo;have D:Inv X ag K H {s with heap:=C,drawn:=d',toks:=t'}:=by have:=Inv.call (ch:=[]) I (g':=s.gens) (d':=d') (t':=t') (Un.kept (fs:=fF X.stack) (ex:=[]) k) (I.hok.kept k) I.bare (λb hb=>absurd hb (by simp));exact this
 have a:=pv.trans n;have c:∀x∈d,DrIs C (kSD x.1) (.ref x.2):=λx i=>(hP x i).is D.hok;refine⟨drKey C,tuples' aj,λv A=>?_,by have:=a.length_eq;rw[cN]at this;lia,λA' h2 hA m g_=>⟨drLt hA λb o e _=>m b o e,λ{E Q} N=>drKind (λv A=>?_) g_ N⟩,λh2 w e m W b1 b2=>?_⟩
 .obtain⟨x,i,rfl⟩:=b8.mp (a.mem_iff.mp A);exact⟨_,drKey_of (c x i)⟩
 .obtain⟨x,i,rfl⟩:=b8.mp (a.mem_iff.mp A);exact⟨_,(drKd X.prog X.w).keep (c x i) λb o e _=>m b o e⟩
 .obtain⟨g,j,f⟩:=perm_mapE (b1.trans a);refine⟨.ref _,_,D.laid (t':=t') (o:=.lst (refsD g)) m (aZ _) ⟨?_,w.toList,e,by rw[j];exact vals_refsD g,by rw[JS];exact W⟩,rfl,q _ g D.fresh f ?_⟩
  .unfold refsD;rw[cN,f.length_eq];exact li (sI ∅)
  .rw[j]at b2;refine(tR.mp b2).imp_of_mem λ{x y} i Y hh=>?_;have:ltD _ _=aj:=hh _ _ (drKey_of (c x (f.mem_iff.mp i))) (drKey_of (c y (f.mem_iff.mp Y)));simpa[cpsD,kSD,cpsL,dA,t_,jw]using this
end
end L2
namespace Pu
open L2
section
variable{X:Cx}{E:XK}{e:aC}{j:ac (List PV)}{i p q g:Pos}
def dr1:PV->Option DrK
 |.tup [.tup a,.tup xs]=>(fI a).bind λks=>(fI xs).bind λb=>if ks≠[] then aa (ks,b)else ae
 |_=>ae
def drs:List PV->Option (List DrK)
 |[]=>aa []
 |x::xs=>(dr1 x).bind λk=>(drs xs).bind λks=>aa (k::ks)
def drV(k:DrK):PV:=.tup [.tup (ao k.1),.tup (ao k.2)]
def uniqKD(ks:List DrK):List DrK:=ks.foldl (λa k=>if k∈a then a else a++[k]) []
def leKD(a b:DrK):Bool:=!ltD b a
def sortKD(ks:List DrK):List DrK:=ks.mergeSort leKD
def sortSetDP:List PV->Option PO
 |[.lst xs]=>(drs xs).bind λks=>if(uniqKD ks).length<4000 then aa (.lst ((sortKD (uniqKD ks)).map drV))else ae
 |_=>ae
theorem dr1_eq{x:PV}{k:DrK}(h:dr1 x=aa k):x=drV k/\k.1≠[]:=by
 unfold dr1 at h;split at h
 .obtain⟨ks,d,e⟩:=pK.mp h;obtain⟨f,c,a⟩:=pK.mp e;split at a
  .rename_i b;cases a;rw[p_ c,p_ d];exact⟨rfl,b⟩
  .cases a
 .cases h
theorem drs_eq:∀{xs:List PV}{ks:List DrK},drs xs=aa ks->xs=ks.map drV/\∀k∈ks,k.1≠[]
 |[],ks,h=>by cases h;exact⟨rfl,λk c=>by cases c⟩
 |x::xs,ks,h=>by
  obtain⟨k,m,l⟩:=pK.mp h;obtain⟨b,f,d⟩:=pK.mp l;cases d;obtain⟨o,n⟩:=drs_eq f;obtain⟨b1,b2⟩:=dr1_eq m;refine⟨by rw[o,b1];rfl,λy a=>?_⟩;rcases bn.mp a with rfl|a
  .exact b2
  .exact n y a
theorem dr_rep{K:ay}{H:Hp}{F:af->Prop}{k:DrK}{v:V}(h:aY K H F (drV k) v)(n:k.1≠[]):∃a,v=.ref a/\DrH H k a:=by obtain⟨a,w,rfl,l,y,A,rfl,⟨c,z,rfl,d,o⟩,x,m,rfl,⟨b,u,rfl,f,s⟩,r⟩:=h;rw[show m=[] from r]at l;rw[(Vr.mp s).1]at f;rw[(Vr.mp o).1]at d;exact⟨a,rfl,n,c,b,l,d,f⟩
theorem drs_rep{K:ay}{H:Hp}{F:af->Prop}:∀{ks:List DrK}{d:List V},Reps K H F (ks.map drV) d->(∀k∈ks,k.1≠[])->∃b:List (DrK×af),b.map (·.1)=ks/\d=refsD b/\∀q∈b,DrH H q.1 q.2/\aY K H F (drV q.1) (.ref q.2)
 |[],_,h,_=>⟨[],rfl,h,λq c=>by cases c⟩
 |k::ks,_,⟨v,r,e,l,w⟩,f=>by
  obtain⟨a,rfl,u⟩:=dr_rep l (f k fK);obtain⟨b,o,n,m⟩:=drs_rep w λy s=>f y (eJ _ s);refine⟨(k,a)::b,by rw[cn,o],by rw[e,n];rfl,λq c=>?_⟩;rcases bn.mp c with rfl|c
  .exact⟨u,l⟩
  .exact m q c
theorem reps_refsD{K:ay}{H:Hp}{F:af->Prop}:∀{a:List (DrK×af)},(∀q∈a,aY K H F (drV q.1) (.ref q.2))->Reps K H F ((a.map (·.1)).map drV) (refsD a)
 |[],_=>rfl
 |q::a,h=>⟨_,_,rfl,h q fK,reps_refsD λx b=>h x (eJ _ b)⟩
theorem uniqQD_keys(l a:List (DrK×af)):(l.foldl addQD a).map (·.1)=(l.map (·.1)).foldl (λa k=>if k∈a then a else a++[k]) (a.map (·.1)):=by
 induction l generalizing a with
 |nil=>rfl
 |cons x r b=>
  rw[jX,b,cn,jX];congr 1;unfold addQD;split
  .rfl
  .rw[pt];rfl
theorem sortKD_uniq{ks l:List DrK}(n:l.Perm ks)(m:l.Pairwise (λx y=>ltD y x=aj)):l=sortKD ks:=by
 refine Jz (le:=λa b=>leKD a b=ah) (λa b s r f d=>?_) (m.imp λh=>by unfold leKD;rw[h];rfl) (Jy (le:=leKD) (λa b c=>?_) (λa b=>?_) ks) (n.trans (zD ks leKD).symm)
 .unfold leKD at f d;exact ordD.total a b (show ltD a b=aj by simpa using d) (show ltD b a=aj by simpa using f)
 .unfold leKD;intro f d;have:ltD c a=aj:=ro (O:=ordD) (a:=a) (b:=b) (c:=c) (show ltD b a=aj by simpa using f) (show ltD c b=aj by simpa using d);rw[this];rfl
 .unfold leKD;cases h:ltD b a with
  |false=>rfl
  |true=>
   have:ltD a b=aj:=by
    cases o:ltD a b with
    |false=>rfl
    |true=>exact absurd (ordD.trans _ _ _ h o) (by have:ltD b b=aj:=ordD.irrefl _;show ¬ltD b b=ah;rw[this];decide)
   rw[this];rfl
def rSetThenD(X:Cx)(r:List V->Hp->VK->Prop):List V->Hp->VK->Prop:=λxs H Q=>∃(p:af) (b:List (DrK×af)),xs=[.ref p]/\b_ X.K H p (refsD b)/\(∀q∈b,DrH H q.1 q.2)/\(uniqQD b).length<4000/\∀a,H a=ae->r [.ref a] (upd H a (setDHO X a (uniqQD b))) Q
def rSortD(X:Cx):List V->Hp->VK->Prop:=λxs H Q=>∃(p:af) (a:List (DrK×af)),xs=[.ref p]/\H p=aa (setDHO X p a)/\(∀q∈a,DrH H q.1 q.2)/\a.length<4000 /\
  ∀l b,H l=ae->U3 b a->b.Pairwise (λx y=>ltD y.1 x.1=aj)->Q (.ref l) (upd H l (.lst (refsD b)))
theorem pln_sortSetD:oV X.K (rSetThenD X (rSortD X)) sortSetDP:=λF H xs vs Q po Y N e q=>by
 unfold sortSetDP at e;split at e
 .obtain⟨v,rfl,a,us,rfl,W,_,M⟩:=fU N;obtain⟨ks,e1,B⟩:=pK.mp e;obtain⟨rfl,cH⟩:=drs_eq e1;obtain⟨m,O,rfl,u⟩:=drs_rep M cH;split at B
  .rename_i T;cases B;have I:(uniqQD m).map (·.1)=uniqKD ks:=by unfold uniqQD uniqKD;rw[uniqQD_keys,O];rfl
   have r:(uniqQD m).length<4000:=by rw[<-cN (f:=(·.1)),I];exact T
   refine⟨a,m,rfl,.inl W,λq x=>(u q x).1,r,λb s=>⟨b,uniqQD m,rfl,upd_same,λq x=>?_,r,λl C n G S=>?_⟩⟩
   .obtain⟨Z,c,d,L,K,J⟩:=(u q (uniqQD_sub x)).1;exact⟨Z,c,d,by rw[bh (kR L s)];exact L,by rw[bh (kR K s)];exact K,by rw[bh (kR J s)];exact J⟩
   .have A:l≠b:=by rintro rfl;rw[upd_same]at n;cases n
    have D:H l=ae:=by rw[bh A]at n;exact n
    have al:Al F F H (upd (upd H b (setDHO X b (uniqQD m))) l (.lst (refsD C))):=(Al.new0 s).trans (Al.new0 n);have ez:C.map (·.1)=sortKD (uniqKD ks):=by rw[<-I];exact sortKD_uniq (G.map _) (tR.mpr S)
    refine q l F _ (λc=>c=l) al ⟨⟨_,upd_same,?_⟩,λc=>ou⟩ λc z=>?_
    .rw[<-ez];refine reps_refsD λy P=>?_;exact aY.mono (λ_ h=>h) (λ_ _ _ h=>al.same.rd h) (λc o h _=>al.same c o h) _ _ (u y (uniqQD_sub (G.mem_iff.mp P))).2
    .subst z;exact⟨D,λz=>Dx (Y _ z) (λo w=>by rw[D]at w;cases w),_,upd_same,trivial⟩
  .cases B
 .cases e
theorem dn_sortSetD(a:X.A.units+64<cLine)(b:X.calm=ah)(n:DA X E [e] j)(l:X.mg "sorted"=ae)(c:X.mg "set"=ae)(m:Gl X "sorted":=by rfl)(f:Gl X "set":=by rfl)(h:mE e=aj:=by rfl):DN X E (.Call (.Name "sorted" p) [.Call (.Name "set" q) [e] [] g] [] i) (dL sortSetDP j):=λF S s r H Q d o=>b9 (nY (call_sortedSetD a b) m l u_ (i9 (vx (call_setLD a b) f c Ba gS (by decide) (by decide) (iy h) rfl) ka (iy rfl)) (by decide) (by decide) (iy rfl) rfl) (vd pln_sortSetD n d o)
end
end Pu
namespace L2
section
variable{a:aN}{w:aG}{A:aT}{E:ai->am->Prop}{s:am}
def gf(x y:Str)(i:Nat):Str:=if i=0 then x else y
theorem yV{x y:Str}{t u:Tok}{i:Nat}{v:ai}(h:(#[Value.str x t,Value.str y u])[i]?=aa v):∃b,v=.str (gf x y i) b:=by
 match i with
 |0=>simp at h;exact⟨t,h.symm⟩
 |1=>simp at h;exact⟨u,h.symm⟩
 |n+2=>simp at h
theorem Nb{x y:Str}{t u:Tok}{Q:ai->am->Prop}(C:A.handled=ae)(h:∀f m,(∀c o,s.heap.get? c=aa o->f.get? c=aa o)->Q (if y.cps.toList<x.cps.toList then .str y u else .str x t) {s with heap:=f,toks:=m}):ar (au a w) A (call (.builtin "min") [.str x t,.str y u]) Q E s:=by
 have p:(s.heap.push {cls:=.type "tuple",data:=.seq #[.str x t,.str y u]}).IsTuple s.heap.objs.size #[.str x t,.str y u]:=⟨_,cz _ rfl,rfl,0,rfl⟩
 refine call_min_two (Dg p ?_);have b:(s.heap.push {cls:=.type "tuple",data:=.seq #[.str x t,.str y u]}).objs.size=s.heap.objs.size+1:=ri ..;refine⟨_,[_,s.heap.objs.size],[_],_,_,_,λi j=>decide ((gf x y i).cps.toList<(gf x y j).cps.toList),rfl,Walks.tuple (A:=A.in1) C _ s.heap.objs.size (by rw[b];exact cZ (jE _)) #[.str x t,.str y u],
  ⟨⟨_,cz _ rfl,rfl,rfl⟩,p.push _⟩,λc d=>?_,by simp,λi j J I M N O B z D=>?_,λv f m F r=>?_⟩
 .show c<((s.heap.push _).push _).objs.size;rw[ri,b];rcases bn.mp d with rfl|d
  .rw[b];exact jE _
  .rcases bn.mp d with rfl|d
   .exact ku (jE _)
   .cases d
 .obtain⟨L,rfl⟩:=yV B;obtain⟨K,rfl⟩:=yV z;exact JU D
 .have H:∀c o,s.heap.get? c=aa o->f.get? c=aa o:=λc o e=>by
   refine r c o (λn=>?_) (bw _ (bw _ e));rcases bn.mp n with G|n
   .have:=bC e;rw[G,b]at this;exact fj _ (Nat.lt_of_succ_lt this)
   .cases n
  have:=h f m H;have q:v=if y.cps.toList<x.cps.toList then Value.str y u else Value.str x t:=by
   have g:(#[Value.str x t,Value.str y u])[oB (λi j=>decide ((gf x y i).cps.toList<(gf x y j).cps.toList)) 1]?=aa v:=F;by_cases l:y.cps.toList<x.cps.toList
   .have e:oB (λi j=>decide ((gf x y i).cps.toList<(gf x y j).cps.toList)) 1=1:=by simp[oB,gf,l]
    rw[e]at g;rw[if_pos l];simpa using g.symm
   .have e:oB (λi j=>decide ((gf x y i).cps.toList<(gf x y j).cps.toList)) 1=0:=by simp only[oB,gf];exact if_neg (~~~l)
    rw[e]at g;rw[if_neg l];simpa using g.symm
  rw[q];exact this
theorem NM{x y:Str}{t u:Tok}{Q:ai->am->Prop}(C:A.handled=ae)(h:∀f m,(∀c o,s.heap.get? c=aa o->f.get? c=aa o)->Q (if x.cps.toList<y.cps.toList then .str y u else .str x t) {s with heap:=f,toks:=m}):ar (au a w) A (call (.builtin "max") [.str x t,.str y u]) Q E s:=by
 have p:(s.heap.push {cls:=.type "tuple",data:=.seq #[.str x t,.str y u]}).IsTuple s.heap.objs.size #[.str x t,.str y u]:=⟨_,cz _ rfl,rfl,0,rfl⟩
 refine call_max_two (Dg p ?_);have b:(s.heap.push {cls:=.type "tuple",data:=.seq #[.str x t,.str y u]}).objs.size=s.heap.objs.size+1:=ri ..;refine⟨_,[_,s.heap.objs.size],[_],_,_,_,λi j=>decide ((gf x y j).cps.toList<(gf x y i).cps.toList),rfl,Walks.tuple (A:=A.in1) C _ s.heap.objs.size (by rw[b];exact cZ (jE _)) #[.str x t,.str y u],
  ⟨⟨_,cz _ rfl,rfl,rfl⟩,p.push _⟩,λc d=>?_,by simp,λi j J I M N O B z D=>?_,λv f m F r=>?_⟩
 .show c<((s.heap.push _).push _).objs.size;rw[ri,b];rcases bn.mp d with rfl|d
  .rw[b];exact jE _
  .rcases bn.mp d with rfl|d
   .exact ku (jE _)
   .cases d
 .obtain⟨L,rfl⟩:=yV B;obtain⟨K,rfl⟩:=yV z;exact PySem.P.gt_str D
 .have H:∀c o,s.heap.get? c=aa o->f.get? c=aa o:=λc o e=>by
   refine r c o (λn=>?_) (bw _ (bw _ e));rcases bn.mp n with G|n
   .have:=bC e;rw[G,b]at this;exact fj _ (Nat.lt_of_succ_lt this)
   .cases n
  have:=h f m H;have q:v=if x.cps.toList<y.cps.toList then Value.str y u else Value.str x t:=by
   have g:(#[Value.str x t,Value.str y u])[oB (λi j=>decide ((gf x y j).cps.toList<(gf x y i).cps.toList)) 1]?=aa v:=F;by_cases l:x.cps.toList<y.cps.toList
   .have e:oB (λi j=>decide ((gf x y j).cps.toList<(gf x y i).cps.toList)) 1=1:=by simp[oB,gf,l]
    rw[e]at g;rw[if_pos l];simpa using g.symm
   .have e:oB (λi j=>decide ((gf x y j).cps.toList<(gf x y i).cps.toList)) 1=0:=by simp only[oB,gf];exact if_neg (~~~l)
    rw[e]at g;rw[if_neg l];simpa using g.symm
  rw[q];exact this
end
section
variable{X:Cx}
theorem Tl(b:X.calm=ah):d4 X (.builtin "min") (λxs H Q=>∃x y:Tx,xs=[tV x,tV y]/\Q (tV (if y<x then y else x)) H):=by
 intro l s c H xs f Q I r h;obtain⟨x,y,rfl,q⟩:=h;obtain⟨u,d,rfl,⟨t,rfl⟩,⟨i,rfl⟩⟩:=vals2 r;refine Nb (I.ok.hd b) λj g k=>⟨_,H,I.kept k,?_,q⟩
 rw[jw,jw];by_cases a:y<x
 .rw[if_pos a,if_pos a];exact⟨_,rfl⟩
 .rw[if_neg a,if_neg a];exact⟨_,rfl⟩
theorem Td(b:X.calm=ah):d4 X (.builtin "max") (λxs H Q=>∃x y:Tx,xs=[tV x,tV y]/\Q (tV (if x<y then y else x)) H):=by
 intro l s c H xs f Q I r h;obtain⟨x,y,rfl,q⟩:=h;obtain⟨u,d,rfl,⟨t,rfl⟩,⟨i,rfl⟩⟩:=vals2 r;refine NM (I.ok.hd b) λj g k=>⟨_,H,I.kept k,?_,q⟩
 rw[jw,jw];by_cases a:x<y
 .rw[if_pos a,if_pos a];exact⟨_,rfl⟩
 .rw[if_neg a,if_neg a];exact⟨_,rfl⟩
end
end L2
namespace Pu
open L2
section
variable{K:ay}
def uQ:List PV->Option PV
 |[.str x,.str y]=>aa (.str (if y<x then y else x))
 |_=>ae
def vn:List PV->Option PV
 |[.str x,.str y]=>aa (.str (if x<y then y else x))
 |_=>ae
theorem MQ:PL K (λxs H Q=>∃x y:Tx,xs=[tV x,tV y]/\Q (tV (if y<x then y else x)) H) uQ:=λF H xs f Q pv c e q=>by
 unfold uQ at e;split at e
 .rename_i x y;cases e;obtain⟨v,g,rfl,b,d⟩:=c;obtain⟨u,rfl,a⟩:=fU d;refine⟨x,y,by rw[b.1,a.1],q _ F H (Al.refl ..) ⟨rfl,?_⟩⟩;split
  .exact a.2
  .exact b.2
 .cases e
theorem KZ:PL K (λxs H Q=>∃x y:Tx,xs=[tV x,tV y]/\Q (tV (if x<y then y else x)) H) vn:=λF H xs f Q pv c e q=>by
 unfold vn at e;split at e
 .rename_i x y;cases e;obtain⟨v,g,rfl,b,d⟩:=c;obtain⟨u,rfl,a⟩:=fU d;refine⟨x,y,by rw[b.1,a.1],q _ F H (Al.refl ..) ⟨rfl,?_⟩⟩;split
  .exact a.2
  .exact b.2
 .cases e
end
section
variable{X:Cx}{e c w:aC}{r:List aC}{a:ac (List bX)}{l:ac PV}{W T P O:Nat}{G E D C:List Str}{d A y x:ac Slot}{q p n m:Str}{j M L K J N B:Pos}
def sm(d A y x:ac Slot)(l:ac PV)(a:ac (List bX)):ac Slot:=λf=>(cg (l f)).bind λi b=>match i with
   |.int 0=>jT d a b
   |.int 1=>jT A a b
   |.int 2=>jT y a b
   |.int 3=>jT x a b
   |_=>.no
theorem K_(c1:cP (cf X.prog X.w) X.prog X.w X.K X.mg X.base q W G (bB X.K d))(c2:cP (cf X.prog X.w) X.prog X.w X.K X.mg X.base p T E (bB X.K A))(c3:cP (cf X.prog X.w) X.prog X.w X.K X.mg X.base n P D (bB X.K y))(c4:cP (cf X.prog X.w) X.prog X.w X.K X.mg X.base m O C (bB X.K x))(rm1:eT W X.A) (rm2:eT T X.A) (rm3:eT P X.A) (rm4:eT O X.A) (hi:DE X.nox E0 w l) (ha:DG X.nox E0 (e::r) a) (hs:Bu w:=by exact λ_ _=>rfl) (hg1:Gl X q:=by rfl) (rP:Gl X p:=by rfl) (hg3:Gl X n:=by rfl) (hg4:Gl X m:=by rfl)(hd1:ad q:=by decide) (kI:ad p:=by decide) (hd3:ad n:=by decide) (wR:ad m:=by decide)(h1:aU (e::r) X.env=(aj,aX e X.env)::aU r X.env:=by rfl) (h2:(c7 j (aU r X.env)).any (·.1)=aj:=by rfl):DX X (.Call (.Subscript (.List [.Name q M,.Name p L,.Name n K,.Name m J] N) w B) (e::r) [] j) (sm d A y x l a):=λF S ε σ H Q XE rl h ag s I=>by
 obtain⟨f1,fd1,m1,F1',b1,kp1⟩:=c1.ex;obtain⟨f2,fd2,m2,F2',b2,kp2⟩:=c2.ex;obtain⟨f3,fd3,m3,F3',b3,kp3⟩:=c3.ex;obtain⟨f4,fd4,m4,F4',b4,kp4⟩:=c4.ex;have hf:DE X.nox E0 (.Subscript (.List [.Name q M,.Name p L,.Name n K,.Name m J] N) w B) (d2 aR (dF (dL eR (ap (dC (.raw (.ref f1))) (ap (dC (.raw (.ref f2))) (ap (dC (.raw (.ref f3))) (ap (dC (.raw (.ref f4))) az)))))) l) :=eQ eU eV (kh (aw (ju m1 hg1 hd1) (aw (ju m2 rP kI) (aw (ju m3 hg3 hd3) (aw (ju m4 hg4 wR) aH))))) hi hs;unfold sm at h;cases e0:l ε with
 |no=>rw[e0]at h;exact h.elim
 |er c ε'=>rw[e0]at h;exact h.elim
 |ok i Y=>
  rw[e0]at h;have h:Ok X.K (λc _ H'=>XE c H') σ F S H (match i with
   |.int 0=>jT d a Y
   |.int 1=>jT A a Y
   |.int 2=>jT y a Y
   |.int 3=>jT x a Y
   |_=>.no) _:=h
  have hv:∀f,aR (.lst [.raw (.ref f1),.raw (.ref f2),.raw (.ref f3),.raw (.ref f4)]) i=aa (.raw (.ref f))->d2 aR (dF (dL eR (ap (dC (.raw (.ref f1))) (ap (dC (.raw (.ref f2))) (ap (dC (.raw (.ref f3))) (ap (dC (.raw (.ref f4))) az)))))) l ε=.ok (.raw (.ref f)) Y:=λf hx=>by unfold d2;rw[show dF (dL eR (ap (dC (.raw (.ref f1))) (ap (dC (.raw (.ref f2))) (ap (dC (.raw (.ref f3))) (ap (dC (.raw (.ref f4))) az))))) ε=.ok (.lst [.raw (.ref f1),.raw (.ref f2),.raw (.ref f3),.raw (.ref f4)]) ε from rfl,R.bind_ok,e0,R.bind_ok,hx];rfl
  have Z:∀{f:af}{fd:gh}{k:Nat}{ps:List Str}{g:ac Slot},jP X.prog X.w X.K X.mg X.base (cf X.prog X.w) k f fd ps (bB X.K g)->Binds X.K fd ps []->n9 X.K (.ref f)=ah->eT k X.A ->
    aR (.lst [.raw (.ref f1),.raw (.ref f2),.raw (.ref f3),.raw (.ref f4)]) i=aa (.raw (.ref f)) ->
    Ok X.K (λc _ H'=>XE c H') σ F S H (jT g a Y) (λs _ F' S' H'=>∀v Sr,k9 X.K H' F' s v Sr->(∀b,Sr b->H b=ae/\¬F' b/\¬U S' b/\∃o,H' b=aa o/\ef o)->Q v H') ->
    ar (au X.prog X.w) X.A (aX (.Call (.Subscript (.List [.Name q M,.Name p L,.Name n K,.Name m J] N) w B) (e::r) [] j) X.env) (EP X ag σ Q) (XP X ag σ XE) s:=λ{f fd k ps g} Fn hb hk hr hx h=>by
   have wf:=(hf F S ε σ H (λv H1=>v=.ref f/\∃F1 S1,aS X.K F1 S1 Y σ H1/\bq (U S) (U S1) F F1 H H1) rl (by rw[hv f hx];exact λF' S' H' r' g' v rv=>⟨rv,F',S',r',g'⟩)).run ag s (I.wish _);refine aq (eW wf (λu s1 ⟨v,H1,I1,rv,ev,F1,S1,r1,d⟩=>?_) λ_ _ z=>z.elim);subst ev;obtain rfl:u=Value.ref f:=rv;exact Kw Fn hb hk hr ha h1 h2 F1 S1 Y σ H1 Q XE r1 ((Ok.from h d).imp λsl ε' F' S' H' r' g' hq v Sr rs fr=>hq v Sr rs λb z=>⟨nE d (fr b z).1,(fr b z).2⟩) ag s1 I1.unwish
  split at h
  .exact Z F1' b1 kp1 rm1 rfl h
  .exact Z F2' b2 kp2 rm2 rfl h
  .exact Z F3' b3 kp3 rm3 rfl h
  .exact Z F4' b4 kp4 rm4 rfl h
  .exact h.elim
end
end Pu
local macro_rules | `(⇑$x) => `(.val (.int $x))
local macro_rules | `(↥$x) => `(.val (.str $x))
namespace Sh
open L2 Pu
set_option genInjectivity false in
structure Ad where
 SlitError:af
 NoText:af
 NoWidth:af
 NoView:af
 NoWindow:af
 Never:af
 Full:af
 Nothing:af
 Unlike:af
 NoPlace:af
 NoLetters:af
 BadText:af
 Seeker:af
 Slit:af
def gR(a:Ad):List af:=[a.NoText,a.NoWidth,a.NoView,a.NoWindow,a.Never,a.Full,a.Nothing,a.Unlike,a.NoPlace,a.NoLetters,a.BadText]
def nv(a:Ad)(c:ai):Bool:=match c with
 |.ref x=>(gR a).contains x
 |_=>aj
def jt(a:Ad)(c:ai)(D:V):Option Bool:=match c,D with
 |.ref x,.ref d=>if(gR a).contains x&&(gR a).contains d then aa (x == d)else ae
 |.ref x,.ty T=>if(gR a).contains x&&T == "ValueError" then aa ah else ae
 |_,_=>ae
def yav(a:Ad):ac aK:=cq (dL sV (ap (dF (cW [1] (br (dV 0)) (eh) (d2 (sr aj) (dV 0) (dV 1)))) (az)))
def y9(a:Ad):ac Slot:=bv 2 [] (bu 0 (yav a))
def yay(a:Ad):ac aK:=cq (oP (dL eu (ap (dV 0) (ap (dC (.raw (.ty "int"))) (az)))) (yY (dL eu (ap (dV 0) (ap (dC (.raw (.ty "bool"))) (az))))))
def nA(a:Ad):ac Slot:=bv 1 [] (bu 0 (yay a))
def yaz(a:Ad):ac aK:=cq (oP (bL (a9 (nA a) (gV (dV 0) (cm)))) (qy (dE λi j=>decide (i<=j)) (dE λi j=>decide (i<=j)) (dC (.int 1)) (dV 0) (dC (.int 4))))
def nZ(a:Ad):ac Slot:=bv 1 [] (bu 0 (yaz a))
def yaA(a:Ad):ac aK:=cq (oP (dL eu (ap (dV 0) (ap (dC (.raw (.ty "str"))) (az)))) (oP (d2 (eqT aj) (dL bH (ap (dV 0) (az))) (dV 1)) (bL (a9 (y9 a) (gV (dV 0) (gV (dV 2) (cm)))))))
def o4(a:Ad):ac Slot:=bv 3 [] (bu 0 (yaA a))
def yan(a:Ad):ac aK:=aI (cO (iZ (j6 (dB (dL eu (ap (dV 0) (ap (dC (.raw (.ty "tuple"))) (az)))))) (j6 (dB (qy (dE λi j=>decide (i<=j)) (dE λi j=>decide (i<=j)) (dC (.int 1)) (dL bH (ap (dV 0) (az))) (dC (.int 9)))))) (cq (dC (.bl aj))) (dJ))
 (aI (cO (j6 (dB (dL sV (ap (dF (cW [1,2] (br (dV 0)) (eh) (bL (a9 (o4 a) (gV (dV 0) (gV (dV 1) (gV (dV 2) (cm)))))))) (az))))) (cq (dC (.bl aj))) (dJ))
 (cq (d2 (eqT aj) (dF (dL yv (ap (dV 0) (az)))) (dF (dL sS (ap (dV 0) (az)))))))
def kb(a:Ad):ac Slot:=bv 3 [] (bu 0 (yan a))
def yax(a:Ad):ac aK:=aI (cO (iZ (j6 (dB (dL eu (ap (dV 0) (ap (dC (.raw (.ty "tuple"))) (az)))))) (dB (d2 (eqT ah) (dL bH (ap (dV 0) (az))) (dC (.int 2))))) (cq (dC (.bl aj))) (dJ))
 (cq (oP (bL (a9 (nZ a) (gV (d2 aR (dV 0) (dC (.int 0))) (cm)))) (bL (a9 (kb a) (gV (d2 aR (dV 0) (dC (.int 1))) (gV (d2 aR (dV 0) (dC (.int 0))) (gV (dV 1) (cm))))))))
def iI(a:Ad):ac Slot:=bv 2 [] (bu 0 (yax a))
def yaw(a:Ad):ac aK:=mo (a9 (iI a) (gV (dV 0) (gV (dC (.str [97,98,99])) (cm))))
def ke(a:Ad):ac Slot:=bv 1 [] (bu 0 (yaw a))
def yaq(a:Ad):ac aK:=cO (j6 (dB (bL (a9 (ke a) (gV (dV 0) (cm)))))) (qh (.ref a.NoView) (λb=>cg ((dC (.str [97,32,118,105,101,119,32,105,115,32,97,32,116,117,112,108,101,32,111,102,32,97,32,119,105,100,116,104,32,97,110,100,32,97,32,114,105,115,105,110,103,32,116,117,112,108,101,32,111,102,32,49,32,116,111,32,57,32,119,105,110,100,111,119,115])) b))) (dJ)
def jQ(a:Ad):ac Slot:=bv 1 [] (bu 0 (yaq a))
def yar(a:Ad):ac aK:=aI (fu 1 (sH))
 (aI (λb=>cY (dR 2 (br (dV 0)) (fO 1 (dV 2) (d2 bI (iP 1 (dV 2) (dC (.int 0))) (dC (.int 1)))) b))
 (k7 1))
def vK(a:Ad):ac Slot:=bv 1 [] (bu 2 (yar a))
def yam(a:Ad)(c:ac Slot):ac aK:=aI (cO (j6 (dB (u8 2))) (aI (kZ 3 (dV 0)) (zb (.ret (.val .non)))) (dJ))
 (aI (bM 4 (bP b7 (dV 0) (bN (d2 bI (d2 jx (dL bH (ap (dV 0) (az))) (dV 1)) (dC (.int 1)))) (bZ)))
 (λb=>cY (dR 5 (br (dC (.str [97,98,99]))) (aI (bM 6 (d2 bI (dV 4) (dV 5)))
 (cO (dB (d2 (dE λi j=>decide (j<i)) (iP 2 (dV 6) (dC (.int 0))) (dC (.int 0)))) (aI (fO 2 (dV 6) (d2 jx (nV 2 (dV 6)) (dC (.int 1))))
 (aI (jc (a9 (c) (gV (d2 bI (dV 0) (dV 5)) (gV (dV 1) (gO 2 (gO 3 (cm)))))))
 (fO 2 (dV 6) (d2 bI (nV 2 (dV 6)) (dC (.int 1)))))) (dJ))) b)))
def o6(a:Ad):Nat->ak->R Slot
 |0=>bv 4 [2,3] (bu 3 dNever)
 |k+1=>bv 4 [2,3] (bu 3 (yam a (o6 a k)))
def yaR(a:Ad):ac aK:=aI (jc (a9 (jQ a) (gV (dV 0) (cm))))
 (aI (bM 1 (d2 aR (dV 0) (dC (.int 0))))
 (aI (fu 2 (dL eR (az)))
 (aI (λb=>cY (dR 3 (br (dF (dL vC (ap (dF (cW [] (br (d2 aR (dV 0) (dC (.int 1)))) (eh) (bP b7 (dV 0) (bZ) (bN (d1 d7 (dC (.int 1))))))) (az))))) (jc (uD (o6 a 12) (sL (dV 3) (sL (dV 1) (gN (kX (a9 (vK a) (gV (d2 aR (dV 0) (dC (.int 1))) (cm)))) (gO 2 (cm))))))) b))
 (k7 2))))
def iQ(a:Ad):ac Slot:=bv 1 [] (bu 3 (yaR a))
def yas(a:Ad):ac aK:=aI (fu 1 (sH))
 (aI (λb=>cY (dR 2 (br (dV 0)) (aI (fO 1 (bP b7 (dV 2) (bZ) (bN (d1 d7 (dC (.int 1))))) (d2 bI (iP 1 (bP b7 (dV 2) (bZ) (bN (d1 d7 (dC (.int 1))))) (dC (.int 0))) (dC (.int 1))))
 (fO 1 (bP b7 (dV 2) (bN (dC (.int 1))) (bZ)) (d2 jx (iP 1 (bP b7 (dV 2) (bN (dC (.int 1))) (bZ)) (dC (.int 0))) (dC (.int 1))))) b))
 (k7 1))
def xu(a:Ad):ac Slot:=bv 1 [] (bu 2 (yas a))
def yaO(a:Ad):ac aK:=aI (fu 1 (uL (bP b7 (d2 aR (dV 0) (dC (.int 0))) (bZ) (bN (d1 d7 (dC (.int 1))))) (dC (.bl ah))))
 (aI (bM 2 (dC (.int 0)))
 (aI (λb=>cY (fY (dB (d2 (dE λi j=>decide (i<j)) (dV 2) (nQ 1))) (aI (bM 2 (nQ 1))
 (dR 3 (br (dV 0)) (cO (iZ (dB (gc aj 1 (bP b7 (dV 3) (bZ) (bN (d1 d7 (dC (.int 1))))))) (dB (gc aj 1 (bP b7 (dV 3) (bN (dC (.int 1))) (bZ))))) (aI (fO 1 (bP b7 (dV 3) (bZ) (bN (d1 d7 (dC (.int 1))))) (dC (.bl ah)))
 (fO 1 (bP b7 (dV 3) (bN (dC (.int 1))) (bZ)) (dC (.bl ah)))) (dJ)))) 1000 b))
 (k7 1)))
def vo(a:Ad):ac Slot:=bv 1 [] (bu 3 (yaO a))
def yat(a:Ad):ac aK:=aI (fu 1 (kX (a9 (xu a) (gV (dV 0) (cm)))))
 (cq (dL sZ (ap (dC (.int 1)) (ap (dL sT (ap (dF (qC 1)) (az))) (az)))))
def ze(a:Ad):ac Slot:=bv 1 [] (bu 1 (yat a))
def yau(a:Ad):ac aK:=aI (jc (a9 (jQ a) (gV (dV 0) (cm))))
 (aI (bM 1 (d2 aR (dV 0) (dC (.int 1))))
 (aI (bM 2 (dC (.int 0)))
 (aI (λb=>cY (fY (dB (d2 (dE λi j=>decide (j<i)) (dL bH (ap (dV 1) (az))) (dC (.int 0)))) (aI (fu 3 (kX (a9 (vo a) (gV (dV 1) (cm)))))
 (aI (bM 2 (d2 bI (dV 2) (bL (a9 (ze a) (gV (dF (cW [3] (br (dV 1)) (dB (gc aj 1 (bP b7 (dV 0) (bZ) (bN (d1 d7 (dC (.int 1))))))) (dV 0))) (cm))))))
 (bM 1 (dF (cW [3] (br (dV 1)) (dB (gc ah 1 (bP b7 (dV 0) (bZ) (bN (d1 d7 (dC (.int 1))))))) (dV 0)))))) 1000 b))
 (cq (dV 2)))))
def j9(a:Ad):ac Slot:=bv 1 [] (bu 3 (yau a))
def yaD(a:Ad):ac aK:=aI (cO (dB (d2 (dE λi j=>decide (i<j)) (dV 1) (dL bH (ap (dV 0) (az))))) (cq (d2 aR (dV 0) (dV 1))) (dJ))
 (aI (cO (dB (d2 (eqT aj) (dV 0) (dF (dL eR (az))))) (cq (dC (.int 0))) (dJ))
 (cq (d2 bI (d2 lJ (d2 aR (dV 0) (d2 iC (dV 1) (dL bH (ap (dV 0) (az))))) (dC (.int 31))) (dV 1))))
def sK(a:Ad):ac Slot:=bv 2 [] (bu 0 (yaD a))
def yaF(a:Ad):ac aK:=aI (bM 3 (d2 iC (d2 bI (d2 bI (d2 lJ (bL (a9 (sK a) (gV (dV 0) (gV (dV 1) (cm))))) (dC (.int 1103515245))) (d2 lJ (dC (.int 7919)) (dV 1))) (dC (.int 12345))) (dC (.int 2147483647))))
 (cq (d2 iC (d2 iC (d2 iC (d2 uY (dV 3) (dC (.int 5))) (dC (.int 2147483647))) (dC (.int 999983))) (dV 2)))
def y6(a:Ad):ac Slot:=bv 3 [] (bu 1 (yaF a))
def yaE(a:Ad):ac aK:=aI (kZ 1 (dC (.int 0)))
 (mo (a9 (y6 a) (gV (dV 0) (gV (sX (λxs=>uT (bH xs)) 1) (gV (dV 2) (cm))))))
def o7(a:Ad):ac Slot:=bv 3 [1] (bu 0 (yaE a))
def yaH(a:Ad):ac aK:=cq (d2 aR (dV 2) (bL (a9 (o7 a) (gV (dV 0) (gO 1 (gV (dL bH (ap (dV 2) (az))) (cm)))))))
def sJ(a:Ad):ac Slot:=bv 3 [1] (bu 0 (yaH a))
def yaJ(a:Ad):ac aK:=aI (bM 4 (bL (a9 (sJ a) (gV (dV 0) (gO 1 (gV (dF (dL eR (ap (dC (.int 1)) (ap (dC (.int 2)) (ap (dC (.int 2)) (ap (dC (.int 3)) (ap (dC (.int 3)) (ap (dC (.int 3)) (az))))))))) (cm)))))))
 (aI (bM 5 (dC (.str [])))
 (aI (λb=>cY (dR 6 (dL iK (ap (d2 bI (dV 2) (bL (a9 (o7 a) (gV (dV 0) (gO 1 (gV (d2 bI (d2 jx (dV 3) (dV 2)) (dC (.int 1))) (cm))))))) (az))) (bM 5 (d2 bI (dV 5) (d2 aR (dC (.str [97,98,99])) (bL (a9 (o7 a) (gV (dV 0) (gO 1 (gV (dV 4) (cm))))))))) b))
 (cq (dV 5))))
def xG(a:Ad):ac Slot:=bv 4 [1] (bu 3 (yaJ a))
def yaI(a:Ad):ac aK:=cq (dL vc (ap (dF (dL sS (ap (dF (cW [0,1] (dL iK (ap (dL bH (ap (dV 0) (az))) (az))) (dB (d2 (dE λi j=>decide (i<=j)) (d2 bI (dV 0) (dV 2)) (dL bH (ap (dV 1) (az))))) (bP b7 (dV 1) (bN (dV 0)) (bN (d2 bI (dV 0) (dV 2)))))) (az)))) (az)))
def uZ(a:Ad):ac Slot:=bv 2 [] (bu 0 (yaI a))
def yaG(a:Ad):ac aK:=aI (bM 2 (dF (dL eR (ap (dC .non) (ap (dC (.int 5)) (ap (dC (.str [50,58,32,97,98])) (ap (dF (dL eR (ap (dC (.int 1)) (ap (dL ba (ap (dC (.str [97])) (az))) (az))))) (ap (dL ba (ap (dC (.int 1)) (ap (dL ba (az)) (az)))) (ap (dL ba (ap (dC (.int 2)) (ap (dL ba (ap (dC (.str [97])) (az))) (az)))) (ap (dL ba (ap (dC (.int 0)) (ap (dL ba (ap (dC (.str [])) (az))) (az)))) (ap (dL ba (ap (dC (.int 5)) (ap (dL ba (ap (dC (.str [97,97,97,97,97])) (az))) (az)))) (ap (dL ba (ap (dC (.bl ah)) (ap (dL ba (ap (dC (.str [97])) (az))) (az)))) (az)))))))))))))
 (aI (bM 2 (d2 bI (dV 2) (dF (dL eR (ap (dL ba (ap (dC (.int 1)) (ap (dL ba (ap (dC (.str [98])) (ap (dC (.str [97])) (az)))) (az)))) (ap (dL ba (ap (dC (.int 1)) (ap (d2 xQ (dL ba (ap (dC (.str [97])) (az))) (dC (.int 10))) (az)))) (ap (dL ba (ap (dC (.int 1)) (ap (dL ba (ap (dC (.str [100])) (az))) (az)))) (ap (dL ba (ap (dC (.int 1)) (ap (dL ba (ap (dC (.str [65])) (az))) (az)))) (ap (dL ba (ap (dC (.int 1)) (ap (dF (dL eR (ap (dC (.str [97])) (az)))) (az)))) (ap (dL ba (ap (dC (.int 1)) (ap (dL ba (ap (dC (.int 1)) (az))) (az)))) (az)))))))))))
 (aI (bM 2 (d2 bI (dV 2) (dF (dL eR (ap (dL ba (ap (dC (.int 1)) (az))) (ap (dL ba (ap (dC (.int 1)) (ap (dL ba (ap (dC (.str [97])) (az))) (ap (dC (.int 1)) (az))))) (ap (dL ba (ap (dC (.str [49])) (ap (dL ba (ap (dC (.str [97])) (az))) (az)))) (az))))))))
 (mo (a9 (sJ a) (gV (dV 0) (gO 1 (gV (dV 2) (cm))))))))
def zd(a:Ad):ac Slot:=bv 2 [1] (bu 1 (yaG a))
def yaK(a:Ad):ac aK:=aI (fu 1 (dL eR (ap (dL (jM (jt a)) (ap (dV 0) (ap (dC (.raw (.ref a.NoText))) (az)))) (ap (dL (jM (jt a)) (ap (dV 0) (ap (dC (.raw (.ref a.NoWidth))) (az)))) (ap (dL (jM (jt a)) (ap (dV 0) (ap (dC (.raw (.ref a.NoView))) (az)))) (ap (dL (jM (jt a)) (ap (dV 0) (ap (dC (.raw (.ref a.NoWindow))) (az)))) (az)))))))
 (aI (yz 1 (dF (dL eR (ap (dL (jM (jt a)) (ap (dV 0) (ap (dC (.raw (.ref a.Never))) (az)))) (ap (dL (jM (jt a)) (ap (dV 0) (ap (dC (.raw (.ref a.Full))) (az)))) (ap (dL (jM (jt a)) (ap (dV 0) (ap (dC (.raw (.ref a.Nothing))) (az)))) (ap (dL (jM (jt a)) (ap (dV 0) (ap (dC (.raw (.ref a.Unlike))) (az)))) (az))))))))
 (aI (yz 1 (dF (dL eR (ap (dL (jM (jt a)) (ap (dV 0) (ap (dC (.raw (.ref a.NoPlace))) (az)))) (ap (dL (jM (jt a)) (ap (dV 0) (ap (dC (.raw (.ref a.NoLetters))) (az)))) (ap (dL (jM (jt a)) (ap (dV 0) (ap (dC (.raw (.ref a.BadText))) (az)))) (az)))))))
 (aI (cO (iZ (dB (d2 (eqT ah) (sM A8 1 (dC (.bl ah))) (dC (.int 1)))) (j6 (dB (dL (jM (jt a)) (ap (dV 0) (ap (dC (.raw (.ty "ValueError"))) (az))))))) (cq (dL ba (ap (dC (.str [114,101,102,117,115,101,100])) (ap (d1 d7 (dC (.int 1))) (az))))) (dJ))
 (cq (dL ba (ap (dC (.str [114,101,102,117,115,101,100])) (ap (sM BO 1 (dC (.bl ah))) (az))))))))
def nR(a:Ad):ac Slot:=bv 1 [] (bu 1 (yaK a))
def yaQ(a:Ad):ac aK:=cq (cO (dB (d2 (eqT aj) (dL vg (ap (dV 0) (az))) (dC (.int 1)))) (d2 aR (dV 0) (dC (.int 0))) (dC (.str [46])))
def qj(a:Ad):ac Slot:=bv 1 [] (bu 0 (yaQ a))
def yaP(a:Ad):ac aK:=aI (bM 1 (bL (a9 (iQ a) (gV (dV 0) (cm)))))
 (aI (cO (dB (d2 (eqT aj) (dL bH (ap (dV 1) (az))) (dC (.int 0)))) (qh (.ref a.Never) (λb=>cg ((dC (.str [110,111,32,116,101,120,116,32,104,97,115,32,116,104,105,115,32,118,105,101,119])) b))) (dJ))
 (cq (A6 xK (dC (.str [])) (ap (dF (cW [1] (dL iK (ap (dL bH (ap (d2 aR (dV 1) (dC (.int 0))) (az))) (az))) (eh) (bL (a9 (qj a) (gV (dF (cW [0] (br (dV 1)) (eh) (d2 aR (dV 0) (dV 1)))) (cm)))))) (az)))))
def mB(a:Ad):ac Slot:=bv 1 [] (bu 1 (yaP a))
def yap(a:Ad):ac aK:=aI (jc (a9 (jQ a) (gV (dV 0) (cm))))
 (cO (dB (d2 (dE λi j=>decide (j<i)) (dL bH (ap (d2 aR (dV 0) (dC (.int 1))) (az))) (dC (.int 6)))) (qh (.ref a.Full) (λb=>cg ((dC (.str [97,32,118,105,101,119,32,116,104,97,116,32,105,115,32,115,104,97,114,101,100,32,111,117,116,32,97,109,111,110,103,32,116,101,120,116,115,32,104,97,115,32,117,112,32,116,111,32,54,32,119,105,110,100,111,119,115])) b))) (dJ))
def lE(a:Ad):ac Slot:=bv 1 [] (bu 0 (yap a))
def yaN(a:Ad):ac aK:=aI (bM 1 (dF (dL eR (ap (dL ba (ap (bP zl (dV 0) (bZ) (bN (dC (.int 1)))) (ap (dL ba (az)) (az)))) (az)))))
 (aI (λε=>cY (dR 2 (br (bP b7 (dV 0) (bN (dC (.int 1))) (bZ))) (aI (fu 3 (dL eR (az)))
 (aI (nP 4 5 (br (dV 1)) (aI (kZ 3 (dL ba (ap (d2 nW (dV 4) (dL ba (ap (dV 2) (az)))) (ap (dV 5) (az)))))
 (kZ 3 (dL ba (ap (dV 4) (ap (d2 nW (dV 5) (dL ba (ap (dV 2) (az)))) (az)))))))
 (bM 1 (dM 3)))) ε))
 (sd (cW [] (br (dF (dL sortSetDP (ap (dV 1) (az))))) (dB (d2 (dE λi j=>decide (j<i)) (dL bH (ap (d2 aR (dV 0) (dC (.int 1))) (az))) (dC (.int 0)))) (dV 0))))
def qM(a:Ad):ac Slot:=bv 1 [] (bu 5 (yaN a))
def yaM(a:Ad):ac aK:=aI (jc (a9 (lE a) (gV (dV 0) (cm))))
 (aI (fu 1 BZ)
 (aI (λb=>cY (nP 2 3 (br (bL (a9 (qM a) (gV (d2 aR (dV 0) (dC (.int 1))) (cm))))) (aI (bM 4 (bL (a9 (iQ a) (gV (dL ba (ap (d2 aR (dV 0) (dC (.int 0))) (ap (dV 3) (az)))) (cm)))))
 (dR 5 (br (bL (a9 (iQ a) (gV (dL ba (ap (d2 aR (dV 0) (dC (.int 0))) (ap (dV 2) (az)))) (cm))))) (dR 6 (br (dV 4)) (xT 1 (dL ba (ap (dL uQ (ap (dV 5) (ap (dV 6) (az)))) (ap (dL vn (ap (dV 5) (ap (dV 6) (az)))) (az)))) (dC (.bl ah)))))) b))
 (cq (dF (qG 1)))))
def nM(a:Ad):ac Slot:=bv 1 [] (bu 6 (yaM a))
end Sh
namespace L2
section
variable{X:Cx}
def Cm(K:ay):R2:=λx y H Q=>∃(a b:af) (xs c:List V),x=.ref a/\y=.ref b/\b_ K H a xs/\cL K H b c/\Q (.bl aj) H
theorem Ui(w:X.A.units+64<cLine):bT X (dX .Eq) (Cm X.K):=by
 intro z s n H x y v u Q I f d h;obtain⟨a,b,xs,o,rfl,rfl,m,l,q⟩:=h;cases f;cases d;obtain⟨j,r,g,_⟩:=I.list m;obtain⟨c,p,i,_⟩:=I.tuple l;exact(SeqAt.RcAt.list_tuple g.isList i ∅) _ _ _ _ ⟨.bl aj,H,I,rfl,q⟩
end
end L2
namespace Pu
open L2
section
variable{X:Cx}{K:ay}
def mH:PV->PV->Option PV
 |.lst _,.tup _=>aa (.bl aj)
 |x,y=>eqT aj x y
theorem Gc(a:X.A.units+64<cLine):bT X (dX .Eq) (λx y H Q=>Cm X.K x y H Q\/yX X.K x y H Q):=(Ui a).or (qT a)
theorem EO:P2 K (λx y H Q=>Cm K x y H Q\/yX K x y H Q) mH:=λF H x y v u Q pv d c e q=>by
 unfold mH at e;split at e
 .cases e;obtain⟨a,g,rfl,i,_,l⟩:=d;obtain⟨b,f,rfl,h,j⟩:=c;exact .inl ⟨a,b,g,f,rfl,rfl,.inl i,cL.of h,q _ F H (Al.refl ..) rfl⟩
 .exact .inr (qt F H _ _ _ _ Q pv d c e q)
end
end Pu
local macro_rules | `(tactic| simp! [$xs,*]) => `(tactic| simp [Pu.aI, Pu.cO, Pu.dB, Pu.d2, Pu.d1, Pu.dV, Pu.dC, Pu.dL, Pu.dF, Pu.ap, Pu.az, Pu.cq, Pu.mo, Pu.bM, Pu.fu, Pu.a9, Pu.gV, Pu.gO, Pu.cm, Pu.fA, Pu.fJ, Pu.cG, Pu.eI, Pu.fP, Pu.R.bind, Pu.aM, Pu.bv, Pu.fV, Pu.bu, Pu.back, Pu.gM, Pu.ml, Pu.o5, Pu.qg, Pu.vF, Pu.yG, Pu.bL, Pu.kX, Pu.eR, Pu.ba, Pu.dJ, Pu.zb, Pu.jc, Pu.Ig, Pu.j6, Pu.yY, Pu.Ay, Pu.iZ, Pu.oP, Pu.He, Pu.qy, Pu.dE, Pu.fR, Pu.kZ, Pu.sX, Pu.uT, Pu.imm, Pu.HD, Pu.sD, bE, ln, $xs,*])
local macro_rules | `(tactic| and_intros) => `(tactic| (refine' Pu.Vl ?a ?l ?c ?k; (case a => k_is); (case l => k_is); (case c => k_is); (case k => k_is)))
namespace K30
open L2 Pu Sh
def dI(i:Nat):a8:=PySem.Challenge.pw_slitview_k30_together_refused.main.body.getD i (.Pass ⟨0,0,0,0⟩)
abbrev Au:a8:=dI 45
abbrev Ak:a8:=dI 46
abbrev Bk:a8:=dI 47
abbrev Cj:a8:=dI 48
abbrev Cy:a8:=dI 49
abbrev A3:a8:=dI 53
abbrev AN:a8:=dI 19
abbrev Cz:a8:=dI 20
abbrev xO:a8:=dI 18
abbrev B3:a8:=dI 21
abbrev xS:a8:=dI 22
abbrev BS:a8:=dI 23
abbrev BA:a8:=dI 24
abbrev CB:a8:=dI 25
abbrev Bp:a8:=dI 35
abbrev xl:a8:=dI 36
abbrev AZ:a8:=dI 31
abbrev AE:a8:=dI 30
abbrev zg:a8:=dI 32
abbrev AF:a8:=dI 37
abbrev AB:a8:=dI 28
abbrev Ao:a8:=dI 27
abbrev yD:a8:=dI 38
abbrev vh:a8:=dI 39
abbrev Cv:a8:=dI 40
abbrev Ax:a8:=dI 41
abbrev A7:a8:=dI 42
abbrev yx:a8:=dI 43
abbrev AL:a8:=dI 54
abbrev A_:a8:=dI 50
abbrev xo:a8:=dI 51
abbrev r_:a8:=dI 55
structure dz(K:ay)(mg:Str->Option ai)(base:aB)(a:Ad):Prop where
 yaD:cU K mg "_law_cell_at" Au
 yaF:cU K mg "_law_mixed" Ak
 yaE:cU K mg "_law_draw" Bk
 yaH:cU K mg "_law_pick" Cj
 yaG:cU K mg "_law_odd" Cy
 yaK:cU K mg "_law_which" A3
 yay:cU K mg "is_whole_number" AN
 yaz:cU K mg "is_width" Cz
 yav:cU K mg "has_only" xO
 yaA:cU K mg "is_window" B3
 yan:cU K mg "are_windows" xS
 yax:cU K mg "is_view_with" BS
 yaw:cU K mg "is_view" BA
 yaq:cU K mg "check_view" CB
 yap:cU K mg "check_shared_view" Bp
 yaN:cU K mg "partings" xl
 yam:cU K mg "add_endings" AZ
 yar:cU K mg "counted" AE
 yaR:cU K mg "texts" zg
 yaM:cU K mg "pairs" AF
 yaO:cU K mg "reached_pieces" AB
 yas:cU K mg "excesses" Ao
 yat:cU K mg "fewest_for" yD
 yau:cU K mg "fewest_texts" vh
 yaL:cU K mg "least_list" Cv
 yao:cU K mg "bundle" Ax
 yaQ:cU K mg "sure_sign" A7
 yaP:cU K mg "sure" yx
 yaC:cU K mg "_law_ask" AL
 yaJ:cU K mg "_law_text" A_
 yaI:cU K mg "_law_seen" xo
 yaB:cU K mg "law" r_
 yaS:mg "ValueError"=ae
 yaT:mg "all"=ae
 yaU:mg "any"=ae
 yaV:mg "bool"=ae
 yaW:mg "int"=ae
 yaX:mg "isinstance"=ae
 yaY:mg "len"=ae
 yaZ:mg "list"=ae
 ya0:mg "max"=ae
 ya1:mg "min"=ae
 ya2:mg "range"=ae
 ya3:mg "set"=ae
 ya4:mg "sorted"=ae
 ya5:mg "str"=ae
 ya6:mg "sum"=ae
 ya7:mg "tuple"=ae
 ybb:∃t,mg "LETTERS"=aa (.str (tS [97,98,99]) t)
 ybc:∃t,mg "MOST_WINDOWS"=aa (.int 9 t)
 ybd:∃t,mg "MOST_WINDOWS_SHARED"=aa (.int 6 t)
 ybe:∃t,mg "POINT"=aa (.str (tS [46]) t)
 ybf:∃t,mg "WIDEST"=aa (.int 4 t)
 yak:mg "SlitError"=aa (.ref a.SlitError)
 yaf:mg "NoText"=aa (.ref a.NoText)
 yah:mg "NoWidth"=aa (.ref a.NoWidth)
 yag:mg "NoView"=aa (.ref a.NoView)
 yai:mg "NoWindow"=aa (.ref a.NoWindow)
 yac:mg "Never"=aa (.ref a.Never)
 yab:mg "Full"=aa (.ref a.Full)
 yaj:mg "Nothing"=aa (.ref a.Nothing)
 yal:mg "Unlike"=aa (.ref a.Unlike)
 yae:mg "NoPlace"=aa (.ref a.NoPlace)
 yad:mg "NoLetters"=aa (.ref a.NoLetters)
 yaa:mg "BadText"=aa (.ref a.BadText)
 yba:OwnCls "NoView" a.NoView [.type "ValueError",.type "Exception",.type "BaseException",.type "object"] "ValueError.__new__" mg base
 ya8:OwnCls "Full" a.Full [.type "ValueError",.type "Exception",.type "BaseException",.type "object"] "ValueError.__new__" mg base
 ya9:OwnCls "Never" a.Never [.type "ValueError",.type "Exception",.type "BaseException",.type "object"] "ValueError.__new__" mg base
 err_SlitError:qP base a.SlitError
 und:∀c,nv a c=ah->Under base a.SlitError c
 tab:AW K (jt a)
section
variable{P:aN}{w:aG}{K:ay}{c:Str->Option ai}{b:aB}{a:Ad}
theorem Ru:cy ["_law_script","_law_k"] ["_law_script","_law_k"] (a_ Au):=by ac_nf
theorem RN(G:dz K c b a):cP (cf P w) P w K c b "_law_cell_at" 1 ["_law_script","_law_k"] (bB K (sK a)) :=
 dP (k:=0) (pin:=[]) G.yaD Ru rfl (λ_ _ _ _ _ _ g i=>Pu.Vn (λ_ _=>rfl) g i) (λf j A d s H E h=>by exact
  (bg (i_ (iA HR kg (ax 1) (cQ jv jz G.yaY i8 (aw (ax 0) aH)) rfl) (bp (eG (eQ eU eV (ax 0) (ax 1)))) i6)
  (bg (i_ (iA (qT h.units) qt (ax 0) (kh aH) rfl) (bp (eG aJ)) i6)
  (bp (eG (cI fW fQ (cI Bg AT (eQ eU eV (ax 0) (cI uO vN (ax 1) (cQ jv jz G.yaY i8 (aw (ax 0) aH)))) aJ) (ax 1)))))))
theorem Qv:cy ["_law_script","_law_k","_law_many","_law_drawn"] ["_law_script","_law_k","_law_many"] (a_ Ak):=by ac_nf
theorem Kq(G:dz K c b a):cP (cf P w) P w K c b "_law_mixed" 2 ["_law_script","_law_k","_law_many"] (bB K (y6 a)) :=
 dP (k:=1) (pin:=[]) G.yaF Qv rfl (λ_ _ _ _ _ _ g i=>Pu.Vw (λ_ _ _=>rfl) g i) (λf j A d s H E h=>by exact
  (bg (fD 3 Qv.nd (cI uO vN (cI fW fQ (cI fW fQ (cI Bg AT ((cK (RN G) (h.mono (by decide)) fg (bi (ax 0) (bi (ax 1) cx)))).de aJ) (cI Bg AT aJ (ax 1))) aJ) aJ))
  (bp (eG (cI uO vN (cI uO vN (cI uO vN (cI Sx UO (ax 3) aJ) aJ) aJ) (ax 2))))))
theorem TU:cy ["_law_script","_law_town","_law_many"] ["_law_script","_law_town","_law_many"] (a_ Bk):=by ac_nf
theorem xr(G:dz K c b a):cP (cf P w) P w K c b "_law_draw" 3 ["_law_script","_law_town","_law_many"] (bB K (o7 a)) :=
 dP (k:=2) (pin:=[1]) G.yaE TU rfl (λ_ _ _ _ _ _ g i=>Pu.Vw (λ_ _ _=>rfl) g i) (λf j A d s H E h=>by exact
  (bg (ym 1 aJ)
  (bp (uF (cK (Kq G) (h.mono (by decide)) fg (bi (ax 0) (bi (Rq 1 jv jz G.yaY i8) (bi (ax 2) cx))))))))
theorem Qy:cy ["_law_script","_law_town","_law_some"] ["_law_script","_law_town","_law_some"] (a_ Cj):=by ac_nf
theorem Cs(G:dz K c b a):cP (cf P w) P w K c b "_law_pick" 4 ["_law_script","_law_town","_law_some"] (bB K (sJ a)) :=
 dP (k:=3) (pin:=[1]) G.yaH Qy rfl (λ_ _ _ _ _ _ g i=>Pu.Vw (λ_ _ _=>rfl) g i) (λf j A d s H E h=>by exact
  (bp (eG (eQ eU eV (ax 2) ((cK (xr G) (h.mono (by decide)) fg (bi (ax 0) (kQ 1 (bi (cQ jv jz G.yaY i8 (aw (ax 2) aH)) cx))))).de))))
theorem Ld:cy ["_law_script","_law_town","_law_some"] ["_law_script","_law_town"] (a_ Cy):=by ac_nf
theorem Ra(G:dz K c b a):cP (cf P w) P w K c b "_law_odd" 5 ["_law_script","_law_town"] (bB K (zd a)) :=
 dP (k:=4) (pin:=[1]) G.yaG Ld rfl (λ_ _ _ _ _ _ g i=>Pu.Vn (λ_ _=>rfl) g i) (λf j A d s H E h=>by exact
  (bg (fD 2 Ld.nd (kh (aw K2 (aw aJ (aw (et [50,58,32,97,98]) (aw (kh (aw aJ (aw (bW (aw (et [97]) aH)) aH))) (aw (bW (aw aJ (aw (bW aH) aH))) (aw (bW (aw aJ (aw (bW (aw (et [97]) aH)) aH))) (aw (bW (aw aJ (aw (bW (aw (et []) aH)) aH))) (aw (bW (aw aJ (aw (bW (aw (et [97,97,97,97,97]) aH)) aH))) (aw (bW (aw jR (aw (bW (aw (et [97]) aH)) aH))) aH)))))))))))
  (bg (fD 2 Ld.nd (cI fW fQ (ax 2) (kh (aw (bW (aw aJ (aw (bW (aw (et [98]) (aw (et [97]) aH))) aH))) (aw (bW (aw aJ (aw (cI UK Uh (bW (aw (et [97]) aH)) aJ) aH))) (aw (bW (aw aJ (aw (bW (aw (et [100]) aH)) aH))) (aw (bW (aw aJ (aw (bW (aw (et [65]) aH)) aH))) (aw (bW (aw aJ (aw (kh (aw (et [97]) aH)) aH))) (aw (bW (aw aJ (aw (bW (aw aJ aH)) aH))) aH)))))))))
  (bg (fD 2 Ld.nd (cI fW fQ (ax 2) (kh (aw (bW (aw aJ aH)) (aw (bW (aw aJ (aw (bW (aw (et [97]) aH)) (aw aJ aH)))) (aw (bW (aw (et [49]) (aw (bW (aw (et [97]) aH)) aH))) aH))))))
  (bp (uF (cK (Cs G) (h.mono (by decide)) fg (bi (ax 0) (kQ 1 (bi (ax 2) cx))))))))))
theorem MC:cy ["_law_e","_law_own"] ["_law_e"] (a_ A3):=by ac_nf
theorem Og(G:dz K c b a):xR P w K c b "_law_which" 1 ["_law_e"] (bB K (nR a)) :=
 MK (k:=0) (pin:=[]) G.yaK MC rfl (λ_ _ _ _ _ _ g i=>Pu.Vz (λ_=>rfl) g i) (λf j A d s H h=>by exact
  (bg (mF 1 MC.nd (uS (aw (cQ k_ (kW G.tab) G.yaX hV (aw (ax 0) (aw (ju G.yaf) aH))) (aw (cQ k_ (kW G.tab) G.yaX hV (aw (ax 0) (aw (ju G.yah) aH))) (aw (cQ k_ (kW G.tab) G.yaX hV (aw (ax 0) (aw (ju G.yag) aH))) (aw (cQ k_ (kW G.tab) G.yaX hV (aw (ax 0) (aw (ju G.yai) aH))) aH))))))
  (bg (Gm 1 (kh (aw (cQ k_ (kW G.tab) G.yaX hV (aw (ax 0) (aw (ju G.yac) aH))) (aw (cQ k_ (kW G.tab) G.yaX hV (aw (ax 0) (aw (ju G.yab) aH))) (aw (cQ k_ (kW G.tab) G.yaX hV (aw (ax 0) (aw (ju G.yaj) aH))) (aw (cQ k_ (kW G.tab) G.yaX hV (aw (ax 0) (aw (ju G.yal) aH))) aH))))))
  (bg (Gm 1 (kh (aw (cQ k_ (kW G.tab) G.yaX hV (aw (ax 0) (aw (ju G.yae) aH))) (aw (cQ k_ (kW G.tab) G.yaX hV (aw (ax 0) (aw (ju G.yad) aH))) (aw (cQ k_ (kW G.tab) G.yaX hV (aw (ax 0) (aw (ju G.yaa) aH))) aH)))))
  (bg (i_ ((sv (iA (su h.units) sW (Nf 1 jR) aJ rfl) (sq (oS (qW (cQ k_ (kW G.tab) G.yaX hV (aw (ax 0) (aw (qd G.yaS Si) aH)))))))).dt (bp (eG (bW (aw (et [114,101,102,117,115,101,100]) (aw (nO nH nX aJ) aH))))) i6)
  (bp (eG (bW (aw (et [114,101,102,117,115,101,100]) (aw (LA 1 jR) aH))))))))))
theorem Of:cy ["thing"] ["thing"] (a_ AN):=by ac_nf
theorem L7(G:dz K c b a):cP (cf P w) P w K c b "is_whole_number" 1 ["thing"] (bB K (nA a)) :=
 dP (k:=0) (pin:=[]) G.yay Of rfl (λ_ _ _ _ _ _ g h=>Pu.Vz (λ_=>rfl) g h) (λf j A d s H E i=>by exact
  (bp (eG (vt (cQ qb qA G.yaX hV (aw (ax 0) (aw (qd G.yaW QV) aH))) (xn (R7 (cQ qb qA G.yaX hV (aw (ax 0) (aw (qd G.yaV QI) aH)))))))))
theorem Ts:cy ["thing"] ["thing"] (a_ Cz):=by ac_nf
theorem N8(G:dz K c b a):cP (cf P w) P w K c b "is_width" 2 ["thing"] (bB K (nZ a)) :=
 dP (k:=1) (pin:=[]) G.yaz Ts rfl (λ_ _ _ _ _ _ g i=>Pu.Vz (λ_=>rfl) g i) (λf j A d s H E h=>by exact
  (bp (eG (vt ((cK (L7 G) (h.mono (by decide)) fg (bi (ax 0) cx))).de (xn (Ub uz uz kg kg aJ (ax 0) (B_ G.ybf)))))))
theorem Mn:cy ["text","signs"] ["text","signs"] (a_ xO):=by ac_nf
theorem QC(G:dz K c b a):cP (cf P w) P w K c b "has_only" 1 ["text","signs"] (bB K (y9 a)) :=
 dP (k:=0) (pin:=[]) G.yav Mn rfl (λ_ _ _ _ _ _ i l=>Pu.Vn (λ_ _=>rfl) i l) (λf o A h s H E n=>by exact
  (bp (eG (cQ (Ic rfl) IZ G.yaT IL (aw (nr (cap:=[1]) (N':=["sign","signs"]) (jr.of ["text","signs"] (a_ xO) rfl rfl (by decide +kernel)) rfl (ii (ax 0)) (λC d g m j=>by exact qe) (λC d g m j=>by exact(qR SK KR (ax 0) (ax 1) rfl))).de aH)))))
theorem Mv:cy ["thing","width","signs"] ["thing","width","signs"] (a_ B3):=by ac_nf
theorem NV(G:dz K c b a):cP (cf P w) P w K c b "is_window" 2 ["thing","width","signs"] (bB K (o4 a)) :=
 dP (k:=1) (pin:=[]) G.yaA Mv rfl (λ_ _ _ _ _ _ h i=>Pu.Vw (λ_ _ _=>rfl) h i) (λf j A d s H E g=>by exact
  (bp (eG (vt (cQ qb qA G.yaX hV (aw (ax 0) (aw (qd G.ya5 Gu) aH))) (vt (qR (qT g.units) qt (cQ jv jz G.yaY i8 (aw (ax 0) aH)) (ax 1) rfl) (xn ((cK (QC G) (g.mono (by decide)) fg (bi (ax 0) (bi (ax 2) cx)))).de))))))
theorem Sg:cy ["thing","width","signs"] ["thing","width","signs"] (a_ xS):=by ac_nf
theorem OH(G:dz K c b a):cP (cf P w) P w K c b "are_windows" 3 ["thing","width","signs"] (bB K (kb a)) :=
 dP (k:=2) (pin:=[]) G.yan Sg rfl (λ_ _ _ _ _ _ j m=>Pu.Vw (λ_ _ _=>rfl) j m) (λf o A h s H E i=>by exact
  (bg (i_ ((sv (oS (qW (cQ qb qA G.yaX hV (aw (ax 0) (aw (qd G.ya7 AV) aH))))) (sq (oS (Ms uz uz kg kg aJ (cQ jv jz G.yaY i8 (aw (ax 0) aH)) (B_ G.ybc)))))).dt (bp (eG jR)) i6)
  (bg (i_ (oS (qW (cQ (Ic rfl) IZ G.yaT IL (aw (nr (cap:=[1,2]) (N':=["window","width","signs"]) (jr.of ["thing","width","signs"] (a_ xS) rfl rfl (by decide +kernel)) rfl (ii (ax 0)) (λC d g n l=>by exact qe) (λC d g n l=>by exact((cK (NV G) (i.mono (by decide)) jy (bi (ax 0) (bi (ax 1) (bi (ax 2) cx))))).de)).de aH)))) (bp (eG jR)) i6)
  (bp (eG (qR (qT i.units) qt (OO Ux Qi G.yaZ M8 (aw (ax 0) aH)).de (Fg Fc Ir G.ya4 u_ (aw (ax 0) aH)).de rfl))))))
theorem KB:cy ["thing","signs"] ["thing","signs"] (a_ BS):=by ac_nf
theorem Mw(G:dz K c b a):cP (cf P w) P w K c b "is_view_with" 4 ["thing","signs"] (bB K (iI a)) :=
 dP (k:=3) (pin:=[]) G.yax KB rfl (λ_ _ _ _ _ _ h i=>Pu.Vn (λ_ _=>rfl) h i) (λf j A d s H E g=>by exact
  (bg (i_ ((sv (oS (qW (cQ qb qA G.yaX hV (aw (ax 0) (aw (qd G.ya7 AV) aH))))) (sq (iA (su g.units) sW (cQ jv jz G.yaY i8 (aw (ax 0) aH)) aJ rfl)))).dt (bp (eG jR)) i6)
  (bp (eG (vt ((cK (N8 G) (g.mono (by decide)) fg (bi (eQ eU eV (ax 0) aJ) cx))).de (xn ((cK (OH G) (g.mono (by decide)) fg (bi (eQ eU eV (ax 0) aJ) (bi (eQ eU eV (ax 0) aJ) (bi (ax 1) cx))))).de))))))
theorem LH:cy ["thing"] ["thing"] (a_ BA):=by ac_nf
theorem R_(G:dz K c b a):cP (cf P w) P w K c b "is_view" 5 ["thing"] (bB K (ke a)) :=
 dP (k:=4) (pin:=[]) G.yaw LH rfl (λ_ _ _ _ _ _ g i=>Pu.Vz (λ_=>rfl) g i) (λf j A d s H E h=>by exact
  (bp (uF (cK (Mw G) (h.mono (by decide)) fg (bi (ax 0) (bi (Cc G.ybb) cx))))))
theorem UC:cy ["thing"] ["thing"] (a_ CB):=by ac_nf
theorem B6(G:dz K c b a):cP (cf P w) P w K c b "check_view" 6 ["thing"] (bB K (jQ a)) :=
 dP (k:=5) (pin:=[]) G.yaq UC rfl (λ_ _ _ _ _ _ g i=>Pu.Vz (λ_=>rfl) g i) (λf j A d s H E h=>by exact
  (bp (i_ (oS (qW ((cK (R_ G) (h.mono (by decide)) fg (bi (ax 0) cx))).de)) (bp (Bw Aw rfl G.yba JY (et [97,32,118,105,101,119,32,105,115,32,97,32,116,117,112,108,101,32,111,102,32,97,32,119,105,100,116,104,32,97,110,100,32,97,32,114,105,115,105,110,103,32,116,117,112,108,101,32,111,102,32,49,32,116,111,32,57,32,119,105,110,100,111,119,115]))) i6)))
theorem O6:cy ["view"] ["view"] (a_ Bp):=by ac_nf
theorem Ez(G:dz K c b a):cP (cf P w) P w K c b "check_shared_view" 7 ["view"] (bB K (lE a)) :=
 dP (k:=6) (pin:=[]) G.yap O6 rfl (λ_ _ _ _ _ _ g i=>Pu.Vz (λ_=>rfl) g i) (λf j A d s H E h=>by exact
  (bg (p9 (cK (B6 G) (h.mono (by decide)) fg (bi (ax 0) cx)))
  (bp (i_ (iA sF kg (cQ jv jz G.yaY i8 (aw (eQ eU eV (ax 0) aJ) aH)) (B_ G.ybd) rfl) (bp (Bw Aw rfl G.ya8 JY (et [97,32,118,105,101,119,32,116,104,97,116,32,105,115,32,115,104,97,114,101,100,32,111,117,116,32,97,109,111,110,103,32,116,101,120,116,115,32,104,97,115,32,117,112,32,116,111,32,54,32,119,105,110,100,111,119,115]))) i6))))
theorem TY:cy ["windows","ways","window","longer","part","rest"] ["windows"] (a_ xl):=by ac_nf
theorem N7(G:dz K c b a):cP (cf P w) P w K c b "partings" 1 ["windows"] (bB K (qM a)) :=
 dP (k:=0) (pin:=[]) G.yaN TY rfl (λ_ _ _ _ _ _ i m=>Pu.Vz (λ_=>rfl) i m) (λf o A h s H E l=>by exact
  (bg (fD 1 TY.nd (kh (aw (bW (aw (h_ Pp K7 (ax 0) iG (gJ aJ)) (aw (bW aH) aH))) aH)))
  (bg (mv (mx 2 kC rfl TY.nd (ii (h_ ij gU (ax 0) (gJ aJ) iG)) (bg (mF 3 TY.nd (uS aH))
  (bg (IC 4 5 kC rfl TY.nd (ii (ax 1)) (bg (ym 3 (bW (aw (cI E9 GR (ax 4) (bW (aw (ax 2) aH))) (aw (ax 5) aH))))
  (bp (ym 3 (bW (aw (ax 4) (aw (cI E9 GR (ax 5) (bW (aw (ax 2) aH))) aH)))))))
  (bp (fD 1 TY.nd (Up 3)))))))
  (bp (OK (nr (cap:=[]) (N':=["way"]) (jr.of ["windows","ways","window","longer","part","rest"] (a_ xl) rfl rfl (by decide +kernel)) rfl (ii (dn_sortSetD l.units rfl (aw (ax 1) aH) G.ya4 G.ya3).de) (λC d g n j=>by exact yk (iA sF kg (cQ jv jz G.yaY i8 (aw (eQ eU eV (ax 0) aJ) aH)) aJ rfl)) (λC d g n j=>by exact(ax 0))))))))
theorem E4:cy ["text","width","left","found","head","letter","window"] ["text","width","left","found"] (a_ AZ):=by ac_nf
theorem OZ(G:dz K c b a)(m:Nat):cP (cf P w) P w K c b "add_endings" (1+m) ["text","width","left","found"] (bB K (o6 a m)):=by
 induction m with
 |zero=>exact dP (k:=0) (pin:=[2,3]) G.yam E4 rfl (λ_ _ _ _ _ _ h i=>Pu.VJ (λ_ _ _ _=>rfl) h i) (λf l A d s H E g=>Ip)
 |succ m j=>exact dP (k:=1+m) (pin:=[2,3]) G.yam E4 rfl (λ_ _ _ _ _ _ h i=>Pu.VJ (λ_ _ _ _=>rfl) h i) (λf l A d s H E g=>by exact
  (bg (i_ (oS (qW (P9 2 rfl G.yaU))) (bg (ym 3 (ax 0))
  (bp TN)) i6)
  (bg (fD 4 E4.nd (h_ ij gU (ax 0) (gJ (cI fW fQ (cI uG uJ (cQ jv jz G.yaY i8 (aw (ax 0) aH)) (ax 1)) aJ)) iG))
  (bp (mv (mx 5 kC rfl E4.nd (ii (Cc G.ybb)) (bg (fD 6 E4.nd (cI fW fQ (ax 4) (ax 5)))
  (bp (i_ (iA sF kg (yO 2 g.units (ax 6) aJ) aJ rfl) (bg (qU 2 g.units (ax 6) (cI uG uJ (Gh 2 g.units (ax 6)) aJ))
  (bg (p9 (cK j (g.mono ∅) jy (bi (cI fW fQ (ax 0) (ax 5)) (bi (ax 1) (kQ 2 (kQ 3 cx))))))
  (bp (qU 2 g.units (ax 6) (cI fW fQ (Gh 2 g.units (ax 6)) aJ))))) i6)))))))))
theorem Ln:cy ["windows","counts","window"] ["windows"] (a_ AE):=by ac_nf
theorem M4(G:dz K c b a):cP (cf P w) P w K c b "counted" 1 ["windows"] (bB K (vK a)) :=
 dP (k:=0) (pin:=[]) G.yar Ln rfl (λ_ _ _ _ _ _ h i=>Pu.Vz (λ_=>rfl) h i) (λf j A d s H E g=>by exact
  (bg (mF 1 Ln.nd (Fi))
  (bg (mv (mx 2 kC rfl Ln.nd (ii (ax 0)) (bp (qU 1 g.units (ax 2) (cI fW fQ (yO 1 g.units (ax 2) aJ) aJ)))))
  (bp (yy 1)))))
theorem UE:cy ["view","width","found","head"] ["view"] (a_ zg):=by ac_nf
theorem xv(G:dz K c b a):cP (cf P w) P w K c b "texts" 14 ["view"] (bB K (iQ a)) :=
 dP (k:=13) (pin:=[]) G.yaR UE rfl (λ_ _ _ _ _ _ j m=>Pu.Vz (λ_=>rfl) j m) (λf o A h s H E i=>by exact
  (bg (p9 (cK (B6 G) (i.mono (by decide)) fg (bi (ax 0) cx)))
  (bg (fD 1 UE.nd (eQ eU eV (ax 0) aJ))
  (bg (mF 2 UE.nd (uS aH))
  (bg (mv (mx 3 kC rfl UE.nd (ii (NA rfl (aw (nr (cap:=[]) (N':=["window"]) (jr.of ["view","width","found","head"] (a_ zg) rfl rfl (by decide +kernel)) rfl (ii (eQ eU eV (ax 0) aJ)) (λC d g n l=>by exact qe) (λC d g n l=>by exact(h_ ij gU (ax 0) iG (gJ (nO nH nX aJ))))).de aH) G.ya4 G.ya3).de) (bp (p9 (Sk (OZ G 12) (i.mono (by decide)) jy (EN (ax 3) (EN (ax 1) (Nw (((cK (M4 G) (i.mono (by decide)) jy (bi (eQ eU eV (ax 0) aJ) cx))).dn) (kQ 2 cx)))))))))
  (bp (yy 2)))))))
theorem KY:cy ["view","found","part","rest","others","one","other"] ["view"] (a_ AF):=by ac_nf
theorem Oe(G:dz K c b a):cP (cf P w) P w K c b "pairs" 15 ["view"] (bB K (nM a)) :=
 dP (k:=14) (pin:=[]) G.yaM KY rfl (λ_ _ _ _ _ _ h i=>Pu.Vz (λ_=>rfl) h i) (λf j A g s H E d=>by exact
  (bg (p9 (cK (Ez G) (d.mono (by decide)) fg (bi (ax 0) cx)))
  (bg (mF 1 KY.nd Np)
  (bg (mv (IC 2 3 kC rfl KY.nd (ii ((cK (N7 G) (d.mono (by decide)) jy (bi (eQ eU eV (ax 0) aJ) cx))).de) (bg (fD 4 KY.nd ((cK (xv G) (d.mono (by decide)) jy (bi (bW (aw (eQ eU eV (ax 0) aJ) (aw (ax 3) aH))) cx))).de)
  (bp (mx 5 kC rfl KY.nd (ii ((cK (xv G) (d.mono (by decide)) jy (bi (bW (aw (eQ eU eV (ax 0) aJ) (aw (ax 2) aH))) cx))).de) (bp (mx 6 kC rfl KY.nd (ii (ax 4)) (bp (UF 1 d.units (bW (aw (cQ (Tl rfl) MQ G.ya1 Kj (aw (ax 5) (aw (ax 6) aH))) (aw (cQ (Td rfl) KZ G.ya0 Gd (aw (ax 5) (aw (ax 6) aH))) aH))) jR)))))))))
  (bp (eG (T_ 1 d.units rfl G.ya4).de))))))
theorem TR:cy ["windows","reached","known","window"] ["windows"] (a_ AB):=by ac_nf
theorem Sl(G:dz K c b a):cP (cf P w) P w K c b "reached_pieces" 1 ["windows"] (bB K (vo a)) :=
 dP (k:=0) (pin:=[]) G.yaO TR rfl (λ_ _ _ _ _ _ h i=>Pu.Vz (λ_=>rfl) h i) (λf j A g s H E d=>by exact
  (bg (mF 1 TR.nd (NQ (h_ ij gU (eQ eU eV (ax 0) aJ) iG (gJ (nO nH nX aJ))) jR))
  (bg (fD 2 TR.nd aJ)
  (bg (mv (GF (λ_=>1000) kC (iA HR kg (ax 2) (HW 1 G.yaY) rfl) (bg (fD 2 TR.nd (HW 1 G.yaY))
  (bp (mx 3 kC rfl TR.nd (ii (ax 0)) (bp (i_ ((sv (Bl 1 d.units (h_ ij gU (ax 3) iG (gJ (nO nH nX aJ)))) (sq (Bl 1 d.units (h_ ij gU (ax 3) (gJ aJ) iG))))).dt (bg (qU 1 d.units (h_ ij gU (ax 3) iG (gJ (nO nH nX aJ))) jR)
  (bp (qU 1 d.units (h_ ij gU (ax 3) (gJ aJ) iG) jR))) i6)))))))
  (bp (yy 1))))))
theorem Ot:cy ["windows","excess","window"] ["windows"] (a_ Ao):=by ac_nf
theorem Rs(G:dz K c b a):cP (cf P w) P w K c b "excesses" 1 ["windows"] (bB K (xu a)) :=
 dP (k:=0) (pin:=[]) G.yas Ot rfl (λ_ _ _ _ _ _ h i=>Pu.Vz (λ_=>rfl) h i) (λf j A g s H E d=>by exact
  (bg (mF 1 Ot.nd (Fi))
  (bg (mv (mx 2 kC rfl Ot.nd (ii (ax 0)) (bg (qU 1 d.units (h_ ij gU (ax 2) iG (gJ (nO nH nX aJ))) (cI fW fQ (yO 1 d.units (h_ ij gU (ax 2) iG (gJ (nO nH nX aJ))) aJ) aJ))
  (bp (qU 1 d.units (h_ ij gU (ax 2) (gJ aJ) iG) (cI uG uJ (yO 1 d.units (h_ ij gU (ax 2) (gJ aJ) iG) aJ) aJ))))))
  (bp (yy 1)))))
theorem Lj:cy ["windows","excess"] ["windows"] (a_ yD):=by ac_nf
theorem K6(G:dz K c b a):cP (cf P w) P w K c b "fewest_for" 2 ["windows"] (bB K (ze a)) :=
 dP (k:=1) (pin:=[]) G.yat Lj rfl (λ_ _ _ _ _ _ g i=>Pu.Vz (λ_=>rfl) g i) (λf j A d s H E h=>by exact
  (bg (mF 1 Lj.nd (((cK (Rs G) (h.mono (by decide)) fg (bi (ax 0) cx))).dn))
  (bp (eG (cQ (PZ rfl) M9 G.ya0 Gd (aw aJ (aw (cQ (LZ rfl) OP G.ya6 rfl (aw (TV 1 (jr.of ["windows","excess"] (a_ yD) rfl rfl (by decide +kernel)) rfl).de aH)) aH)))))))
theorem Sn:cy ["view","left","count","reached"] ["view"] (a_ vh):=by ac_nf
theorem HP(G:dz K c b a):cP (cf P w) P w K c b "fewest_texts" 7 ["view"] (bB K (j9 a)) :=
 dP (k:=6) (pin:=[]) G.yau Sn rfl (λ_ _ _ _ _ _ m n=>Pu.Vz (λ_=>rfl) m n) (λf o A j s H E h=>by exact
  (bg (p9 (cK (B6 G) (h.mono (by decide)) fg (bi (ax 0) cx)))
  (bg (fD 1 Sn.nd (eQ eU eV (ax 0) aJ))
  (bg (fD 2 Sn.nd aJ)
  (bg (mv (GF (λ_=>1000) kC (iA sF kg (cQ jv jz G.yaY i8 (aw (ax 1) aH)) aJ rfl) (bg (mF 3 Sn.nd (((cK (Sl G) (h.mono (by decide)) jy (bi (ax 1) cx))).dn))
  (bg (fD 2 Sn.nd (cI fW fQ (ax 2) ((cK (K6 G) (h.mono (by decide)) jy (bi (nr (cap:=[3]) (N':=["window","reached"]) (jr.of ["view","left","count","reached"] (a_ vh) rfl rfl (by decide +kernel)) rfl (ii (ax 1)) (λC d g l i=>by exact yk (Bl 1 h.units (h_ ij gU (ax 0) iG (gJ (nO nH nX aJ))))) (λC d g l i=>by exact(ax 0))).de cx))).de))
  (bp (Ew 1 Sn.nd (cap:=[3]) (N':=["window","reached"]) (jr.of ["view","left","count","reached"] (a_ vh) rfl rfl (by decide +kernel)) rfl (ii (ax 1)) (λC d g l i=>by exact yk (Pq 1 h.units (h_ ij gU (ax 0) iG (gJ (nO nH nX aJ))))) (λC d g l i=>by exact(ax 0))))))))
  (bp (eG (ax 2))))))))
def yaL(a:Ad):ac aK:=aI (cO (dB (d2 (eqT aj) (dV 2) (dC (.int 1)))) (cq (bP b7 (bL (a9 (iQ a) (gV (dL ba (ap (dV 1) (ap (dV 0) (az)))) (cm)))) (bZ) (bN (dC (.int 1))))) (dJ))
 (dNever)
def sj(a:Ad):ac Slot:=bv 3 [] (bu 5 (yaL a))
theorem Py:cy ["windows","width","count","lists","part","rest","least","others"] ["windows","width","count"] (a_ Cv):=by ac_nf
theorem K4(G:dz K c b a):cP (cf P w) P w K c b "least_list" 15 ["windows","width","count"] (bB K (sj a)) :=
 dP (k:=14) (pin:=[]) G.yaL Py rfl (λ_ _ _ _ _ _ h i=>Pu.Vw (λ_ _ _=>rfl) h i) (λf j A d s H E g=>by exact
  (bg (i_ (iA (qT g.units) qt (ax 2) aJ rfl) (bp (eG (h_ ij gU ((cK (xv G) (g.mono (by decide)) fg (bi (bW (aw (ax 1) (aw (ax 0) aH))) cx))).de iG (gJ aJ)))) i6)
  Ip))
def yao(a:Ad):ac aK:=aI (jc (a9 (lE a) (gV (dV 0) (cm))))
 (mo (a9 (sj a) (gV (d2 aR (dV 0) (dC (.int 1))) (gV (d2 aR (dV 0) (dC (.int 0))) (gV (bL (a9 (j9 a) (gV (dV 0) (cm)))) (cm))))))
def nK(a:Ad):ac Slot:=bv 1 [] (bu 0 (yao a))
theorem Uc:cy ["view"] ["view"] (a_ Ax):=by ac_nf
theorem SV(G:dz K c b a):cP (cf P w) P w K c b "bundle" 16 ["view"] (bB K (nK a)) :=
 dP (k:=15) (pin:=[]) G.yao Uc rfl (λ_ _ _ _ _ _ h i=>Pu.Vz (λ_=>rfl) h i) (λf j A d s H E g=>by exact
  (bg (p9 (cK (Ez G) (g.mono (by decide)) fg (bi (ax 0) cx)))
  (bp (uF (cK (K4 G) (g.mono (by decide)) fg (bi (eQ eU eV (ax 0) aJ) (bi (eQ eU eV (ax 0) aJ) (bi ((cK (HP G) (g.mono (by decide)) fg (bi (ax 0) cx))).de cx))))))))
theorem Sv:cy ["letters"] ["letters"] (a_ A7):=by ac_nf
theorem Lp(G:dz K c b a):cP (cf P w) P w K c b "sure_sign" 1 ["letters"] (bB K (qj a)) :=
 dP (k:=0) (pin:=[]) G.yaQ Sv rfl (λ_ _ _ _ _ _ g i=>Pu.Vz (λ_=>rfl) g i) (λf j A d s H E h=>by exact
  (bp (eG (Qu (iA (qT h.units) qt (O3 rfl (aw (ax 0) aH) G.yaY G.ya3) aJ rfl) (eQ eU eV (ax 0) aJ) (Cc G.ybe)))))
theorem Sy:cy ["view","having"] ["view"] (a_ yx):=by ac_nf
theorem RE(G:dz K c b a):cP (cf P w) P w K c b "sure" 15 ["view"] (bB K (mB a)) :=
 dP (k:=14) (pin:=[]) G.yaP Sy rfl (λ_ _ _ _ _ _ m n=>Pu.Vz (λ_=>rfl) m n) (λf o A i s H E j=>by exact
  (bg (fD 1 Sy.nd ((cK (xv G) (j.mono (by decide)) fg (bi (ax 0) cx))).de)
  (bg (i_ (iA (qT j.units) qt (cQ jv jz G.yaY i8 (aw (ax 1) aH)) aJ rfl) (bp (Bw Aw rfl G.ya9 JY (et [110,111,32,116,101,120,116,32,104,97,115,32,116,104,105,115,32,118,105,101,119]))) i6)
  (bp (eG (OC PySem.F.slot_str_join PySem.F.type_str_join MN P6 (et []) (aw (nr (cap:=[1]) (N':=["place","having"]) (jr.of ["view","having"] (a_ yx) rfl rfl (by decide +kernel)) rfl (uP G.ya2 (aw (cQ jv jz G.yaY i8 (aw (eQ eU eV (ax 1) aJ) aH)) aH)) (λC d g l h=>by exact qe) (λC d g l h=>by exact((cK (Lp G) (j.mono (by decide)) jy (bi (nr (cap:=[0]) (N':=["text","place"]) (jr.of ["place","having"] ({kind:=.function,names:=[(".0",.local),("place",.cell),("sure_sign",.globalImplicit),("having",.cell)],isGenerator:=aj,isCoroutine:=aj}:d9) rfl rfl (by decide +kernel)) rfl (ii (ax 1)) (λC d g l h=>by exact qe) (λC d g l h=>by exact(eQ eU eV (ax 0) (ax 1)))).de cx))).de)).de aH)))))))
def yaC(a:Ad):ac aK:=sR 2 (nv a) (sm (nM a) (j9 a) (nK a) (mB a) (dV 0) (gV (dV 1) (cm))) (mo (λd=>cg (a9 (nR a) (gV (dV 2) (cm)) d)))
def ja(a:Ad):ac Slot:=bv 2 [] (bu 1 (yaC a))
theorem Tz:cy ["_law_what","_law_thing","_law_e"] ["_law_what","_law_thing"] (a_ AL):=by ac_nf
theorem Fv(G:dz K c b a):cP (cf P w) P w K c b "_law_ask" 17 ["_law_what","_law_thing"] (bB K (ja a)) :=
 dP (k:=16) (pin:=[]) G.yaC Tz rfl (λ_ _ _ _ _ _ j l=>Pu.Vn (λ_ _=>rfl) j l) (λf m A g s H E d=>by
  have h:=λi=>eT.hand (v:=aa (.ref i)) d;exact
  (bp (NZ 2 Tz.nd (K_ (Oe G) (HP G) (SV G) (RE G) (d.mono (by decide)) (d.mono (by decide)) (d.mono (by decide)) (d.mono (by decide)) (ax 0) (bi (ax 1) cx)) G.yak G.err_SlitError G.und (λi=>by exact(bp (uF (P3 (Og G) ((h i).mono (by decide)) (bi (ax 2) cx))))))))
theorem Uz:cy ["_law_script","_law_town","_law_low","_law_most","_law_few","_law_made","_law_k"] ["_law_script","_law_town","_law_low","_law_most"] (a_ A_):=by ac_nf
theorem Mb(G:dz K c b a):cP (cf P w) P w K c b "_law_text" 5 ["_law_script","_law_town","_law_low","_law_most"] (bB K (xG a)) :=
 dP (k:=4) (pin:=[1]) G.yaJ Uz rfl (λ_ _ _ _ _ _ h i=>Pu.VJ (λ_ _ _ _=>rfl) h i) (λf j A d s H E g=>by exact
  (bg (fD 4 Uz.nd ((cK (Cs G) (g.mono (by decide)) fg (bi (ax 0) (kQ 1 (bi (kh (aw aJ (aw aJ (aw aJ (aw aJ (aw aJ (aw aJ aH))))))) cx))))).de)
  (bg (fD 5 Uz.nd (et []))
  (bg (mv (mx 6 kC rfl Uz.nd (uP G.ya2 (aw (cI fW fQ (ax 2) ((cK (xr G) (g.mono (by decide)) jy (bi (ax 0) (kQ 1 (bi (cI fW fQ (cI uG uJ (ax 3) (ax 2)) aJ) cx))))).de) aH)) (bp (fD 5 Uz.nd (cI fW fQ (ax 5) (eQ eU eV (et [97,98,99]) ((cK (xr G) (g.mono (by decide)) jy (bi (ax 0) (kQ 1 (bi (ax 4) cx))))).de))))))
  (bp (eG (ax 5)))))))
theorem S7:cy ["_law_text_here","_law_width"] ["_law_text_here","_law_width"] (a_ xo):=by ac_nf
theorem Le(G:dz K c b a):cP (cf P w) P w K c b "_law_seen" 1 ["_law_text_here","_law_width"] (bB K (uZ a)) :=
 dP (k:=0) (pin:=[]) G.yaI S7 rfl (λ_ _ _ _ _ _ i l=>Pu.Vn (λ_ _=>rfl) i l) (λf o A h s H E n=>by exact
  (bp (eG (UD SC SR G.ya7 AV (aw (Fg Fc Ir G.ya4 u_ (aw (nr (cap:=[0,1]) (N':=["_law_at","_law_text_here","_law_width"]) (jr.of ["_law_text_here","_law_width"] (a_ xo) rfl rfl (by decide +kernel)) rfl (uP G.ya2 (aw (cQ jv jz G.yaY i8 (aw (ax 0) aH)) aH)) (λC d g m j=>by exact yk (iA uz kg (cI fW fQ (ax 0) (ax 2)) (cQ jv jz G.yaY i8 (aw (ax 1) aH)) rfl)) (λC d g m j=>by exact(h_ ij gU (ax 1) (gJ (ax 0)) (gJ (cI fW fQ (ax 0) (ax 2)))))).de aH)).de aH)))))
def yaB(a:Ad):ac aK:=aI (fu 1 (dL eR (az)))
 (aI (bM 2 (bL (a9 (sJ a) (gV (dV 0) (gO 1 (gV (dF (dL eR (ap (bL (a9 (zd a) (gV (dV 0) (gO 1 (cm))))) (ap (dL ba (ap (dC (.int 1)) (ap (dL ba (ap (dC (.str [46])) (az))) (az)))) (ap (dL ba (ap (dC (.int 2)) (ap (dL ba (ap (dC (.str [97,46])) (ap (dC (.str [97,98])) (az)))) (az)))) (az)))))) (cm)))))))
 (aI (cO (dB (d2 (eqT ah) (dF (cW [2] (dL iK (ap (dC (.int 4)) (az))) (eh) (bL (a9 (ja a) (gV (dV 0) (gV (dV 1) (cm))))))) (d2 yc (dF (dL eR (ap (dL ba (ap (dC (.str [114,101,102,117,115,101,100])) (ap (dC (.int 2)) (az)))) (az)))) (dC (.int 4))))) (cq (dC (.bl aj))) (dJ))
 (aI (bM 3 (d2 bI (dC (.int 2)) (bL (a9 (o7 a) (gV (dV 0) (gO 1 (gV (dC (.int 3)) (cm))))))))
 (aI (bM 4 (bL (a9 (xG a) (gV (dV 0) (gO 1 (gV (d2 bI (dV 3) (dC (.int 8))) (gV (d2 bI (dV 3) (dC (.int 8))) (cm))))))))
 (aI (λd=>cY (dR 5 (br (dL ba (ap (dC (.int 1)) (ap (dC (.int 5)) (ap (dC (.int 6)) (ap (dC (.int 7)) (ap (dC (.int 9)) (az)))))))) (aI (bM 6 (dL ba (ap (dV 3) (ap (bL (a9 (uZ a) (gV (bP b7 (dV 4) (bZ) (bN (d2 jx (d2 bI (dV 3) (dV 5)) (dC (.int 1))))) (gV (dV 3) (cm))))) (az)))))
 (aI (bM 7 (dF (cW [6] (dL iK (ap (dC (.int 4)) (az))) (eh) (bL (a9 (ja a) (gV (dV 0) (gV (dV 1) (cm))))))))
 (aI (cO (iZ (dB (d2 (eqT ah) (d2 mH (d2 aR (dV 7) (dC (.int 0))) (dL ba (ap (dC (.str [114,101,102,117,115,101,100])) (ap (dC (.int 5)) (az))))) (d2 (dE λi j=>decide (j<i)) (dV 5) (dC (.int 6))))) (dB (d2 (eqT ah) (d2 mH (d2 aR (dV 7) (dC (.int 2))) (dL ba (ap (dC (.str [114,101,102,117,115,101,100])) (ap (dC (.int 5)) (az))))) (d2 (dE λi j=>decide (j<i)) (dV 5) (dC (.int 6)))))) (cq (dC (.bl aj))) (dJ))
 (cO (iZ (dB (d2 (eqT ah) (d2 aR (dV 7) (dC (.int 1))) (dC (.int 1)))) (j6 (dB (dL eu (ap (d2 aR (dV 7) (dC (.int 3))) (ap (dC (.raw (.ty "str"))) (az))))))) (cq (dC (.bl aj))) (dJ))))) d))
 (cq (dC (.bl ah))))))))
def uR(a:Ad):ac Slot:=bv 1 [] (bu 7 (yaB a))
theorem P8:cy ["_law_script","_law_town","_law_odd_here","_law_width","_law_text_here","_law_many","_law_asked","_law_told"] ["_law_script"] (a_ r_):=by ac_nf
theorem Px(G:dz K c b a){f:af}{m:gh}(p:qr K "law" "law" r_ f m):jP P w K c b (cf P w) 18 f m ["_law_script"] (bB K (uR a)) :=
 On (k:=17) (pin:=[]) p P8 rfl (λ_ _ _ _ _ _ n o=>Pu.Vz (λ_=>rfl) n o) (λf q A j s H E d=>by exact
  (bg (mF 1 P8.nd (uS aH))
  (bg (fD 2 P8.nd ((cK (Cs G) (d.mono (by decide)) fg (bi (ax 0) (kQ 1 (bi (kh (aw ((cK (Ra G) (d.mono (by decide)) fg (bi (ax 0) (kQ 1 cx)))).de (aw (bW (aw aJ (aw (bW (aw (et [46]) aH)) aH))) (aw (bW (aw aJ (aw (bW (aw (et [97,46]) (aw (et [97,98]) aH))) aH))) aH)))) cx))))).de)
  (bg (i_ (iA (su d.units) sW (nr (cap:=[2]) (N':=["_law_what","_law_odd_here"]) (jr.of ["_law_script","_law_town","_law_odd_here","_law_width","_law_text_here","_law_many","_law_asked","_law_told"] (a_ r_) rfl rfl (by decide +kernel)) rfl (uP G.ya2 (aw aJ aH)) (λC g h l i=>by exact qe) (λC g h l i=>by exact((cK (Fv G) (d.mono (by decide)) jy (bi (ax 0) (bi (ax 1) cx)))).de)).de (cI L4 SH (kh (aw (bW (aw (et [114,101,102,117,115,101,100]) (aw aJ aH))) aH)) aJ) rfl) (bp (eG jR)) i6)
  (bg (fD 3 P8.nd (cI fW fQ aJ ((cK (xr G) (d.mono (by decide)) fg (bi (ax 0) (kQ 1 (bi aJ cx))))).de))
  (bg (fD 4 P8.nd ((cK (Mb G) (d.mono (by decide)) fg (bi (ax 0) (kQ 1 (bi (cI fW fQ (ax 3) aJ) (bi (cI fW fQ (ax 3) aJ) cx)))))).de)
  (bg (mv (mx 5 kC rfl P8.nd (ii (bW (aw aJ (aw aJ (aw aJ (aw aJ (aw aJ aH))))))) (bg (fD 6 P8.nd (bW (aw (ax 3) (aw ((cK (Le G) (d.mono (by decide)) jy (bi (h_ ij gU (ax 4) iG (gJ (cI uG uJ (cI fW fQ (ax 3) (ax 5)) aJ))) (bi (ax 3) cx)))).de aH))))
  (bg (Ew 7 P8.nd (cap:=[6]) (N':=["_law_what","_law_asked"]) (jr.of ["_law_script","_law_town","_law_odd_here","_law_width","_law_text_here","_law_many","_law_asked","_law_told"] (a_ r_) rfl rfl (by decide +kernel)) rfl (uP G.ya2 (aw aJ aH)) (λC g h l i=>by exact qe) (λC g h l i=>by exact((cK (Fv G) (d.mono (by decide)) jy (bi (ax 0) (bi (ax 1) cx)))).de))
  (bg (i_ ((sv (iA (su d.units) sW (qR (Gc d.units) EO (eQ eU eV (ax 7) aJ) (bW (aw (et [114,101,102,117,115,101,100]) (aw aJ aH))) rfl) (qR sF kg (ax 5) aJ rfl) rfl) (sq (iA (su d.units) sW (qR (Gc d.units) EO (eQ eU eV (ax 7) aJ) (bW (aw (et [114,101,102,117,115,101,100]) (aw aJ aH))) rfl) (qR sF kg (ax 5) aJ rfl) rfl)))).dt (bp (eG jR)) i6)
  (bp (i_ ((sv (iA (su d.units) sW (eQ eU eV (ax 7) aJ) aJ rfl) (sq (oS (qW (cQ qb qA G.yaX hV (aw (eQ eU eV (ax 7) aJ) (aw (qd G.ya5 Gu) aH)))))))).dt (bp (eG jR)) i6)))))))
  (bp (eG jR)))))))))
end
end K30
namespace Mx
open L2 Pu
def ce:Tx:=[97,98,99]
def e_:Nat->List Tx
 |0=>[[]]
 |k+1=>ce.flatMap λc=>(e_ k).map (c::·)
theorem o0:∀(k:Nat) (x:Tx),x∈e_ k↔x.length=k/\∀c∈x,c∈ce
 |0,x=>by
  simp only[e_,gH];constructor
  .rintro rfl;simp
  .rintro⟨h,_⟩;exact JZ.mp h
 |k+1,x=>by
  simp only[e_,J0,b8];constructor
  .rintro⟨c,i,y,g,rfl⟩;obtain⟨f,b⟩:=(o0 k y).mp g;refine⟨by simp[f],λd a=>?_⟩;rcases bn.mp a with rfl|a
   .exact i
   .exact b d a
  .rintro⟨f,b⟩;cases x with
   |nil=>cases f
   |cons c y=>exact⟨c,b c (by simp),y,(o0 k y).mpr ⟨Do f,λd a=>b d (by simp[a])⟩,rfl⟩
theorem Ch:∀k:Nat,(e_ k).length=3^k
 |0=>rfl
 |k+1=>by simp only[e_,ce,ud,J1,fz,cN,Ch k,mT,rA];lia
theorem Pw(i j:Nat):e_ (i+j)=(e_ i).flatMap λh=>(e_ j).map (h++·):=by
 induction i with
 |zero=>simp[e_]
 |succ i a=>rw[show i+1+j=(i+j)+1 by lia];simp only[e_,a,List.flatMap_assoc,List.map_flatMap,List.flatMap_map,dA,t_,Dw]
theorem B5:∀k:Nat,(e_ k).Pairwise (λa b=>a<b)
 |0=>by simp[e_]
 |k+1=>by
  simp only[e_];rw[List.pairwise_flatMap];refine⟨λc _=>?_,?_⟩
  .rw[tR];exact(B5 k).imp λh=>DL.mpr (.inr ⟨rfl,h⟩)
  .have:ce.Pairwise (λa b=>a<b):=by decide
   refine this.imp λh=>?_;intro x f y d;obtain⟨i,_,rfl⟩:=b8.mp f;obtain⟨g,_,rfl⟩:=b8.mp d;exact DL.mpr (.inl h)
theorem Kz{a b:Tx}(h:a<b):dU a b=ah:=by simp only[dU,decide_eq_true_eq];exact List.le_of_lt h
theorem Ll(k:Nat):(e_ k).Pairwise (λa b=>dU a b=ah):=(B5 k).imp Kz
theorem GN(k:Nat):(e_ k).Nodup:=(B5 k).imp λh z=>by subst z;exact List.lt_irrefl _ h
def bY(z:Tx)(w:Nat):List Tx:=((cr z.length).filter λi=>decide (i+w<=z.length)).map λi=>(z.drop i).take w
theorem G3(w L:Nat):∀m:Nat,(cr m).filter (λi=>decide (i+w<=L))=cr (min m (L+1-w))
 |0=>by simp
 |m+1=>by
  rw[v3,List.filter_append,G3 w L m];by_cases h:m+w<=L
  .rw[show min m (L+1-w)=m by lia,show min (m+1) (L+1-w)=m+1 by lia,v3];simp[h]
  .rw[show min (m+1) (L+1-w)=min m (L+1-w) by lia];simp[h]
theorem qO(z:Tx)(w:Nat)(a:1<=w):bY z w=(cr (z.length+1-w)).map λi=>(z.drop i).take w:=by unfold bY;rw[G3,show min z.length (z.length+1-w)=z.length+1-w by lia]
def nw(w:Nat)(t:Tx):Tx->List Tx
 |[]=>[]
 |c::s=>(t.drop (t.length+1-w)++[c])::nw w (t++[c]) s
theorem Ia(w:Nat)(b:1<=w):∀(s t:Tx),w<=t.length+1->nw w t s=(cr s.length).map λi=>((t++s).drop (t.length+1-w+i)).take w
 |[],t,_=>by simp[nw]
 |c::s,t,h=>by
  rw[nw,Ia w b s (t++[c]) (by simp;lia),cE,CY,cn,dA];congr 1
  .show _=((t++c::s).drop (t.length+1-w)).take w;rw[UW ∅,List.take_append];have a:(t.drop (t.length+1-w)).length=w-1:=by rw[mP];lia
   rw[a,pA (by rw[a];lia),show w-(w-1)=1 by lia];rfl
  .refine ji λi _=>?_;simp only[rF];rw[fz,zx,show t.length+1+1-w+i=t.length+1-w+Nat.succ i by lia];simp
theorem Ff{w:Nat}(a:1<=w){h s:Tx}(b:h.length=w-1):bY (h++s) w=nw w h s:=by rw[qO _ _ a,Ia w a s h ∅,fz,show h.length+s.length+1-w=s.length by lia];refine ji λi _=>?_;rw[show h.length+1-w+i=i by lia]
def iL(w:Nat):Nat->Tx->List Tx->List Tx
 |0,t,_=>[t]
 |r+1,t,q=>ce.flatMap λc=>if t.drop (t.length+1-w)++[c]∈q then iL w r (t++[c]) (q.erase (t.drop (t.length+1-w)++[c]))else []
theorem EC(w:Nat):∀(r:Nat) (t:Tx) (q:List Tx),q.length=r->iL w r t q=((e_ r).filter λs=>(nw w t s).isPerm q).map (t++·)
 |0,t,q,hq=>by have:q=[]:=JZ.mp hq;subst this;simp[iL,e_,nw,List.isPerm]
 |r+1,t,q,hq=>by
  simp only[iL,e_,List.filter_flatMap,List.map_flatMap];congr 1;funext c;rw[zX,dA];by_cases h:t.drop (t.length+1-w)++[c]∈q
  .rw[if_pos h,EC w r (t++[c]) _ (by rw[DH h,hq];rfl)];have e:((λs=>(nw w t s).isPerm q) ∘ λx=>c::x)=λs=>(nw w (t++[c]) s).isPerm (q.erase (t.drop (t.length+1-w)++[c])):=by funext s;show(q.contains (t.drop (t.length+1-w)++[c])&&(nw w (t++[c]) s).isPerm (q.erase (t.drop (t.length+1-w)++[c])))=_;rw[List.contains_iff_mem.mpr h,Bool.true_and]
   rw[e];refine ji λs _=>?_;simp
  .rw[if_neg h];have e:((λs=>(nw w t s).isPerm q) ∘ λx=>c::x)=λ_=>aj:=by
    funext s;show(q.contains (t.drop (t.length+1-w)++[c])&&(nw w (t++[c]) s).isPerm (q.erase (t.drop (t.length+1-w)++[c])))=_;have:q.contains (t.drop (t.length+1-w)++[c])=aj:=by rw[zM];intro z;exact h (List.contains_iff_mem.mp z)
    rw[this,Bool.false_and]
   rw[e];simp
def bS(w:Nat)(a:List Tx):List Tx:=(cb (d_ (a.map pM))).flatMap λh=>iL w a.length h a
theorem Qa{a b:Type}{l:List a}{f:a->List b}(p:a->Bool)(h:∀x∈l,p x=aj->f x=[]):l.flatMap f=(l.filter p).flatMap f:=by
 induction l with
 |nil=>rfl
 |cons x l c=>
  rw[ud,c λy d=>h y (by simp[d]),J2];cases e:p x with
  |true=>simp
  |false=>rw[h x (by simp) e];simp
theorem vy{w:Nat}{a:List Tx}(g:1<=w)(D:1<=a.length)(j:∀x∈a,x.length=w/\∀c∈x,c∈ce):bS w a=(e_ (w-1+a.length)).filter λz=>(bY z w).isPerm a:=by
 rw[Pw,List.filter_flatMap];have B:(λh=>((e_ a.length).map (h++·)).filter λz=>(bY z w).isPerm a)=λh=>((e_ a.length).filter λs=>(bY (h++s) w).isPerm a).map (h++·):=by funext h;rw[zX];rfl
 rw[B,Qa (λh=>decide (h∈a.map pM))]
 .have A:(e_ (w-1)).filter (λh=>decide (h∈a.map pM))=cb (d_ (a.map pM)):=by
   refine yP ?_ ((Ll (w-1)).filter _);refine(List.perm_ext_iff_of_nodup ((GN (w-1)).filter _) (Ug _)).mpr λx=>?_;rw[o_,decide_eq_true_eq,u7,o0];refine⟨λh=>h.2,λh=>⟨?_,h⟩⟩;obtain⟨y,d,rfl⟩:=b8.mp h;obtain⟨u,r⟩:=j y d;exact⟨by rw[Dq,u],λc q=>r c ((List.dropLast_sublist _).mem q)⟩
  rw[A];unfold bS;have:∀l:List Tx,(∀h∈l,h.length=w-1)->l.flatMap (λh=>iL w a.length h a)=l.flatMap λh=>((e_ a.length).filter λs=>(bY (h++s) w).isPerm a).map (h++·):=by
   intro l
   induction l with
   |nil=>intro _;rfl
   |cons h l n=>
    intro b;rw[ud,ud,n λy d=>b y (by simp[d]),EC w _ h a rfl];have v:(λs=>(nw w h s).isPerm a)=λs=>(bY (h++s) w).isPerm a:=by funext s;rw[Ff g (b h (by simp))]
    rw[v]
  refine this _ λh b=>?_;have p:=(u7 _ _).mp ((nB _).mem_iff.mp b);obtain⟨y,d,rfl⟩:=b8.mp p;rw[Dq,(j y d).1]
 .intro h b i;have C:=((o0 _ h).mp b).1;rw[List.map_eq_nil_iff,List.filter_eq_nil_iff];intro s o f;have m:=((o0 _ s).mp o).1;rw[Ff g C,List.isPerm_iff]at f;cases s with
  |nil=>rw[mT]at m;lia
  |cons c s=>rw[nw,show h.length+1-w=0 by lia,C0]at f;have:h++[c]∈a:=f.mem_iff.mp (by simp);rw[decide_eq_false_iff_not]at i;exact i (b8.mpr ⟨_,this,by simp⟩)
end Mx
namespace Sh
open L2 Pu Mx
theorem mD{f:PV->PV->Option PV}{d b:ac PV}{c ε1 a:ak}{x y z:PV}(h:d c=.ok x ε1)(i:b ε1=.ok y a)(g:f x y=aa z):d2 f d b c=.ok z a:=by unfold d2;rw[h];show(b ε1).bind _=_;rw[i];show aM (f x y) a=_;rw[g];rfl
section
theorem SI(a:Bool)(b c:Bool):Pu.eqT a (.bl b) (.bl c)=aa (.bl (a^^decide (b=c))):=by cases a <;> cases b <;> cases c <;> rfl
theorem OG{a:List Tx}(h:a.length<=1000000):sS [.lst (ao a)]=aa (.lst (ao (cb a))):=by show(fI (ao a)).bind _=_;rw[qc,gk,if_pos h]
end
section
variable{a:Ad}
abbrev fi(b:List Int):Slot:=.val (.lst (b.map .int))
theorem Iv(b:List Int)(k:Int)(d:0<=k)(h:k<b.length):∃v,fE (b.map PV.int) k=aa (.int v):=by
 have c:k.toNat<b.length:=∅
 refine⟨b[k.toNat],?_⟩;rw[BM d (by rw[cN];exact c)];simp
theorem NL(b:List Int):Pu.eqT aj (.lst (b.map .int)) (.lst [])=aa (.bl b.isEmpty):=by
 cases b with
 |nil=>rfl
 |cons x xs=>
  have d:∀l:List Int,jA (l.map .int)=0:=λl=>by induction l with|nil=>rfl|cons y l c=>simp[jA,kj,c]
  have:jA ((x::xs).map .int)=0:=d _;simp only[cn]at this;simp[Pu.eqT,eD,dH,iO,kj,this]
theorem qF(b:Bool)(i j:Int):Pu.eqT b (.int i) (.int j)=aa (.bl (b^^decide (i=j))):=by show(if vq (V.int i) (V.int j)then aa (PV.bl (b^^decide (V.int i=V.int j)))else ae)=_;have:vq (V.int i) (V.int j)=ah:=rfl;rw[if_pos this];simp
theorem Lw(b:List Int)(k:Int)(i:0<=k):∃v,sK a [fi b,⇑k]=.ok (⇑v) [fi b,⇑k]:=by
 by_cases h:k<b.length
 .obtain⟨v,c⟩:=Iv b k i h;refine⟨v,?_⟩;simp![sK,yaD,bH,aR,c,h]
 .have e:=NL b;by_cases d:b=[]
  .subst d;refine⟨0,?_⟩;simp only[zz,J3]at e;have j:¬k<0:=∅
   simp![sK,yaD,bH,aR,e,j]
  .have f:0<b.length:=by cases b with|nil=>exact absurd rfl d|cons=>simp
   obtain⟨v,c⟩:=Iv b (k % b.length) (zS _ ∅) (zR _ ∅);refine⟨v*31+k,?_⟩;have l:b.isEmpty=aj:=by cases b with|nil=>exact absurd rfl d|cons=>rfl
   rw[l]at e;have g:iC (.int k) (.int (b.length:Int))=aa (.int (k % b.length)):=by simp[iC];lia
   have m:lJ (.int v) (.int 31)=aa (.int (v*31)):=by simp[lJ,vG]
   simp![sK,yaD,bH,aR,h,e,g,c,m,bI]
theorem PF(b:List Int)(k m:Int)(q:0<=k)(i:0<m):∃v,0<=v/\v<m/\y6 a [fi b,⇑k,⇑m]=.ok (⇑v) [fi b,⇑k,⇑m]:=by
 obtain⟨c,p⟩:=Lw (a:=a) b k q;have r:0<=(c*1103515245+7919*k+12345) % 2147483647:=zS _ (by decide);have d1:(c*1103515245+7919*k+12345) % 2147483647<2147483647:=zR _ (by decide);have o:lJ (.int c) (.int 1103515245)=aa (.int (c*1103515245)):=by simp[lJ,vG]
 have n:lJ (.int 7919) (.int k)=aa (.int (7919*k)):=by simp[lJ,vG]
 have h:iC (.int (c*1103515245+7919*k+12345)) (.int 2147483647)=aa (.int ((c*1103515245+7919*k+12345) % 2147483647)):=by simp[iC]
 generalize (c*1103515245+7919*k+12345) % 2147483647=d at r d1 h;have l:uY (.int d) (.int 5)=aa (.int (d^5)):=by
  have:d.natAbs<2^64:=∅
  simp[uY,this]
 have g:iC (.int (d^5)) (.int 2147483647)=aa (.int (d^5 % 2147483647)):=by simp[iC]
 generalize d^5 % 2147483647=d5 at g;have f:iC (.int d5) (.int 999983)=aa (.int (d5 % 999983)):=by simp[iC]
 generalize d5 % 999983=d6 at f;have j:iC (.int d6) (.int m)=aa (.int (d6 % m)):=by simp[iC,i]
 refine⟨d6 % m,zS _ ∅,zR _ i,?_⟩;simp![y6,yaF,p,o,n,h,l,g,f,j,bI]
theorem zc(b:List Int)(xs:List PV)(m:Int)(h:0<m)(i:xs.length<=1000):∃v,0<=v/\v<m/\o7 a [fi b,.own (.lst xs),⇑m]=.ok (⇑v) [fi b,.own (.lst (xs++[.int 0])),⇑m]:=by
 obtain⟨v,d,c,g⟩:=PF (a:=a) b ((xs.length:Int)+1) m ∅ h;refine⟨v,d,c,?_⟩;have f:xs.length<bj:=by unfold bj;lia
 simp![o7,yaE,bH,f,g]
theorem FX{c:Type}(b:List c)(v:Int)(f:0<=v)(g:v<b.length):∃x∈b,fE b v=aa x:=by
 have d:v.toNat<b.length:=∅
 exact⟨b[v.toNat],v6 _,BM f d⟩
theorem BX(c:List Int)(xs b:List PV)(h:xs.length<=1000)(l:0<b.length):∃x∈b,sJ a [fi c,.own (.lst xs),.val (.lst b)]=.ok (.val x) [fi c,.own (.lst (xs++[.int 0])),.val (.lst b)]:=by obtain⟨v,f,d,i⟩:=zc (a:=a) c xs (b.length:Nat) ∅ h;obtain⟨x,j,g⟩:=FX b v f d;refine⟨x,j,?_⟩;simp![sJ,yaH,bH,aR,i,g]
theorem BQ{n:Nat}(h:n<=1000000):iK [.int n]=aa (gy 0 n):=by show(if(n:Int)<=1000000/\-1000000<=(n:Int)then aa (gy 0 (n:Int).toNat)else ae)=_;rw[if_pos ⟨∅,∅⟩];simp
theorem Be{x y:Tx}(h:x.length+y.length<=bj):bI (.str x) (.str y)=aa (.str (x++y)):=by show(if(x++y).length<=bj then aa (PV.str (x++y))else ae)=_;rw[if_pos (by rw[fz];exact h)]
theorem dy{d1 d2:ac aK}{ε ε1:ak}(h:d1 ε=.ok .next ε1):aI d1 d2 ε=d2 ε1:=by unfold aI;rw[h]
theorem vA{i:Nat}{d:ac PV}{ε ε1:ak}{x:PV}(h:d ε=.ok x ε1):bM i d ε=.ok .next (ε1.set i (.val x)):=by unfold bM;rw[h];rfl
theorem Fw{i:Nat}{db:ac aK}{I:Nat->ak->Prop}{N:Nat}(step:∀k c x,k<N->I k c->∃b,db (c.set i (.val x))=.ok .next b/\I (k+1) b):∀(xs:List PV) (k:Nat) (c:ak),k+xs.length<=N->I k c->∃b,d8 i db xs c=.ok .next b/\I (k+xs.length) b
 |[],k,c,_,h=>⟨c,rfl,h⟩
 |x::xs,k,c,g,h=>by simp only[cE]at g;obtain⟨f,n,l⟩:=step k c x ∅ h;obtain⟨d,m,j⟩:=Fw step xs (k+1) f ∅ l;refine⟨d,by unfold d8;rw[n];exact m,?_⟩;rw[cE,show k+(xs.length+1)=k+1+xs.length by lia];exact j
theorem za{i:Nat}{db:ac aK}{I:List PV->ak->Prop}(step:∀(x:PV) (r:List PV) c,I (x::r) c->∃b,db (c.set i (.val x))=.ok .next b/\I r b):∀(xs:List PV) (c:ak),I xs c->∃b,d8 i db xs c=.ok .next b/\I [] b
 |[],c,h=>⟨c,rfl,h⟩
 |x::xs,c,h=>by obtain⟨f,m,j⟩:=step x xs c h;obtain⟨d,l,g⟩:=za step xs f j;exact⟨d,by unfold d8;rw[m];exact l,g⟩
theorem QP(h:List Int)(xs:List PV)(b most:Nat)(L:b<=most)(W:most<=100)(T:xs.length<=500):∃(z:Tx) (g:List PV),b<=z.length/\z.length<=most/\(∀c∈z,c∈ce)/\g.length<=xs.length+2+most /\ xG a [fi h,.own (.lst xs),⇑b,⇑most]=.ok (↥z) [fi h,.own (.lst g),⇑b,⇑most]:=by
 obtain⟨f,s,J⟩:=BX (a:=a) h xs [.int 1,.int 2,.int 2,.int 3,.int 3,.int 3] ∅ (by decide);obtain⟨few,rfl,O,Y⟩:∃few:Int,f=.int few/\0<few/\few<=3:=by simp only[bn,gi,or_false]at s;rcases s with rfl|rfl|rfl|rfl|rfl|rfl <;> exact⟨_,rfl,by decide,by decide⟩
 obtain⟨m,S,Q,j⟩:=zc (a:=a) h (xs++[.int 0]) ((most:Int)-b+1) ∅ (by simp;lia);obtain⟨n,K⟩:∃n:Nat,(b:Int)+m=n:=⟨(b+m).toNat,∅⟩
 have H:iK [.int ((b:Int)+m)]=aa (gy 0 n):=by rw[K];exact BQ ∅
 have Z:(gy 0 n).length=n:=by simp[gy]
 obtain⟨w,u,g,z,l,rfl,r,F,p⟩:=Fw (i:=6) (db:=bM 5 (d2 bI (dV 5) (d2 aR (dC (.str [97,98,99])) (bL (a9 (o7 a) (gV (dV 0) (gO 1 (gV (dV 4) (Pu.cm)))))))))
  (I:=λk q=>∃g z l,q=[fi h,.own (.lst g),⇑b,⇑most,⇑few,↥z,l]/\z.length=k/\g.length<=xs.length+2+k/\∀c∈z,c∈ce) (N:=n)
  (by
   rintro k q x X ⟨g,z,l,rfl,r,F,p⟩;obtain⟨v,y,P,G⟩:=zc (a:=a) h g few O ∅;obtain⟨c,M,D⟩:=FX ce v y (by simp[ce];lia);refine⟨[fi h,.own (.lst (g++[.int 0])),⇑b,⇑most,⇑few,↥(z++[c]),.val x],?_,g++[.int 0],z++[c],.val x,rfl,by simp[r],by simp;lia,λd j=>?_⟩
   .have o:aR (.str [97,98,99]) (.int v)=aa (.str [c]):=by
     show(fE ce v).map _=_;rw[D];rfl
    have E:bI (.str z) (.str [c])=aa (.str (z++[c])):=Be (by simp[bj];lia);simp![G,o,E]
   .simp only[jg,gH]at j;rcases j with j|rfl
    .exact p d j
    .exact M)
  (gy 0 n) 0 [fi h,.own (.lst (xs++[.int 0]++[.int 0])),⇑b,⇑most,⇑few,.val (.str []),.none] ∅ ⟨xs++[.int 0]++[.int 0],[],.none,rfl,rfl,by simp,by simp⟩
 refine⟨z,g,∅,∅,p,∅,?_⟩;have C:jx (.int most) (.int b)=aa (.int ((most:Int)-b)):=rfl;have A:bI (.int ((most:Int)-b)) (.int 1)=aa (.int ((most:Int)-b+1)):=rfl;have B:bI (.int b) (.int m)=aa (.int ((b:Int)+m)):=rfl;simp only[mR,Dw,kw]at u;simp![xG,yaJ,J,C,A,B,j,dR,H,cY,u]
theorem nG{cap:List Nat}{dt:ac Bool}{de:ac PV}{ε:ak}(p:PV->Bool)(f:PV->PV):∀(xs:List PV),(∀x∈xs,cg (eE cap dt x ε)=.ok (p x) ε/\(p x=ah->cg (eE cap de x ε)=.ok (f x) ε))->∀b,kf cap dt de xs b ε=.ok (b++(xs.filter p).map f) ε
 |[],_,b=>by simp[kf]
 |x::xs,h,b=>by
  have g:=h x (by simp);have d:=nG p f xs (λy i=>h y (by simp[i]));unfold kf;rw[g.1];simp only[R.bind_ok];cases c:p x with
  |false=>simp only[d b,J2,c];simp
  |true=>simp only[g.2 c,R.bind_ok,d (b++[f x]),J2,c];simp
theorem Pb{z:Tx}{i w:Nat}(h:i+w<=z.length):dG z (aa (i:Int)) (aa ((i:Int)+w))=(z.drop i).take w:=by
 unfold dG;have c:HT.sIx z.length 0 (aa (i:Int))=i:=by rw[HT.sIx_nat];lia
 have b:HT.sIx z.length z.length (aa ((i:Int)+w))=i+w:=by rw[show(i:Int)+w=((i+w:Nat):Int) by lia,HT.sIx_nat];lia
 rw[c,b,Nat.add_sub_cancel_left]
theorem R4(z:Tx)(w:Nat)(o:z.length<=60):uZ a [↥z,⇑w]=.ok (.val (.tup (ao (cb (bY z w))))) [↥z,⇑w]:=by
 have g:iK [.int (z.length:Nat)]=aa (gy 0 z.length):=BQ ∅;have b:=nG (cap:=[0,1]) (dt:=(dB (d2 (dE λi j=>decide (i<=j)) (d2 bI (dV 0) (dV 2)) (dL bH (ap (dV 1) (az)))))) (de:=(bP b7 (dV 1) (bN (dV 0)) (bN (d2 bI (dV 0) (dV 2)))))
  (ε:=[↥z,⇑w]) (λx=>match x with|.int i=>decide (i+w<=z.length)|_=>aj) (λx=>match x with|.int i=>.str (dG z (aa i) (aa (i+w)))|_=>.non) (gy 0 z.length)
  (by
   intro x d;simp only[gy,b8]at d;obtain⟨i,f,rfl⟩:=d;refine⟨?_,λh=>?_⟩
   .simp![eE,eP,cg,bH,bI]
   .simp![eE,eP,cg,bH,bI,bP,bN,b7]) []
 have l:(bY z w).length<=1000000:=by unfold bY;rw[cN];have:=D1 (λi=>decide (i+w<=z.length)) (cr z.length);rw[Jx]at this;lia
 have m:(((gy 0 z.length).filter (λx=>match x with|.int i=>decide (i+w<=z.length)|_=>aj)).map (λx=>match x with|.int i=>PV.str (dG z (aa i) (aa (i+w)))|_=>.non))=ao (bY z w):=by
  unfold gy bY ao;rw[zX,dA,dA];have n:((λx=>match x with|PV.int i=>decide (i+(w:Int)<=(z.length:Nat))|_=>aj) ∘ λ(i:Nat)=>PV.int (0+(i:Nat)))=λi=>decide (i+w<=z.length):=by funext i;simp only[rF];congr 1;simp;lia
  rw[n];refine ji λi f=>?_;have:=(o_.mp f).2;simp only[decide_eq_true_eq]at this;simp only[rF,Int.zero_add];rw[Pb this]
 simp only[kw]at b;rw[m]at b;have c:=OG l;generalize ao (cb (bY z w))=T at c;generalize ao (bY z w)=B at b c;simp![uZ,yaI,bH,g,cW,b,c,vc]
structure Good(l:Tx)(w:Nat)(ls:List Tx):Prop where
 len:∀x∈ls,x.length=w
 abc:∀x∈ls,∀c∈x,c∈l
 some:1<=ls.length
 few:ls.length<=9
theorem k6(b:List Tx):(ao b).length=b.length:=by simp[ao]
theorem Ij{n:Nat}{v:Int}(c:0<=v)(b:v<n):nJ n v=aa v.toNat:=by unfold nJ;rw[if_pos c,if_pos b]
theorem AY{b:Type}(xs:List b)(n:Nat):dG xs ae (aa (n:Int))=xs.take n:=by
 unfold dG;have c:HT.sIx xs.length 0 ae=0:=rfl;rw[c,HT.sIx_nat,C0,Nat.sub_zero];by_cases h:n<=xs.length
 .rw[Nat.min_eq_left h]
 .rw[Nat.min_eq_right ∅,pA (aZ _),pA ∅]
theorem Bo{b:Type}(xs:List b)(n:Nat):dG xs (aa (n:Int)) ae=xs.drop n:=by
 unfold dG;have c:HT.sIx xs.length xs.length ae=xs.length:=rfl;rw[c,HT.sIx_nat];by_cases h:n<=xs.length
 .rw[Nat.min_eq_left h,pA (by rw[mP];lia)]
 .rw[Nat.min_eq_right ∅,List.drop_of_length_le ∅,List.drop_of_length_le ∅];simp
theorem iJ{t T:String}{b:Bool}{x:PV}(h:tt x=aa t)(e:fe [] (.type t) (.type T)=aa b):eu [x,.raw (.ty T)]=aa (.bl b):=by show((tt x).bind λt=>(fe [] (.type t) (.type T)).map λb=>PV.bl b)=_;rw[h,gk,e];rfl
theorem QG:fe [] (.type "int") (.type "int")=aa ah:=by decide +kernel
theorem SQ:fe [] (.type "int") (.type "bool")=aa aj:=by decide +kernel
theorem Nu:fe [] (.type "bool") (.type "int")=aa ah:=by decide +kernel
theorem UG:fe [] (.type "bool") (.type "bool")=aa ah:=by decide +kernel
theorem Rh:fe [] (.type "str") (.type "int")=aa aj:=by decide +kernel
theorem Pz:fe [] (.type "str") (.type "str")=aa ah:=by decide +kernel
theorem Lb:fe [] (.type "int") (.type "str")=aa aj:=by decide +kernel
theorem qf:fe [] (.type "tuple") (.type "tuple")=aa ah:=by decide +kernel
theorem QX:fe [] (.type "int") (.type "tuple")=aa aj:=by decide +kernel
theorem Oc:fe [] (.type "NoneType") (.type "tuple")=aa aj:=by decide +kernel
theorem Q9:fe [] (.type "str") (.type "tuple")=aa aj:=by decide +kernel
theorem GI:fe [] (.type "list") (.type "tuple")=aa aj:=by decide +kernel
theorem Mf(bs:List Bool):nt (bs.map .bl)=aa bs:=by
 induction bs with
 |nil=>rfl
 |cons b bs c=>show(nt (bs.map .bl)).map (b::·)=_;rw[c];rfl
theorem F8(bs:List Bool):sV [.lst (bs.map .bl)]=aa (.bl (bs.all id)):=by show(nt (bs.map .bl)).map _=_;rw[Mf];rfl
theorem OW(z s:Tx):y9 a [↥z,↥s]=.ok (.val (.bl (z.all s.contains))) [↥z,↥s]:=by
 have b:=nG (cap:=[1]) (dt:=eh) (de:=(d2 (sr aj) (dV 0) (dV 1))) (ε:=[↥z,↥s]) (λ_=>ah) (λx=>match x with|.str [c]=>.bl (s.contains c)|_=>.non) (z.map λc=>.str [c])
  (by
   intro x h;obtain⟨c,_,rfl⟩:=b8.mp h;refine⟨by simp![eE,eP,cg,eh],λ_=>?_⟩;have g:sr aj (.str [c]) (.str s)=aa (.bl (s.contains c)):=by rw[<-LW];simp[sr]
   simp![eE,eP,cg,g]) []
 have i:((z.map λc=>PV.str [c]).filter (λ_=>ah)).map (λx=>match x with|.str [c]=>PV.bl (s.contains c)|_=>.non)=(z.map s.contains).map .bl:=by rw[wp.mpr (by simp),dA,dA];rfl
 rw[kw,i]at b;have d:(z.map s.contains).all id=z.all s.contains:=by rw[CZ];rfl
 generalize z.map s.contains=bs at b d;have f:=F8 bs;rw[d]at f;simp![y9,yav,cW,br,hZ,b,f]
def i4(w:Int)(s z:Tx):Bool:=decide ((z.length:Int)=w)&&z.all s.contains
theorem Mu(z s:Tx)(w:Int):o4 a [↥z,⇑w,↥s]=.ok (.val (.bl (i4 w s z))) [↥z,⇑w,↥s]:=by
 have d:eu [.str z,.raw (.ty "str")]=aa (.bl ah):=iJ rfl Pz;have f:=OW (a:=a) z s;have c:bH [.str z]=aa (.int (z.length:Nat)):=rfl;have b:=qF aj (z.length:Nat) w;unfold i4;by_cases h:((z.length:Nat):Int)=w
 .simp only[h,decide_true,Bool.xor_true,uc]at b;simp![o4,yaA,d,c,b,f,h]
 .simp only[h,decide_false,Bool.xor_false]at b;simp![o4,yaA,d,c,b,h]
theorem NU(i w:Int)(s:Tx):o4 a [⇑i,⇑w,↥s]=.ok (.val (.bl aj)) [⇑i,⇑w,↥s]:=by have b:eu [.int i,.raw (.ty "str")]=aa (.bl aj):=iJ rfl Lb;simp![o4,yaA,b]
theorem Ly(d c:List Tx):iO (ao d) (ao c)=aa (decide (d=c)):=by
 induction d generalizing c with
 |nil=>cases c <;> simp[ao,iO]
 |cons x d f=>
  cases c with
  |nil=>simp[ao,iO]
  |cons y c=>
   show(dH (.str x) (.str y)).bind (λa=>(iO (ao d) (ao c)).map λb=>a&&b)=_;rw[f];have:dH (.str x) (.str y)=aa (decide (x=y)):=by
    show aa (tS x == tS y)=_;by_cases h:x=y
    .subst h;simp
    .have:tS x≠tS y:=λz=>h (xV z);simp[h,this]
   rw[this];simp[wg]
theorem L6(b:List Tx):jA (ao b)=0:=by
 induction b with
 |nil=>rfl
 |cons x b c=>show max (kj (.str x)) (jA (ao b))=0;rw[c];rfl
theorem TQ(b:Bool)(c d:List Tx):Pu.eqT b (.lst (ao c)) (.lst (ao d))=aa (.bl (b^^decide (c=d))):=by show(if kj (.lst (ao c))<=8 then(iO (ao c) (ao d)).map (λk=>PV.bl (b^^k))else ae)=_;rw[if_pos (by show jA (ao c)+1<=8;rw[L6];decide),Ly];rfl
theorem MM(b:List Tx)(w:Int)(s:Tx)(u:1<=b.length)(r:b.length<=9):kb a [.val (.tup (ao b)),⇑w,↥s]=.ok (.val (.bl (b.all (i4 w s)&&decide (b=cb b)))) [.val (.tup (ao b)),⇑w,↥s]:=by
 have h:eu [.tup (ao b),.raw (.ty "tuple")]=aa (.bl ah):=iJ rfl qf;have i:bH [.tup (ao b)]=aa (.int (b.length:Nat)):=by simp[bH,k6]
 have m:(1:Int)<=(b.length:Nat):=∅
 have l:((b.length:Nat):Int)<=9:=∅
 have d:=nG (cap:=[1,2]) (dt:=eh) (de:=(bL (a9 (o4 a) (gV (dV 0) (gV (dV 1) (gV (dV 2) (Pu.cm))))))) (ε:=[.val (.tup (ao b)),⇑w,↥s]) (λ_=>ah) (λx=>match x with|.str z=>.bl (i4 w s z)|_=>.non) (ao b)
  (by intro x o;obtain⟨z,_,rfl⟩:=b8.mp o;refine⟨by simp![eE,eP,cg,eh],λ_=>?_⟩;have p:=Mu (a:=a) z s w;simp![eE,eP,cg,p]) []
 have q:((ao b).filter (λ_=>ah)).map (λx=>match x with|.str z=>PV.bl (i4 w s z)|_=>.non)=(b.map (i4 w s)).map .bl:=by rw[wp.mpr (by simp)];unfold ao;rw[dA,dA];rfl
 rw[kw,q]at d;have g:(b.map (i4 w s)).all id=b.all (i4 w s):=by rw[CZ];rfl
 generalize b.map (i4 w s)=bs at d g;have f:=F8 bs;have n:b.length<=1000000:=∅
 have c:=TQ aj b (cb b);cases j:b.all (i4 w s)with
 |false=>rw[g,j]at f;simp![kb,yan,h,i,m,l,cW,br,hZ,d,f]
 |true=>rw[g,j]at f;simp only[zT]at c;simp![kb,yan,h,i,m,l,cW,br,hZ,d,f,yv,sS,qc,n,c]
theorem UB(b:List Tx)(w:Int)(s:Tx)(h:b.length=0\/9<b.length):kb a [.val (.tup (ao b)),⇑w,↥s]=.ok (.val (.bl aj)) [.val (.tup (ao b)),⇑w,↥s]:=by
 have c:eu [.tup (ao b),.raw (.ty "tuple")]=aa (.bl ah):=iJ rfl qf;have d:bH [.tup (ao b)]=aa (.int (b.length:Nat)):=by simp[bH,k6]
 by_cases f:(1:Int)<=(b.length:Nat)
 .have g:¬((b.length:Nat):Int)<=9:=∅
  simp![kb,yan,c,d,f,g]
 .simp![kb,yan,c,d,f]
theorem SD(i:Int):nA a [⇑i]=.ok (.val (.bl ah)) [⇑i]:=by have c:eu [.int i,.raw (.ty "int")]=aa (.bl ah):=iJ rfl QG;have b:eu [.int i,.raw (.ty "bool")]=aa (.bl aj):=iJ rfl SQ;simp![nA,yay,c,b]
theorem My(b:Bool):nA a [.val (.bl b)]=.ok (.val (.bl aj)) [.val (.bl b)]:=by have d:eu [.bl b,.raw (.ty "int")]=aa (.bl ah):=iJ rfl Nu;have c:eu [.bl b,.raw (.ty "bool")]=aa (.bl ah):=iJ rfl UG;simp![nA,yay,d,c]
theorem Nk(x:Tx):nA a [↥x]=.ok (.val (.bl aj)) [↥x]:=by have b:eu [.str x,.raw (.ty "int")]=aa (.bl aj):=iJ rfl Rh;simp![nA,yay,b]
theorem FM(i:Int):nZ a [⇑i]=.ok (.val (.bl (decide (1<=i/\i<=4)))) [⇑i]:=by
 have h:=SD (a:=a) i;by_cases b:1<=i
 .by_cases c:i<=4
  .simp![nZ,yaz,h,b,c]
  .simp![nZ,yaz,h,b,c]
 .simp![nZ,yaz,h,b]
theorem GE{x:PV}(h:nA a [.val x]=.ok (.val (.bl aj)) [.val x]):nZ a [.val x]=.ok (.val (.bl aj)) [.val x]:=by simp![nZ,yaz,h]
def jL(s:Tx)(w:Int)(ls:List Tx):Bool:=decide (1<=w/\w<=4)&&(decide (1<=ls.length/\ls.length<=9)&&(ls.all (i4 w s)&&decide (ls=cb ls)))
theorem IS(s:Tx)(w:Int)(b:List Tx):iI a [.val (.tup [.int w,.tup (ao b)]),↥s]=.ok (.val (.bl (jL s w b))) [.val (.tup [.int w,.tup (ao b)]),↥s]:=by
 have h:eu [.tup [.int w,.tup (ao b)],.raw (.ty "tuple")]=aa (.bl ah):=iJ rfl qf;have l:bH [.tup [.int w,.tup (ao b)]]=aa (.int 2):=rfl;have f:=qF ah 2 2;simp only[decide_true,zU,l5]at f;have j:aR (.tup [.int w,.tup (ao b)]) (.int 0)=aa (.int w):=rfl;have i:aR (.tup [.int w,.tup (ao b)]) (.int 1)=aa (.tup (ao b)):=rfl;have d:=FM (a:=a) w;unfold jL;by_cases c:1<=w/\w<=4
 .rw[decide_eq_true c]at d ⊢;by_cases g:1<=b.length/\b.length<=9
  .have m:=MM (a:=a) b w s g.1 g.2;rw[decide_eq_true g];simp![iI,yax,h,l,f,j,i,d,m]
  .have m:=UB (a:=a) b w s ∅;rw[decide_eq_false g];simp![iI,yax,h,l,f,j,i,d,m]
 .rw[decide_eq_false c]at d ⊢;simp![iI,yax,h,l,f,j,i,d]
abbrev vw(w:Int)(b:List Tx):Bool:=jL ce w b
theorem AU(w:Int)(b:List Tx):ke a [.val (.tup [.int w,.tup (ao b)])]=.ok (.val (.bl (vw w b))) [.val (.tup [.int w,.tup (ao b)])]:=by have c:=IS (a:=a) ce w b;simp only[ce]at c;simp![ke,yaw,c];rfl
theorem yR{w:Int}{b:List Tx}(h:vw w b=ah):jQ a [.val (.tup [.int w,.tup (ao b)])]=.ok (.val .non) [.val (.tup [.int w,.tup (ao b)])]:=by have c:=AU (a:=a) w b;rw[h]at c;simp![jQ,yaq,c]
theorem Good.vw{w:Nat}{d:List Tx}(g:Good ce w d)(n:1<=w)(m:w<=4)(h:d.Pairwise (λa b=>dU a b=ah)):vw w d=ah:=by
 have l:d.all (i4 w ce)=ah:=by rw[tP];intro x f;unfold i4;rw[g.len x f,decide_eq_true rfl,Bool.true_and,tP];intro c i;simpa using g.abc x f c i
 have j:decide (d=cb d)=ah:=decide_eq_true (HM h).symm;show jL ce w d=ah;unfold jL;rw[l,j,decide_eq_true (show 1<=(w:Int)/\(w:Int)<=4 by lia),decide_eq_true (show 1<=d.length/\d.length<=9 from⟨g.some,g.few⟩)];rfl
theorem O5{x:PV}(h:iI a [.val x,↥ce]=.ok (.val (.bl aj)) [.val x,↥ce]):ke a [.val x]=.ok (.val (.bl aj)) [.val x]:=by simp only[ce]at h;simp![ke,yaw,h]
theorem Ev{x:PV}(h:ke a [.val x]=.ok (.val (.bl aj)) [.val x]):jQ a [.val x]=.er (.ref a.NoView) [.val x]:=by simp![jQ,yaq,h,qh,cg]
theorem xk(s:Tx){x:PV}{t:String}(h:tt x=aa t)(e:fe [] (.type t) (.type "tuple")=aa aj):iI a [.val x,↥s]=.ok (.val (.bl aj)) [.val x,↥s]:=by have b:=iJ (T:="tuple") h e;simp![iI,yax,b]
theorem Gf(s:Tx){xs:List PV}(h:xs.length≠2):iI a [.val (.tup xs),↥s]=.ok (.val (.bl aj)) [.val (.tup xs),↥s]:=by
 have c:eu [.tup xs,.raw (.ty "tuple")]=aa (.bl ah):=iJ rfl qf;have d:bH [.tup xs]=aa (.int (xs.length:Nat)):=rfl;have b:=qF ah (xs.length:Nat) 2;have:¬((xs.length:Nat):Int)=2:=∅
 simp only[this,decide_false,zU,uc]at b;simp![iI,yax,c,d,b]
theorem EI(s:Tx){x y:PV}(h:nZ a [.val x]=.ok (.val (.bl aj)) [.val x]):iI a [.val (.tup [x,y]),↥s]=.ok (.val (.bl aj)) [.val (.tup [x,y]),↥s]:=by have c:eu [.tup [x,y],.raw (.ty "tuple")]=aa (.bl ah):=iJ rfl qf;have f:bH [.tup [x,y]]=aa (.int 2):=rfl;have b:=qF ah 2 2;simp only[decide_true,zU,l5]at b;have d:aR (.tup [x,y]) (.int 0)=aa x:=rfl;simp![iI,yax,c,f,b,d,h]
theorem Hg(s:Tx){w:Int}{y:PV}(i:1<=w/\w<=4)(h:kb a [.val y,⇑w,↥s]=.ok (.val (.bl aj)) [.val y,⇑w,↥s]):iI a [.val (.tup [.int w,y]),↥s]=.ok (.val (.bl aj)) [.val (.tup [.int w,y]),↥s]:=by have d:eu [.tup [.int w,y],.raw (.ty "tuple")]=aa (.bl ah):=iJ rfl qf;have j:bH [.tup [.int w,y]]=aa (.int 2):=rfl;have c:=qF ah 2 2;simp only[decide_true,zU,l5]at c;have g:aR (.tup [.int w,y]) (.int 0)=aa (.int w):=rfl;have f:aR (.tup [.int w,y]) (.int 1)=aa y:=rfl;have b:=FM (a:=a) w;rw[decide_eq_true i]at b;simp![iI,yax,d,j,c,g,f,b,h]
theorem KM(s:Tx)(xs:List PV)(w:Int):kb a [.val (.lst xs),⇑w,↥s]=.ok (.val (.bl aj)) [.val (.lst xs),⇑w,↥s]:=by have b:eu [.lst xs,.raw (.ty "tuple")]=aa (.bl aj):=iJ rfl GI;simp![kb,yan,b]
theorem UP(s:Tx)(i w:Int):kb a [.val (.tup [.int i]),⇑w,↥s]=.ok (.val (.bl aj)) [.val (.tup [.int i]),⇑w,↥s]:=by have c:eu [.tup [.int i],.raw (.ty "tuple")]=aa (.bl ah):=iJ rfl qf;have f:bH [.tup [.int i]]=aa (.int 1):=rfl;have d:=NU (a:=a) i w s;have b:sV [.lst [.bl aj]]=aa (.bl aj):=rfl;simp![kb,yan,c,f,cW,br,hZ,kf,eE,eP,cg,eh,d,b]
theorem oW(s:Tx){w:Int}{ls:List Tx}(h:jL s w ls=aj):iI a [.val (.tup [.int w,.tup (ao ls)]),↥s]=.ok (.val (.bl aj)) [.val (.tup [.int w,.tup (ao ls)]),↥s]:=by have:=IS (a:=a) s w ls;rwa[h]at this
def sY:List PV:=[.non,.int 5,.str [50,58,32,97,98],.lst [.int 1,.tup [.str [97]]],.tup [.int 1,.tup []],.tup [.int 2,.tup [.str [97]]],.tup [.int 0,.tup [.str []]],.tup [.int 5,.tup [.str [97,97,97,97,97]]],.tup [.bl ah,.tup [.str [97]]],.tup [.int 1,.tup [.str [98],.str [97]]],.tup [.int 1,.tup (bE 10 (.str [97]))],.tup [.int 1,.tup [.str [100]]],.tup [.int 1,.tup [.str [65]]],.tup [.int 1,.lst [.str [97]]],.tup [.int 1,.tup [.int 1]],.tup [.int 1],.tup [.int 1,.tup [.str [97]],.int 1],.tup [.str [49],.tup [.str [97]]]]
theorem KD(s:Tx)(d:¬100∈s)(c:¬65∈s):∀x∈sY,iI a [.val x,↥s]=.ok (.val (.bl aj)) [.val x,↥s]:=by
 intro x b;simp only[sY,bn,gi,or_false]at b;rcases b with rfl|rfl|rfl|rfl|rfl|rfl|rfl|rfl|rfl|rfl|rfl|rfl|rfl|rfl|rfl|rfl|rfl|rfl
 .exact xk s rfl Oc
 .exact xk s rfl QX
 .exact xk s rfl Q9
 .exact xk s rfl GI
 .exact oW s (w:=1) (ls:=[]) (by simp[jL])
 .exact oW s (w:=2) (ls:=[[97]]) (by simp[jL,i4])
 .exact oW s (w:=0) (ls:=[[]]) (by simp[jL])
 .exact oW s (w:=5) (ls:=[[97,97,97,97,97]]) (by simp[jL])
 .exact EI s (GE (My ah))
 .refine oW s (w:=1) (ls:=[[98],[97]]) ?_;have:¬[[98],[97]]=cb [[98],[97]]:=λh=>by have r:=yS [[98],[97]];rw[<-h]at r;simp[dU]at r;exact absurd r (by decide)
  simp[jL,this]
 .exact oW s (w:=1) (ls:=bE 10 [97]) (by simp[jL])
 .exact oW s (w:=1) (ls:=[[100]]) (by simp[jL,i4,d,c])
 .exact oW s (w:=1) (ls:=[[65]]) (by simp[jL,i4,d,c])
 .exact Hg s (by decide) (KM s _ _)
 .exact Hg s (by decide) (UP s _ _)
 .exact Gf s (by decide)
 .exact Gf s (by decide)
 .exact EI s (GE (Nk _))
theorem T7:∀x∈sY,ke a [.val x]=.ok (.val (.bl aj)) [.val x]:=λx b=>O5 (KD ce (by decide) (by decide) x b)
theorem Ky(b:List Int)(xs:List PV)(h:xs.length<=900):∃x∈sY,∃d,d.length<=xs.length+1/\zd a [fi b,.own (.lst xs)]=.ok (.val x) [fi b,.own (.lst d)]:=by
 obtain⟨x,g,c⟩:=BX (a:=a) b xs sY ∅ (by decide);refine⟨x,g,xs++[.int 0],by simp,?_⟩;have f:xQ (.tup [.str [97]]) (.int 10)=aa (.tup (bE 10 (.str [97]))):=by show(if([PV.str [97]]≠[]/\(2:Int)<=10/\(10:Int)<=1000/\[PV.str [97]].length<=1000)then aa (PV.tup (bE (10:Int).toNat [PV.str [97]]).flatten)else ae)=_;rw[if_pos ⟨by simp,by decide,by decide,by decide⟩];rfl
 simp only[sY]at c;simp[zd,yaG,aI,cO,dB,d2,d1,dV,dC,dL,dF,ap,az,cq,mo,bM,fu,a9,gV,gO,Pu.cm,fA,fJ,cG,eI,fP,R.bind,aM,bv,fV,bu,back,gM,ml,o5,qg,vF,yG,bL,kX,eR,ba,dJ,zb,jc,Ig,j6,yY,Ay,iZ,oP,He,qy,dE,fR,kZ,sX,HD,bE,ln,bI,bj,f];simp at c;simp[aI,cO,dB,d2,d1,dV,dC,dL,dF,ap,az,cq,mo,bM,fu,a9,gV,gO,Pu.cm,fA,fJ,cG,eI,fP,R.bind,aM,bv,fV,bu,back,gM,ml,o5,qg,vF,yG,bL,kX,eR,ba,dJ,zb,jc,Ig,j6,yY,Ay,iZ,oP,He,qy,dE,fR,kZ,sX,HD,bE,ln,c]
end
def bD(m:List (Tx×Int))(x:Tx):Option Int:=(m.find? λp=>decide (p.1=x)).map (·.2)
def c9(m:List (Tx×Int))(x:Tx)(n:Int):List (Tx×Int):=if(m.any λp=>decide (p.1=x))=ah then m.map (λp=>if p.1=x then(p.1,n)else p)else m++[(x,n)]
def dk(m:List (Tx×Int)):List (aE×PV):=m.map λp=>(Sum.inr (tS p.1),PV.int p.2)
theorem Cq(x y:Tx):((Sum.inr (tS x):aE)=Sum.inr (tS y))=(x=y):=propext ⟨λh=>xV (Sum.inr.inj h),λh=>by rw[h]⟩
theorem uK(m:List (Tx×Int))(x:Tx):jN (dk m) (Sum.inr (tS x))=(bD m x).map .int:=by
 induction m with
 |nil=>rfl
 |cons p m a=>
  show((List.find? _ ((Sum.inr (tS p.1),PV.int p.2)::dk m)).map (·.2))=_;unfold bD;rw[kt,kt];simp only[Cq];by_cases h:p.1=x
  .simp[h]
  .simp only[h,decide_false];exact a
theorem TX(m:List (Tx×Int))(x:Tx):((dk m).any λa=>decide (a.1=(Sum.inr (tS x):aE)))=m.any λp=>decide (p.1=x):=by unfold dk;rw[List.any_map];congr 1;funext p;simp only[rF,Cq]
theorem xJ(m:List (Tx×Int))(x:Tx)(n:Int):oR (dk m) (Sum.inr (tS x)) (.int n)=dk (c9 m x n):=by
 unfold oR c9;rw[TX];split
 .unfold dk;rw[dA,dA];refine ji λp _=>?_;simp only[rF,Cq];split <;> rfl
 .unfold dk;simp
theorem Hl(m:List (Tx×Int)):qK (dk m)=aa (m.any λp=>decide (p.2≠0)):=by
 induction m with
 |nil=>rfl
 |cons p m a=>show(qK (dk m)).map _=_;rw[a];simp
theorem xw{m:List (Tx×Int)}{x:Tx}(h:(m.any λp=>decide (p.1=x))=aj):bD m x=ae:=by unfold bD;rw[Option.map_eq_none_iff,DB];intro p a;have:=Je.mp h p a;simpa using this
theorem Oh{m:List (Tx×Int)}{x y:Tx}{n:Int}(h:(m.any λp=>decide (p.1=x))=aj):bD (m++[(x,n)]) y=if y=x then aa n else bD m y:=by
 have a:=xw h;unfold bD at a ⊢;rw[List.find?_append];by_cases e:y=x
 .subst e;rw[Option.map_eq_none_iff]at a;simp[a]
 .rw[if_neg e];have:¬x=y:=λz=>e z.symm;cases b:m.find? (λp=>decide (p.1=y))with
  |none=>simp[this]
  |some p=>simp
theorem Lr{m:List (Tx×Int)}{x y:Tx}{n:Int}:bD (m.map λp=>if p.1=x then(p.1,n)else p) y=(bD m y).map λz=>if y=x then n else z:=by
 induction m with
 |nil=>rfl
 |cons p m a=>
  unfold bD at a ⊢;rw[cn,kt,kt];by_cases h:p.1=x
  .rw[if_pos h];by_cases e:p.1=y
   .simp[e,show y=x from e.symm.trans h]
   .simp only[e,decide_false];exact a
  .rw[if_neg h];by_cases e:p.1=y
   .simp[e,show ¬y=x from λz=>h (e.trans z)]
   .simp only[e,decide_false];exact a
theorem II{m:List (Tx×Int)}{x:Tx}(h:(m.any λp=>decide (p.1=x))=ah):∃n,bD m x=aa n:=by
 unfold bD;cases a:m.find? (λp=>decide (p.1=x))with
 |none=>rw[DB]at a;obtain⟨p,c,b⟩:=ue.mp h;exact absurd b (a p c)
 |some p=>exact⟨_,rfl⟩
theorem nu(m:List (Tx×Int))(x y:Tx)(n:Int):bD (c9 m x n) y=if y=x then aa n else bD m y:=by
 unfold c9;by_cases h:(m.any λp=>decide (p.1=x))=ah
 .rw[if_pos h,Lr];by_cases e:y=x
  .subst e;obtain⟨k,a⟩:=II h;rw[a];simp
  .simp[e]
 .rw[if_neg h,Oh (zM.mpr h)]
structure oY(m:List (Tx×Int))(q:List Tx):Prop where
 nd:(m.map (·.1)).Nodup
 get:∀x,(bD m x).getD 0=(q.count x:Nat)
theorem oY.mem{m:List (Tx×Int)}{q:List Tx}(h:oY m q){p:Tx×Int}(a:p∈m):bD m p.1=aa p.2:=by
 have b:=h.nd;clear h
 induction m with
 |nil=>cases a
 |cons r m c=>
  unfold bD;rw[kt];rcases bn.mp a with rfl|a
  .simp
  .rw[cn,jB]at b;have:¬r.1=p.1:=λz=>b.1 (b8.mpr ⟨p,a,z.symm⟩);simp only[this,decide_false];exact c a b.2
theorem FD{m:List (Tx×Int)}{x:Tx}{n:Int}:(c9 m x n).map (·.1)=if(m.any λp=>decide (p.1=x))=ah then m.map (·.1)else m.map (·.1)++[x]:=by
 unfold c9;split
 .rw[dA];refine ji λp _=>?_;simp only[rF];split <;> rfl
 .simp
theorem qu{m:List (Tx×Int)}{x:Tx}{n:Int}(h:(m.map (·.1)).Nodup):((c9 m x n).map (·.1)).Nodup:=by
 rw[FD];split
 .exact h
 .rename_i f;rw[JJ];refine⟨h,by simp,λa g b c=>?_⟩;rw[gH]at c;subst c;rintro rfl;obtain⟨p,d,rfl⟩:=b8.mp g;exact f (ue.mpr ⟨p,d,by simp⟩)
theorem oY.any{m:List (Tx×Int)}{q:List Tx}(h:oY m q):(m.any λp=>decide (p.2≠0))=!q.isEmpty:=by
 cases q with
 |nil=>rw[J3,l5,Je];intro p b;have a:=h.get p.1;rw[h.mem b]at a;simpa using a
 |cons x q=>
  rw[List.isEmpty_cons,uc,ue];have a:=h.get x;rw[List.count_cons_self]at a;cases e:m.find? (λp=>decide (p.1=x))with
  |none=>unfold bD at a;rw[e]at a;simp at a;lia
  |some p=>unfold bD at a;rw[e]at a;refine⟨p,List.mem_of_find?_eq_some e,?_⟩;simp at a;simp;lia
theorem oY.dec{m:List (Tx×Int)}{q:List Tx}(h:oY m q){x:Tx}(i:x∈q):∃n,bD m x=aa n/\0<n/\oY (c9 m x (n-1)) (q.erase x)/\bD (c9 m x (n-1)) x=aa (n-1)/\c9 (c9 m x (n-1)) x (n-1+1)=m:=by
 have a:=h.get x;have o:0<q.count x:=List.count_pos_iff.mpr i;cases e:bD m x with
 |none=>rw[e]at a;simp at a;lia
 |some n=>
  rw[e]at a;simp only[zW]at a;refine⟨n,rfl,∅,⟨qu h.nd,λy=>?_⟩,by rw[nu,if_pos rfl],?_⟩
  .rw[nu];by_cases c:y=x
   .subst c;rw[if_pos rfl,List.count_erase_self];simp only[zW];lia
   .rw[if_neg c,List.count_erase_of_ne (dW (dW c))];exact h.get y
  .have f:(m.any λp=>decide (p.1=x))=ah:=by
    cases z:(m.any λp=>decide (p.1=x))with
    |true=>rfl
    |false=>rw[xw z]at e;cases e
   have j:((c9 m x (n-1)).any λp=>decide (p.1=x))=ah:=by unfold c9;rw[if_pos f];obtain⟨p,d,b⟩:=ue.mp f;refine ue.mpr ⟨_,b8.mpr ⟨p,d,rfl⟩,?_⟩;rw[decide_eq_true_eq]at b;rw[if_pos b];simpa using b
   have l:c9 (c9 m x (n-1)) x (n-1+1)=(m.map λp=>if p.1=x then(p.1,n-1)else p).map λp=>if p.1=x then(p.1,n-1+1)else p:=by show(if((c9 m x (n-1)).any λp=>decide (p.1=x))=ah then _ else _)=_;rw[if_pos j];unfold c9;rw[if_pos f]
   rw[l,dA];have:∀p∈m,((λp:Tx×Int=>if p.1=x then(p.1,n-1+1)else p) ∘ λp:Tx×Int=>if p.1=x then(p.1,n-1)else p) p=p:=by
    intro p d;simp only[rF];by_cases c:p.1=x
    .rw[if_pos c,if_pos c];have g:=h.mem d;rw[c,e]at g;cases g;rw[show p.2-1+1=p.2 by lia]
    .rw[if_neg c,if_neg c]
   rw[ji this,List.map_id''];intro p;rfl
theorem oY.zero{m:List (Tx×Int)}{q:List Tx}(h:oY m q){x:Tx}(a:x∉q):(bD m x).getD 0=0:=by rw[h.get,U4 a];rfl
section
variable{a:Ad}
theorem S_(b:List Tx)(G:b.length<=100):∃m,oY m b/\m.length<=b.length/\vK a [.val (.tup (ao b))]=.ok (.own (.dK (dk m))) [.val (.tup (ao b))]:=by
 obtain⟨w,v,m,g,l,rfl,f,j,C⟩:=za (i:=2) (db:=(fO 1 (dV 2) (d2 bI (iP 1 (dV 2) (dC (.int 0))) (dC (.int 1)))))
  (I:=λr h=>∃(m:List (Tx×Int)) (g:Slot) (l:List Tx),h=[.val (.tup (ao b)),.own (.dK (dk m)),g]/\oY m l/\m.length<=l.length/\∃q,b=l++q/\r=ao q)
  (by
   rintro x r h ⟨m,g,l,rfl,f,j,q,d,p⟩;cases q with
   |nil=>cases p
   |cons y q=>
    have n:x::r=.str y::ao q:=p;simp only[wg]at n;obtain⟨rfl,rfl⟩:=n;have F:m.length<bj:=by have:=congrArg ln d;simp at this;unfold bj;lia
    refine⟨[.val (.tup (ao b)),.own (.dK (dk (c9 m y ((bD m y).getD 0+1)))),↥y],?_,c9 m y ((bD m y).getD 0+1),_,l++[y],rfl,⟨qu f.nd,λz=>?_⟩,?_,q,by rw[d];simp,rfl⟩
    .have o:=uK m y;have s:=xJ m y ((bD m y).getD 0+1);have u:(dk m).length<bj:=by unfold dk;rw[cN];exact F
     have B:((bD m y).map PV.int).getD (.int 0)=.int ((bD m y).getD 0):=by cases bD m y <;> rfl
     generalize dk m=D at o s u;simp![fO,iP,dq,iD,o,B,bI,u,s]
    .rw[nu];by_cases c:z=y
     .subst c;rw[if_pos rfl,List.count_append,List.count_singleton_self];have:=f.get z;simp only[zW];lia
     .rw[if_neg c,List.count_append,f.get z];have:[y].count z=0:=U4 (~~~c);rw[this];rfl
    .have:(c9 m y ((bD m y).getD 0+1)).length<=m.length+1:=by
      unfold c9;split <;> simp
     rw[fz,zx];lia)
  (ao b) [.val (.tup (ao b)),.own (.dK (dk [])),.none] ⟨[],.none,[],rfl,⟨by simp,λx=>by simp[bD]⟩,by simp,b,by simp,rfl⟩
 obtain⟨q,d,A⟩:=C;have:q=[]:=by cases q with|nil=>rfl|cons=>cases A
 subst this;rw[iR]at d;subst d;refine⟨m,f,j,?_⟩;have E:dk []=[]:=rfl;rw[E]at v;simp![vK,yar,sH,dR,br,hZ,cY,v,k7]
theorem QT{t:Tx}{w:Nat}(b:w<=t.length+1)(c:1<=w):b7 (.str t) (aa ((t.length:Int)-w+1)) ae=aa (.str (t.drop (t.length+1-w))):=by show aa (PV.str (dG t _ ae))=_;rw[show((t.length:Int)-w+1)=((t.length+1-w:Nat):Int) by lia,Bo]
def qz(c:Nat):PV:=.str [c]
theorem GW(w:Nat)(S:1<=w):∀(r u:Nat) (t:Tx) (m:List (Tx×Int)) (q:List Tx) (b:List Tx),r<u->q.length=r->oY m q->w<=t.length+1->t.length+r<=1000->m.length<=1000->b.length+(iL w r t q).length<=bj -> o6 a u [↥t,⇑w,.own (.dK (dk m)),.own (.lst (ao b))]=.ok (.val .non) [↥t,⇑w,.own (.dK (dk m)),.own (.lst (ao (b++iL w r t q)))]
 |0,0,_,_,_,_,h,_,_,_,_,_,_=>absurd h ∅
 |r+1,0,_,_,_,_,h,_,_,_,_,_,_=>absurd h ∅
 |0,u+1,t,m,q,b,_,hq,hm,hw,ht,ux,hs=>by
  have N:q=[]:=JZ.mp hq;subst N;have d:=Hl m;rw[hm.any]at d;simp only[J3,l5]at d;have Z:(ao b).length<bj:=by rw[k6];simp only[iL,zx]at hs;lia
  have e:ao (b++iL w 0 t [])=ao b++[.str t]:=by simp[ao,iL]
  rw[e];generalize dk m=D at d;generalize ao b=L at Z;simp![o6,yam,u8,dq,d,Z]
 |r+1,u+1,t,m,q,b,hf,hq,hm,hw,ht,ux,hs=>by
  have cH:q.isEmpty=aj:=by cases q with|nil=>cases hq|cons=>rfl
  have d:=Hl m;rw[hm.any,cH]at d;simp only[uc]at d;have A:=QT (t:=t) hw S;have a6:bH [.str t]=aa (.int (t.length:Nat)):=rfl;have pO:jx (.int (t.length:Nat)) (.int w)=aa (.int ((t.length:Int)-w)):=rfl;have lw:bI (.int ((t.length:Int)-w)) (.int 1)=aa (.int ((t.length:Int)-w+1)):=rfl
  let H:=t.drop (t.length+1-w)
  let f:=λc=>if H++[c]∈q then iL w r (t++[c]) (q.erase (H++[c]))else []
  have hE:iL w (r+1) t q=ce.flatMap f:=rfl;have hH:H.length<=1000:=by simp only[H,mP];lia
  obtain⟨ε',s,G,F,p,rest,o,M,rfl⟩:=za (i:=5) (db:=(aI (bM 6 (d2 bI (dV 4) (dV 5)))
 (cO (dB (d2 (dE λi j=>decide (j<i)) (iP 2 (dV 6) (dC (.int 0))) (dC (.int 0)))) (aI (fO 2 (dV 6) (d2 jx (nV 2 (dV 6)) (dC (.int 1))))
 (aI (jc (a9 (o6 a u) (gV (d2 bI (dV 0) (dV 5)) (gV (dV 1) (gO 2 (gO 3 (Pu.cm)))))))
 (fO 2 (dV 6) (d2 bI (nV 2 (dV 6)) (dC (.int 1)))))) (dJ))))
   (I:=λJ Q=>∃(G F:Slot) (p rest:Tx),ce=p++rest/\J=rest.map qz/\Q=[↥t,⇑w,.own (.dK (dk m)),.own (.lst (ao (b++p.flatMap f))),↥H,G,F])
   (by
    rintro x J Q ⟨G,F,p,rest,o,W,rfl⟩;cases rest with
    |nil=>cases W
    |cons c rest=>
     have Kg:x::J=qz c::rest.map qz:=W;simp only[wg]at Kg;obtain⟨rfl,rfl⟩:=Kg;have T:bI (.str H) (.str [c])=aa (.str (H++[c])):=Be (by simp[bj];lia);have oE:bI (.str t) (.str [c])=aa (.str (t++[c])):=Be (by simp[bj];lia);have U_:b.length+(p.flatMap f).length+(f c).length<=bj:=by rw[hE,o,List.flatMap_append,ud,fz,fz]at hs;lia
     have X:ao (b++(p++[c]).flatMap f)=ao ((b++p.flatMap f)++f c):=by simp
     by_cases B:H++[c]∈q
     .obtain⟨n,O,g2,g3,g4,g5⟩:=hm.dec B;have g:f c=iL w r (t++[c]) (q.erase (H++[c])):=if_pos B;have v:=GW w S r u (t++[c]) (c9 m (H++[c]) (n-1)) (q.erase (H++[c])) (b++p.flatMap f) ∅ (by rw[DH B,hq];rfl) g3 (by simp;lia) (by simp;lia)
       (by
        have:(c9 m (H++[c]) (n-1)).length=m.length:=by
         have:=congrArg ln (FD (m:=m) (x:=H++[c]) (n:=n-1));have d:(m.any λp=>decide (p.1=H++[c]))=ah:=by
          cases z:(m.any λp=>decide (p.1=H++[c]))with
          |true=>rfl
          |false=>rw[xw z]at O;cases O
         rw[if_pos d]at this;simpa using this
        lia)
       (by rw[<-g,fz];exact U_)
      rw[<-g]at v;have l:=uK m (H++[c]);rw[O]at l;have P:=xJ m (H++[c]) (n-1);have C:=uK (c9 m (H++[c]) (n-1)) (H++[c]);rw[g4]at C;have E:=xJ (c9 m (H++[c]) (n-1)) (H++[c]) (n-1+1);rw[g5,show n-1+1=n by lia]at E;have y:(dk m).length<bj:=by unfold dk;rw[cN];unfold bj;lia
      have Y:(dk (c9 m (H++[c]) (n-1))).length<bj:=by
       unfold dk;rw[cN];have:(c9 m (H++[c]) (n-1)).length<=m.length+1:=by unfold c9;split <;> simp
       unfold bj;lia
      have gt:(0:Int)<n:=g2;refine⟨[↥t,⇑w,.own (.dK (dk m)),.own (.lst (ao (b++(p++[c]).flatMap f))),↥H,.val (.str [c]),↥(H++[c])],?_,_,_,p++[c],rest,by rw[o];simp,rfl,rfl⟩;rw[X];have s1:jx (.int n) (.int 1)=aa (.int (n-1)):=rfl;have s2:bI (.int (n-1)) (.int 1)=aa (.int n):=by show aa (PV.int (n-1+1))=_;congr 2;lia
      simp only[pG]at l C;generalize dk m=D at l P E y;generalize dk (c9 m (H++[c]) (n-1))=D2 at C P E v Y;generalize ao (b++p.flatMap f)=L at v;generalize ao ((b++p.flatMap f)++f c)=L2 at v;clear_value H f;simp![qz,T,iP,nV,fO,dq,iD,l,gt,s1,y,P,oE,v,C,s2,Y,E]
     .have g:f c=[]:=if_neg B;have K:=hm.zero B;have l:=uK m (H++[c]);have hg:((bD m (H++[c])).map PV.int).getD (.int 0)=.int 0:=by
       cases e:bD m (H++[c])with
       |none=>rfl
       |some k=>rw[e]at K;simp at K;subst K;rfl
      refine⟨[↥t,⇑w,.own (.dK (dk m)),.own (.lst (ao (b++(p++[c]).flatMap f))),↥H,.val (.str [c]),↥(H++[c])],?_,_,_,p++[c],rest,by rw[o];simp,rfl,rfl⟩;rw[X,g,iR];generalize dk m=D at l;generalize ao (b++p.flatMap f)=L;clear_value H f;simp![qz,T,iP,dq,iD,l,hg])
   (ce.map qz) [↥t,⇑w,.own (.dK (dk m)),.own (.lst (ao (b++([]:Tx).flatMap f))),↥H,.none,.none] ⟨.none,.none,[],ce,by simp,rfl,rfl⟩
  have kN:rest=[]:=by cases rest with|nil=>rfl|cons=>cases M
  subst kN;rw[iR]at o;rw[hE];rw[<-o]at s;simp only[J1,iR]at s;have kH:hZ (.str [97,98,99])=aa (ce.map qz):=rfl;have Vk:b7 (.str t) (aa ((t.length:Int)-w+1)) ae=aa (.str H):=A;generalize dk m=D at d s;generalize ao b=L at s;generalize ao (b++ce.flatMap f)=L2 at s;clear_value H f;simp![o6,yam,u8,dq,d,bP,bN,bZ,a6,pO,lw,Vk,cY,dR,br,kH,s]
abbrev aP(w:Nat)(b:List Tx):PV:=.tup [.int w,.tup (ao b)]
theorem GZ{b:Type}(xs:List b):dG xs ae (aa (-1))=xs.dropLast:=by unfold dG;rw[show HT.sIx xs.length 0 ae=0 from rfl,C0,Nat.sub_zero,J4];congr 1;show(HT.sIx xs.length xs.length (aa (-1)))=_;show(if(-1:Int)<0 then((-1:Int)+(xs.length:Int)).toNat else min (-1:Int).toNat xs.length)=_;rw[if_pos (by decide)];lia
theorem Qh{w:Nat}{b:List Tx}(g:Good ce w b)(d:1<=w)(f:w<=4):(bS w b).length<=531441:=by rw[vy d g.some λx c=>⟨g.len x c,g.abc x c⟩];refine cX (D1 _ _) ?_;rw[Ch];exact cX (D4 (by decide) (show w-1+b.length<=12 by have:=g.few;lia)) (by decide)
theorem Lc(V:PV)(d:List Tx)(w:Nat)(c b:Slot):kf [] eh (bP b7 (dV 0) bZ (bN (d1 d7 (dC (.int 1))))) (ao d) [] [.val V,⇑w,c,b]=.ok (ao (d.map pM)) [.val V,⇑w,c,b]:=by
 have i:=nG (cap:=[]) (dt:=eh) (de:=(bP b7 (dV 0) bZ (bN (d1 d7 (dC (.int 1)))))) (ε:=[.val V,⇑w,c,b]) (λ_=>ah) (λx=>match x with|.str z=>.str z.dropLast|_=>.non) (ao d)
  (by
   intro x f;obtain⟨z,_,rfl⟩:=b8.mp f;refine⟨by simp![eE,eP,cg,eh],λ_=>?_⟩;have g:b7 (.str z) ae (aa (-1))=aa (.str z.dropLast):=by show aa (PV.str (dG z ae (aa (-1))))=_;rw[GZ]
   have h:d7 (.int 1)=aa (.int (-1)):=rfl;simp![eE,eP,cg,bP,bZ,bN,h,g]) []
 rw[i,kw,wp.mpr (by simp)];unfold ao;rw[dA,dA];rfl
theorem y4{w:Nat}{c:List Tx}(g:Good ce w c)(u:1<=w)(G:w<=4)(W:c.Pairwise (λa b=>dU a b=ah)):iQ a [.val (aP w c)]=.ok (.own (.lst (ao (bS w c)))) [.val (aP w c)]:=by
 have n:=yR (a:=a) (g.vw u G W);have A:aR (aP w c) (.int 0)=aa (.int w):=rfl;have o:aR (aP w c) (.int 1)=aa (.tup (ao c)):=rfl;obtain⟨m,C,K,l⟩:=S_ (a:=a) c (by have:=g.few;lia);have P:m.length<=1000:=by have:=g.few;lia
 let hd:=cb (d_ (c.map pM))
 have E:∀h∈hd,h.length=w-1:=λh M=>by have C:=(u7 _ _).mp ((nB _).mem_iff.mp M);obtain⟨y,S,rfl⟩:=b8.mp C;rw[Dq,g.len y S]
 let f:=λh=>iL w c.length h c
 have N:bS w c=hd.flatMap f:=rfl;have F:=Qh g u G;obtain⟨O,j,v,p,rest,q,B,rfl⟩:=za (i:=3) (db:=(jc (uD (o6 a 12) (sL (dV 3) (sL (dV 1) (gN (kX (a9 (vK a) (gV (d2 aR (dV 0) (dC (.int 1))) (Pu.cm)))) (gO 2 (Pu.cm))))))))
  (I:=λr ε=>∃(v:Slot) (p rest:List Tx),hd=p++rest/\r=ao rest/\ε=[.val (aP w c),⇑w,.own (.lst (ao (p.flatMap f))),v])
  (by
   rintro x r ε ⟨v,p,rest,q,J,rfl⟩;cases rest with
   |nil=>cases J
   |cons h rest=>
    have H:x::r=.str h::ao rest:=J;simp only[wg]at H;obtain⟨rfl,rfl⟩:=H;have M:h.length=w-1:=E h (by rw[q];simp);have s:=GW (a:=a) w u c.length 12 h m c (p.flatMap f) (by have:=g.few;lia) rfl C ∅ (by have:=g.few;lia) P (by rw[N,q,List.flatMap_append,ud,fz,fz]at F;show(p.flatMap f).length+(f h).length<=bj;unfold bj;lia);refine⟨[.val (aP w c),⇑w,.own (.lst (ao ((p++[h]).flatMap f))),↥h],?_,_,p++[h],rest,by rw[q];simp,rfl,rfl⟩;have Y:(p++[h]).flatMap f=p.flatMap f++iL w c.length h c:=by simp[f]
    rw[Y];generalize ao (p.flatMap f)=L at s;generalize ao (p.flatMap f++iL w c.length h c)=L2 at s;generalize dk m=D at s l;simp only[aP]at o ⊢;generalize ao c=T at l o;clear_value f hd;simp![uD,sL,gN,Gj,o,l,s])
  (ao hd) [.val (aP w c),⇑w,.own (.lst (ao (([]:List Tx).flatMap f))),.none] ⟨.none,[],hd,by simp,rfl,rfl⟩
 have Q:rest=[]:=by cases rest with|nil=>rfl|cons=>cases B
 subst Q;rw[iR]at q;rw[<-q,<-N]at j;simp only[J1]at j;have d:=Lc (aP w c) c w (.own (.lst [])) .none;have z:vC [.lst (ao (c.map pM))]=aa (.lst (ao hd)):=by show(fI (ao _)).bind _=_;have h2:=g.few;rw[qc,gk,if_pos (vZ (Rz _) (by rw[cN];lia))]
 have Z:ao ([]:List Tx)=[]:=rfl;rw[Z]at j;generalize ao (bS w c)=L at j;generalize ao hd=D at j z;generalize ao (c.map pM)=D0 at d z;simp only[aP]at n A o d j ⊢;generalize X:ao c=T at n A o d j;clear_value f hd;simp![iQ,yaR,n,A,o,cY,dR,br,hZ,cW,d,z,j,k7]
end
end Sh
namespace Mx
open L2 Pu
def n0(z:Tx)(i:Nat):Nat:=z.getD (i % z.length) 0
def N3(z:Tx)(w:Nat):Tx:=((bE w z).flatten).take (z.length+w-1)
theorem len_sub{l m:List Tx}(a:l.Nodup)(h:∀x∈l,x∈m):l.length<=m.length:=by
 induction l generalizing m with
 |nil=>simp
 |cons x l d=>rw[jB]at a;have c:x∈m:=h x (by simp);have:=d (m:=m.erase x) a.2 λy b=>(List.mem_erase_of_ne (λz=>a.1 (by rw[<-z];exact b))).mpr (h y (by simp[b]));rw[DH c]at this;have f:0<m.length:=List.length_pos_of_mem c;rw[cE];lia
end Mx
namespace Sh
open L2 Pu Mx
section
variable{a:Ad}
def E7(t:Tx)(v:Nat):List Tx:=(cr (t.length+1-v)).map λi=>(t.drop i).take v
def sE(b c:Nat):List Nat:=List.range' b (c-b)
def part(t:Tx)(i j:Nat):Tx:=(t.drop i).take (j-i)
theorem Qk(t:Tx)(j:Nat):b7 (.str t) ae (aa (j:Nat))=aa (.str (t.take j)):=by show aa (PV.str (dG t ae (aa (j:Nat))))=_;rw[AY]
def n0(b:List Tx)(i:Nat):Tx:=b.getD i []
def RT(t:Tx)(s e g l:Nat):Tx:=t.take s++part t g l++part t e g++part t s e++t.drop l
def R5(t:Tx)(b:List Tx)(s g e:Nat):List Tx:=(sE (g+1) b.length).flatMap λl=>if n0 b e=n0 b l then [RT t s e g l] else []
def Oj(t:Tx)(b:List Tx)(s g:Nat):List Tx:=(sE (s+1) (g+1)).flatMap λe=>R5 t b s g e
theorem FW{i:Nat}{b:ak}{c:PO}(h:b[i]?=aa (.own c)):k7 i b=.ok (.ret (.own c)) (b.set i .none):=by unfold k7;rw[h]
theorem yu{i:Nat}{c:ac (List PV)}{db:ac aK}{ε ε1 b:ak}{xs:List PV}(h:c ε=.ok xs ε1)(d:d8 i db xs ε1=.ok .next b):dR i c db ε=.ok .next b:=by unfold dR;rw[h];exact d
theorem Is{i:Nat}{d:ac (List PV)}{f:ac aK}{c ε1 b:ak}{xs:List PV}(h:d c=.ok xs ε1)(g:d8 i f xs ε1=.ok .next b):(λc=>cY (dR i d f c)) c=.ok .next b:=by show cY _=_;rw[yu h g];rfl
theorem Mi{i:Nat}{c:ac (List PV)}{d d2:ac aK}{ε ε1 b:ak}{xs:List PV}(h:c ε=.ok xs ε1)(f:d8 i d xs ε1=.ok .next b):aI (λε=>cY (dR i c d ε)) d2 ε=d2 b :=dy (d1:=λε=>cY (dR i c d ε)) (Is h f)
def Lx(t:Tx)(b:List Tx)(s:Nat):List Tx:=(sE (s+1) b.length).flatMap λg=>if n0 b s=n0 b g then Oj t b s g else []
def QN(t:Tx)(b:List Tx):List Tx:=(sE 0 b.length).flatMap λs=>Lx t b s
theorem FL{i:Nat}{ε:ak}{v:PV}(h:ε[i]?=aa (.val v)):dV i ε=.ok v ε:=by unfold dV;rw[h]
theorem P0{d:Type}{c:ac Bool}{d1 d2:ac d}{ε b:ak}(h:c ε=.ok ah b):cO c d1 d2 ε=d1 b:=by unfold cO;rw[h];rfl
theorem Qc{d:Type}{c:ac Bool}{d1 d2:ac d}{ε b:ak}(h:c ε=.ok aj b):cO c d1 d2 ε=d2 b:=by unfold cO;rw[h];rfl
theorem AI{d:ac PV}{b:Bool}{ε c:ak}(h:d ε=.ok (.bl b) c):dB d ε=.ok b c:=by unfold dB;rw[h];rfl
def Kv(t:Tx)(m w:Nat):List Tx:=(sE 1 m).map λp=>N3 ((t.take m).drop p++(t.take m).take p) w
def OS(t:Tx)(b:List Tx)(w:Nat):List Tx:=if n0 b 0=n0 b (b.length-1)then Kv t (b.length-1) w else []
def MT(t:Tx)(w:Nat):List Tx:=QN t (E7 t (w-1))++OS t (E7 t (w-1)) w
def Mm(t:Tx)(m:Nat):List Tx:=(sE 1 m).map λp=>part (bE 3 (t.take m)).flatten p (p+t.length)
def kU(t:Tx)(b:List Tx):List Tx:=if n0 b 0=n0 b (b.length-1)then Mm t (b.length-1)else []
theorem yg{t:ac Bool}{c:ac aK}{n:Nat}{d ε1 b:ak}(h:t d=.ok ah ε1)(f:c ε1=.ok .next b):fY t c (n+1) d=fY t c n b:=by rw[fY,h,R.bind_ok];simp only;rw[f]
theorem B7{t:ac Bool}{c:ac aK}{n:Nat}{b ε1:ak}(h:t b=.ok aj ε1):fY t c (n+1) b=.ok .next ε1:=by rw[fY,h,R.bind_ok]
end
end Sh
namespace Mx
open L2 Pu
theorem B2{z:Tx}{w:Nat}(a:1<=w):(bY z w).length=z.length+1-w:=by rw[qO z w a];simp
def R0(t:Tx)(w:Nat):List Tx:=(e_ t.length).filter λz=>(bY z w).isPerm (bY t w)
end Mx
namespace Sh
open L2 Pu Mx
abbrev gr(t:Tx)(v i:Nat):Tx:=(t.drop i).take v
theorem AM{t:Tx}{v i:Nat}:(gr t (v+1) i).take v=gr t v i:=by unfold gr;rw[List.take_take,Nat.min_eq_left ∅]
theorem Go{t:Tx}{v i:Nat}:(gr t (v+1) i).tail=gr t v (i+1):=by
 unfold gr;refine pI λk=>?_;rw[List.getElem?_tail,zP,zP,zJ,zJ];by_cases h:k<v
 .rw[if_pos ∅,if_pos h];congr 1;lia
 .rw[if_neg ∅,if_neg h]
theorem Vu{t:Tx}{v:Nat}{x:Tx}:x∈bY t (v+1)↔∃i,i+v<t.length/\x=gr t (v+1) i:=by
 rw[qO _ _ ∅,b8];constructor
 .rintro⟨i,a,rfl⟩;exact⟨i,by have:=kn.mp a;lia,rfl⟩
 .rintro⟨i,a,rfl⟩;exact⟨i,kn.mpr ∅,rfl⟩
theorem Ix{v:Nat}{y:Tx}:∀(k:Nat) (t:Tx) (i:Nat),((List.range' i k).map λj=>if gr t v j=y then 1 else 0).sum+(if gr t v (i+k)=y then 1 else 0)=((List.range' i k).map λj=>if gr t v (j+1)=y then 1 else 0).sum+(if gr t v i=y then 1 else 0)
 |0,t,i=>by simp
 |k+1,t,i=>by have a:=Ix (v:=v) (y:=y) k t (i+1);rw[List.range'_succ,cn,cn,mX,mX,show i+(k+1)=i+1+k by lia];lia
section
variable{v:Nat}
def oc(v:Nat)(M:List Tx)(y:Tx):Nat:=(M.map λx=>if x.take v=y then 1 else 0).sum
def ic(M:List Tx)(y:Tx):Nat:=(M.map λx=>if x.tail=y then 1 else 0).sum
theorem K9{M N:List Tx}(h:M.Perm N)(y:Tx):oc v M y=oc v N y:=(h.map _).sum_nat
theorem Lh{M N:List Tx}(h:M.Perm N)(y:Tx):ic M y=ic N y:=(h.map _).sum_nat
abbrev en(v:Nat)(t:Tx):Tx:=t.drop (t.length-v)
abbrev b2(p:Prop)[Decidable p]:Nat:=if p then 1 else 0
theorem Mp{t:Tx}:gr t v (t.length-v)=en v t:=by unfold gr en;exact pA (by simp;lia)
theorem P_{t:Tx}(h:v<=t.length)(y:Tx):oc v (bY t (v+1)) y+b2 (en v t=y)=ic (bY t (v+1)) y+b2 (t.take v=y):=by
 have:=Ix (v:=v) (y:=y) (t.length-v) t 0;rw[tZ,Mp]at this;unfold oc ic b2;rw[qO _ _ ∅,dA,dA,show t.length+1-(v+1)=t.length-v by lia,List.range_eq_range'];have b:∀j,((λx:Tx=>if x.take v=y then 1 else 0) ∘ λi=>(t.drop i).take (v+1)) j=if gr t v j=y then 1 else 0:=λj=>by show(if(gr t (v+1) j).take v=_ then 1 else 0)=_;rw[AM]
 have a:∀j,((λx:Tx=>if x.tail=y then 1 else 0) ∘ λi=>(t.drop i).take (v+1)) j=if gr t v (j+1)=y then 1 else 0:=λj=>by show(if(gr t (v+1) j).tail=_ then 1 else 0)=_;rw[Go]
 rw[ji λj _=>b j,ji λj _=>a j];simpa[gr]using this
def FP(v:Nat)(M:List Tx):Prop:=∀V:Tx->Prop,(∃x∈M,V (x.take v))->(∀x∈M,V (x.take v)\/V x.tail->V (x.take v)/\V x.tail)->∀x∈M,V (x.take v)
theorem SZ{t:Tx}{M:List Tx}(a:(bY t (v+1)).Perm M):FP v M:=by
 intro V ⟨x,g,b⟩ m z f;obtain⟨i,l,rfl⟩:=Vu.mp (a.mem_iff.mpr g);obtain⟨j,h,rfl⟩:=Vu.mp (a.mem_iff.mpr f);rw[AM]at b ⊢;have step:∀k,k+v<t.length->(V (gr t v k)↔V (gr t v (k+1))):=λk c=>by have:=m (gr t (v+1) k) (a.mem_iff.mp (Vu.mpr ⟨k,c,rfl⟩));rw[AM,Go]at this;exact⟨λq=>(this (.inl q)).2,λq=>(this (.inr q)).1⟩
 have all:∀k,k+v<t.length->(V (gr t v 0)↔V (gr t v k)):=λk=>by
  induction k with
  |zero=>intro _;exact ou
  |succ k d=>intro c;exact(d ∅).trans (step k ∅)
 exact(all j h).mp ((all i l).mpr b)
end
inductive WN(w:Nat):Nat->Tx->Tx->Prop
 |here (n:Nat) (t:Tx):WN w n t t
 |on {n:Nat}{t u z:Tx}:WN w n t u->z∈MT u w->WN w (n+1) t z
def Full(w:Nat)(t:Tx)(k:Nat):Prop:=∀z∈R0 t w,WN w k t z
theorem BL{i:Nat}{db:ac aK}{c g:Type}(b:c->g->ak)(f:c->Tx->c)(P:c->Prop):∀(xs:List Tx) (a:c) (s:g),P a -> (∀x∈xs,∀a s,P a->P (f a x)/\∃d,db ((b a s).set i (↥x))=.ok .next (b (f a x) d))->∃d,d8 i db (ao xs) (b a s)=.ok .next (b (xs.foldl f a) d)/\P (xs.foldl f a)
 |[],a,s,h,_=>⟨s,rfl,h⟩
 |x::xs,a,s,h,step=>by obtain⟨o,l,q⟩:=step x (by simp) a s h;obtain⟨j,p,n⟩:=BL b f P xs (f a x) l o λy m=>step y (by simp[m]);refine⟨j,?_,n⟩;show d8 i db (.str x::ao xs) _=_;rw[d8,q];exact p
abbrev ks(m:List (Tx×Int)):List Tx:=m.map (·.1)
theorem Ph(m:List (Tx×Int))(z:Tx):(m.any λp=>decide (p.1=z))=decide (z∈ks m):=by rw[mM,ue,decide_eq_true_eq,b8];exact⟨λ⟨p,b,a⟩=>⟨p,b,of_decide_eq_true a⟩,λ⟨p,b,a⟩=>⟨p,b,decide_eq_true a⟩⟩
theorem B1(m:List (Tx×Int))(z:Tx):(bD m z).isSome=decide (z∈ks m):=by
 rw[<-Ph];cases h:m.any λp=>decide (p.1=z)with
 |false=>rw[xw h];rfl
 |true=>obtain⟨n,e⟩:=II h;rw[e];rfl
theorem LM{m:List (Tx×Int)}(a:(ks m).Nodup){z:Tx}{n:Int}:bD m z=aa n↔(z,n)∈m:=by
 induction m with
 |nil=>simp[bD]
 |cons p m b=>
  change ((p::m).map (·.1)).Nodup at a;rw[cn,jB]at a;unfold bD at b ⊢;rw[kt];by_cases c:p.1=z
  .simp only[c,decide_true,pG,bn];constructor
   .intro e;left;rw[<-dO e,<-c]
   .rintro(e|e)
    .rw[<-e]
    .exact absurd (b8.mpr ⟨(z,n),e,rfl⟩) (by rw[<-c];exact a.1)
  .simp only[c,decide_false,bn];rw[b a.2];constructor
   .exact .inr
   .rintro(e|e)
    .exact absurd (by rw[<-e]) c
    .exact e
theorem Qq(m:List (Tx×Int)):(dk m).length=m.length:=by simp[dk]
theorem E5{i:Nat}{db de:ac PV}{c b a:ak}{z:Tx}{n:Int}{m:List (Tx×Int)}(j:de c=.ok (.int n) b)(l:db b=.ok (.str z) a)(d:∃x,dq b i=aa x)(g:dq a i=aa (dk m))(h:m.length<bj):fO i db de c=.ok .next (a.set i (.own (.dK (dk (c9 m z n))))):=by unfold fO;obtain⟨x,f⟩:=d;rw[j,R.bind_ok,f];simp only[cJ,R.bind_ok];rw[l,R.bind_ok,g];simp only[cJ,R.bind_ok];show(aM (aa (Sum.inr (tS z))) a).bind _=_;simp only[cJ,R.bind_ok];rw[Qq,if_pos h,xJ]
def cT(ks:List Tx):List (aE×PV):=ks.map λx=>(Sum.inr (tS x),PV.bl ah)
def fH(ks:List Tx)(x:Tx):List Tx:=if x∈ks then ks else ks++[x]
theorem VH{ks:List Tx}{x z:Tx}:z∈fH ks x↔z∈ks\/z=x:=by
 unfold fH;by_cases c:x∈ks
 .rw[if_pos c];exact⟨.inl,λh=>h.elim id λe=>e ▸ c⟩
 .rw[if_neg c];simp
theorem Fy{ks:List Tx}{x:Tx}(h:ks.Nodup):(fH ks x).Nodup:=by
 unfold fH;by_cases c:x∈ks
 .rw[if_pos c];exact h
 .rw[if_neg c];exact JJ.mpr ⟨h,by simp,λa f b d e=>by simp at d;subst d;subst e;exact c f⟩
theorem yJ{ks:List Tx}{x:Tx}:ks.length<=(fH ks x).length/\(x∉ks->ks.length<(fH ks x).length):=by
 unfold fH;by_cases c:x∈ks
 .rw[if_pos c];exact⟨aZ _,λq=>absurd c q⟩
 .rw[if_neg c];simp
theorem FA(ks:List Tx)(x:Tx):((cT ks).any λa=>decide (a.1=(Sum.inr (tS x):aE)))=decide (x∈ks):=by
 unfold cT;rw[List.any_map,mM,ue,decide_eq_true_eq];constructor
 .rintro⟨z,c,b⟩;have:=of_decide_eq_true b;rw[<-xV (Sum.inr.inj this)];exact c
 .intro h;exact⟨x,h,by simp⟩
theorem SG(ks:List Tx)(x:Tx):oR (cT ks) (Sum.inr (tS x)) (.bl ah)=cT (fH ks x):=by
 unfold oR fH;rw[FA];by_cases c:x∈ks
 .rw[decide_eq_true c,if_pos rfl,if_pos c];unfold cT;rw[dA];refine ji λz _=>?_;simp only[rF];split
  .rfl
  .rfl
 .rw[decide_eq_false c,if_neg (by simp),if_neg c];unfold cT;simp
theorem OY(ks:List Tx)(x:Tx):(jN (cT ks) (Sum.inr (tS x))).isSome=decide (x∈ks):=by rw[<-FA];unfold jN;rw[CU,List.isSome_find?]
theorem xM(ks:List Tx):(cT ks).length=ks.length:=by simp[cT]
theorem Bb{neg:Bool}{i:Nat}{db:ac PV}{ε a:ak}{z:Tx}{ks:List Tx}(c:db ε=.ok (.str z) a)(b:dq a i=aa (cT ks)):gc neg i db ε=.ok (.bl (neg^^decide (z∈ks))) a:=by unfold gc;rw[c,R.bind_ok,b];simp only[cJ,R.bind_ok];show aM (aa (PV.bl (neg^^(jN (cT ks) (.inr (tS z))).isSome))) a=_;rw[OY];rfl
theorem Ex{i:Nat}{db de:ac PV}{ε b a:ak}{z:Tx}{ks:List Tx}(h:de ε=.ok (.bl ah) b)(j:db b=.ok (.str z) a)(c:∃x,dq b i=aa x)(f:dq a i=aa (cT ks))(g:ks.length<bj):fO i db de ε=.ok .next (a.set i (.own (.dK (cT (fH ks z))))):=by unfold fO;obtain⟨x,d⟩:=c;rw[h,R.bind_ok,d];simp only[cJ,R.bind_ok];rw[j,R.bind_ok,f];simp only[cJ,R.bind_ok];show(aM (aa (Sum.inr (tS z))) a).bind _=_;simp only[cJ,R.bind_ok];rw[xM,if_pos g,SG]
def rS(ks:List Tx)(x:Tx):List Tx:=if x.dropLast∈ks\/x.tail∈ks then fH (fH ks x.dropLast) x.tail else ks
theorem ON{ks:List Tx}{x z:Tx}(h:z∈ks):z∈rS ks x:=by
 unfold rS;split
 .exact VH.mpr (.inl (VH.mpr (.inl h)))
 .exact h
theorem Hb:∀(a:List Tx) {ks:List Tx}{z:Tx},z∈ks->z∈a.foldl rS ks
 |[],_,_,h=>h
 |x::a,_,_,h=>Hb a (ON h)
theorem Eo{ks:List Tx}{x:Tx}(h:ks.Nodup):(rS ks x).Nodup:=by
 unfold rS;split
 .exact Fy (Fy h)
 .exact h
theorem Ek:∀(a:List Tx) {ks:List Tx},ks.Nodup->(a.foldl rS ks).Nodup
 |[],_,h=>h
 |x::a,_,h=>Ek a (Eo h)
theorem Bs(ks:List Tx)(x:Tx):ks.length<=(rS ks x).length:=by
 unfold rS;split
 .exact cX yJ.1 yJ.1
 .exact aZ _
theorem uH:∀(a ks:List Tx),ks.length<=(a.foldl rS ks).length
 |[],ks=>aZ _
 |x::a,ks=>cX (Bs ks x) (uH a (rS ks x))
theorem yU:∀(a ks:List Tx),(a.foldl rS ks).length=ks.length->∀x∈a,x.dropLast∈ks\/x.tail∈ks->x.dropLast∈ks/\x.tail∈ks
 |[],_,_,x,b=>by simp at b
 |y::a,ks,h,x,b=>by
  rw[jX]at h;have n:=Bs ks y;have m:=uH a (rS ks y);have d:(rS ks y).length=ks.length:=∅
  have same:rS ks y=ks/\(y.dropLast∈ks\/y.tail∈ks->y.dropLast∈ks/\y.tail∈ks):=by
   unfold rS at d ⊢;by_cases c:y.dropLast∈ks\/y.tail∈ks
   .rw[if_pos c]at d ⊢;have l:=yJ (ks:=ks) (x:=y.dropLast);have i:=yJ (ks:=fH ks y.dropLast) (x:=y.tail);have g:y.dropLast∈ks:=Classical.byContradiction λq=>by have:=l.2 q;lia
    have j:fH ks y.dropLast=ks:=by unfold fH;rw[if_pos g]
    rw[j]at i d ⊢;have f:y.tail∈ks:=Classical.byContradiction λq=>by have:=i.2 q;lia
    exact⟨by unfold fH;rw[if_pos f],λ_=>⟨g,f⟩⟩
   .rw[if_neg c];exact⟨rfl,λq=>absurd q c⟩
  rcases bn.mp b with rfl|b
  .exact same.2
  .rw[same.1]at h;exact yU a ks h x b
theorem EV{V:Tx->Prop}:∀(b ks:List Tx),(∀x∈b,V x.dropLast\/V x.tail->V x.dropLast/\V x.tail)->(∀z∈ks,V z)->∀z∈b.foldl rS ks,V z
 |[],_,_,h,z,d=>h z d
 |x::b,ks,g,h,z,d=>by
  refine EV b (rS ks x) (λy a=>g y (by simp[a])) (λy a=>?_) z d;unfold rS at a;split at a
  .rename_i c;have f:=g x (by simp) (c.imp (h _) (h _));rcases VH.mp a with a|rfl
   .rcases VH.mp a with a|rfl
    .exact h y a
    .exact f.1
   .exact f.2
  .exact h y a
theorem Aq:∀(a ks:List Tx),(a.foldl rS ks).length=ks.length->a.foldl rS ks=ks
 |[],_,_=>rfl
 |y::a,ks,h=>by
  rw[jX]at h ⊢;have l:=Bs ks y;have j:=uH a (rS ks y);have e:rS ks y=ks:=by
   have i:(rS ks y).length=ks.length:=∅
   have b:=yU [y] ks i y (by simp);unfold rS;by_cases c:y.dropLast∈ks\/y.tail∈ks
   .obtain⟨g,f⟩:=b c;have d:fH ks y.dropLast=ks:=by unfold fH;rw[if_pos g]
    rw[if_pos c,d];unfold fH;rw[if_pos f]
   .rw[if_neg c]
  rw[e]at h ⊢;exact Aq a ks h
def iH(a:List Tx):List Tx:=a.map pM++a.map List.tail
theorem IW{b ks:List Tx}(h:∀z∈ks,z∈iH b){x:Tx}(c:x∈b):∀z∈rS ks x,z∈iH b:=λz a=>by
 unfold rS at a;split at a
 .rcases VH.mp a with a|rfl
  .rcases VH.mp a with a|rfl
   .exact h z a
   .exact vS _ (b8.mpr ⟨x,c,rfl⟩)
  .exact lm _ (b8.mpr ⟨x,c,rfl⟩)
 .exact h z a
structure Rch(ls ks:List Tx):Prop where
 nd:ks.Nodup
 sub:∀z∈ks,z∈iH ls
 start:∀x r,ls=x::r->x.dropLast∈ks
 least:∀V:Tx->Prop,(∀x∈ls,V x.dropLast\/V x.tail->V x.dropLast/\V x.tail)->(∀x r,ls=x::r->V x.dropLast)->∀z∈ks,V z
theorem Rch.few{a ks:List Tx}(h:Rch a ks):ks.length<=2*a.length:=by have:=len_sub h.nd h.sub;unfold iH at this;simp at this;lia
theorem Rch.next{a ks:List Tx}(h:Rch a ks):Rch a (a.foldl rS ks):=by
 refine⟨Ek a h.nd,?_,λx r e=>Hb a (h.start x r e),λV d i=>EV a ks d (h.least V d i)⟩;have b:∀(l:List Tx) (ks:List Tx),(∀x∈l,x∈a)->(∀z∈ks,z∈iH a)->∀z∈l.foldl rS ks,z∈iH a:=by
  intro l
  induction l with
  |nil=>exact λks _ h=>h
  |cons x l f=>exact λks c h=>f (rS ks x) (λy g=>c y (by simp[g])) (IW h (c x (by simp)))
 exact b a ks (λ_ h=>h) h.sub
section
variable{a:Ad}
theorem y_(x:Tx):b7 (.str x) ae (aa (-1))=aa (.str x.dropLast):=by show aa (PV.str (dG x ae (aa (-1))))=_;rw[GZ]
theorem EF(x:Tx):b7 (.str x) (aa 1) ae=aa (.str x.tail):=by show aa (PV.str (dG x (aa ((1:Nat):Int)) ae))=_;rw[Bo,List.drop_one]
def u9:ac PV:=bP b7 (dV 3) (bZ) (bN (d1 d7 (dC (.int 1))))
def uN:ac PV:=bP b7 (dV 3) (bN (dC (.int 1))) (bZ)
def rI:ac aK:=cO (iZ (dB (gc aj 1 u9)) (dB (gc aj 1 uN))) (aI (fO 1 u9 (dC (.bl ah))) (fO 1 uN (dC (.bl ah)))) (dJ)
def rC:ac Bool:=dB (d2 (dE λi j=>decide (i<j)) (dV 2) (nQ 1))
def rB:ac aK:=aI (bM 2 (nQ 1)) (dR 3 (br (dV 0)) rI)
theorem Te:yaO a=aI (fu 1 (uL (bP b7 (d2 aR (dV 0) (dC (.int 0))) (bZ) (bN (d1 d7 (dC (.int 1))))) (dC (.bl ah)))) (aI (bM 2 (dC (.int 0))) (aI (λb=>cY (fY rC rB 1000 b)) (k7 1))):=rfl
def dS(W:PV)(ks:List Tx)(n:Nat)(b:Slot):ak:=[.val W,.own (.dK (cT ks)),⇑n,b]
theorem Ib(W:PV)(ks:List Tx)(n:Nat)(x:Tx):u9 (dS W ks n (↥x))=.ok (.str x.dropLast) (dS W ks n (↥x)):=by have h:=y_ x;have b:d7 (.int 1)=aa (.int (-1)):=rfl;simp[u9,dS,bP,bZ,bN,dV,d1,dC,R.bind,aM,b,o5,h]
theorem GO(W:PV)(ks:List Tx)(n:Nat)(x:Tx):uN (dS W ks n (↥x))=.ok (.str x.tail) (dS W ks n (↥x)):=by have h:=EF x;simp[uN,dS,bP,bZ,bN,dV,dC,R.bind,aM,o5,h]
theorem I_(W:PV)(d:List Tx)(r:d.length<=100)(q:hZ W=aa (ao d))(ks:List Tx)(h:Rch d ks)(n:Nat)(f:Slot):∃j,dR 3 (br (dV 0)) rI (dS W ks n f)=.ok .next (dS W (d.foldl rS ks) n j):=by
 obtain⟨j,e,_⟩:=BL (i:=3) (db:=rI) (λks f=>dS W ks n f) rS (λks=>ks.Nodup/\∀z∈ks,z∈iH d) d ks f ⟨h.nd,h.sub⟩
  (by
   rintro x p ks f ⟨g,l⟩;refine⟨⟨Eo g,IW l p⟩,↥x,?_⟩;have u:ks.length<=200:=by have:=len_sub g l;unfold iH at this;simp at this;lia
   have o:=AI (Bb (neg:=aj) (i:=1) (Ib W ks n x) rfl);have m:=AI (Bb (neg:=aj) (i:=1) (GO W ks n x) rfl);rw[zT]at o m;have b:iZ (dB (gc aj 1 u9)) (dB (gc aj 1 uN)) (dS W ks n (↥x))=.ok (decide (x.dropLast∈ks\/x.tail∈ks)) (dS W ks n (↥x)):=by
    unfold iZ;rw[o,R.bind_ok];by_cases c:x.dropLast∈ks
    .rw[decide_eq_true c,decide_eq_true (.inl c)]
    .rw[decide_eq_false c];simp only;rw[m];congr 1;simp[c]
   show rI (dS W ks n (↥x))=_;unfold rI rS;by_cases c:x.dropLast∈ks\/x.tail∈ks
   .rw[decide_eq_true c]at b;rw[if_pos c];refine(P0 b).trans ?_;have g:=Ex (i:=1) (de:=dC (.bl ah)) (ε:=dS W ks n (↥x)) rfl (Ib W ks n x) ⟨_,rfl⟩ rfl (by unfold bj;lia);refine(dy g).trans ?_;have s:(fH ks x.dropLast).length<=ks.length+1:=by unfold fH;split <;> simp
    exact Ex (i:=1) (de:=dC (.bl ah)) (ε:=dS W (fH ks x.dropLast) n (↥x)) rfl (GO W (fH ks x.dropLast) n x) ⟨_,rfl⟩ rfl (by unfold bj;lia)
   .rw[decide_eq_false c]at b;rw[if_neg c];exact(Qc b).trans rfl)
 refine⟨j,yu ?_ e⟩;unfold br;rw[FL (v:=W) rfl,R.bind_ok,q];rfl
theorem xy(W:PV)(ks:List Tx)(n:Nat)(b:Slot):rC (dS W ks n b)=.ok (decide (n<ks.length)) (dS W ks n b):=by
 have d:nQ 1 (dS W ks n b)=.ok (.int (ks.length:Nat)) (dS W ks n b):=by show R.ok (PV.int ((cT ks).length:Nat)) _=_;rw[xM]
 have c:decide ((n:Int)<(ks.length:Nat))=decide (n<ks.length):=by
  by_cases q:n<ks.length
  .rw[decide_eq_true q,decide_eq_true ∅]
  .rw[decide_eq_false q,decide_eq_false ∅]
 refine AI (mD (x:=.int n) (FL rfl) d ?_);show aa (PV.bl (decide ((n:Int)<(ks.length:Nat))))=_;rw[c]
theorem Rk(W:PV)(b:List Tx)(v:b.length<=100)(w:hZ W=aa (ao b)):∀(j:Nat) (ks:List Tx) (n l:Nat) (g:Slot),2*b.length<=ks.length+j->j+2<=l->n<ks.length->Rch b ks -> ∃d r i,Rch b d/\(∀x∈b,x.dropLast∈d\/x.tail∈d->x.dropLast∈d/\x.tail∈d)/\fY rC rB l (dS W ks n g)=.ok .next (dS W d r i):=by
 intro j
 induction j with
 |zero=>
  intro ks n l g G F s h;obtain⟨f,rfl⟩:∃f,l=f+1+1:=⟨l-2,∅⟩
  obtain⟨i,e⟩:=I_ W b v w ks h ks.length g;have I:=h.few;have H:=h.next.few;have D:=uH b ks;have p:=Aq b ks ∅;have u:=yU b ks (by rw[p]);rw[p]at e;have c:=xy W ks n g;rw[decide_eq_true s]at c;have m:rB (dS W ks n g)=.ok .next (dS W ks ks.length i):=by
   unfold rB;have k:bM 2 (nQ 1) (dS W ks n g)=.ok .next (dS W ks ks.length g):=by refine vA (x:=.int (ks.length:Nat)) (ε1:=dS W ks n g) ?_;show R.ok (PV.int ((cT ks).length:Nat)) _=_;rw[xM]
   exact(dy k).trans e
  have o:=xy W ks ks.length i;rw[decide_eq_false (fj _)]at o;exact⟨ks,ks.length,i,h,u,(yg c m).trans (B7 o)⟩
 |succ j E=>
  intro ks n l g G F s h;obtain⟨f,rfl⟩:∃f,l=f+1:=⟨l-1,∅⟩
  obtain⟨i,e⟩:=I_ W b v w ks h ks.length g;have D:=uH b ks;have c:=xy W ks n g;rw[decide_eq_true s]at c;have m:rB (dS W ks n g)=.ok .next (dS W (b.foldl rS ks) ks.length i):=by
   unfold rB;have k:bM 2 (nQ 1) (dS W ks n g)=.ok .next (dS W ks ks.length g):=by refine vA (x:=.int (ks.length:Nat)) (ε1:=dS W ks n g) ?_;show R.ok (PV.int ((cT ks).length:Nat)) _=_;rw[xM]
   exact(dy k).trans e
  by_cases q:(b.foldl rS ks).length=ks.length
  .have p:=Aq b ks q;have u:=yU b ks q;rw[p]at m;obtain⟨y,rfl⟩:∃y,f=y+1:=⟨f-1,∅⟩
   have o:=xy W ks ks.length i;rw[decide_eq_false (fj _)]at o;exact⟨ks,ks.length,i,h,u,(yg c m).trans (B7 o)⟩
  .obtain⟨d,r,z,C,B,A⟩:=E (b.foldl rS ks) ks.length f i ∅ ∅ ∅ h.next;exact⟨d,r,z,C,B,(yg c m).trans A⟩
theorem Tw(W:PV)(x:Tx)(r:List Tx)(w:r.length<=50)(u:hZ W=aa (ao (x::r)))(d:aR W (.int 0)=aa (.str x)):∃ks,Rch (x::r) ks/\(∀y∈x::r,y.dropLast∈ks\/y.tail∈ks->y.dropLast∈ks/\y.tail∈ks)/\vo a [.val W]=.ok (.own (.dK (cT ks))) [.val W]:=by
 have v:Rch (x::r) [x.dropLast]:=⟨by simp,λz b=>by simp at b;rw[b];simp[iH],λy q e=>by cases e;simp,λV _ p z b=>by simp at b;rw[b];exact p x r rfl⟩
 obtain⟨ks,n,g,i,h,o⟩:=Rk W (x::r) (by simp;lia) u (2*(x::r).length) [x.dropLast] 0 1000 .none ∅ (by simp;lia) (by simp) v;refine⟨ks,i,h,?_⟩;have j:=y_ x;have s:d7 (.int 1)=aa (.int (-1)):=rfl;have m:fu 1 (uL (bP b7 (d2 aR (dV 0) (dC (.int 0))) (bZ) (bN (d1 d7 (dC (.int 1))))) (dC (.bl ah))) [.val W,.none,.none,.none]=.ok .next [.val W,.own (.dK (cT [x.dropLast])),.none,.none]:=by simp[fu,uL,bP,bZ,bN,d2,d1,dV,dC,R.bind,aM,d,s,o5,j,iD,cT]
 have l:bM 2 (dC (.int 0)) [.val W,.own (.dK (cT [x.dropLast])),.none,.none]=.ok .next (dS W [x.dropLast] 0 .none):=rfl;have c:yaO a [.val W,.none,.none,.none]=.ok (.ret (.own (.dK (cT ks)))) [.val W,.none,⇑n,g]:=by rw[Te];refine(dy m).trans ?_;refine(dy l).trans ?_;refine(dy (d1:=λf=>cY (fY rC rB 1000 f)) (by show cY _=_;rw[o];rfl)).trans ?_;exact FW rfl
 unfold vo;generalize yaO a=D at c;generalize cT ks=A at c;simp[bv,fV,bu,bE,c,back,aM,R.bind,gM]
end
def mG(m:List (Tx×Int))(x:Tx):List (Tx×Int):=c9 (c9 m x.dropLast ((bD m x.dropLast).getD 0+1)) x.tail ((bD (c9 m x.dropLast ((bD m x.dropLast).getD 0+1)) x.tail).getD 0-1)
def b1(p:Prop)[Decidable p]:Int:=if p then 1 else 0
theorem QO(m:List (Tx×Int))(x y:Tx):(bD (mG m x) y).getD 0=(bD m y).getD 0+b1 (x.dropLast=y)-b1 (x.tail=y):=by
 unfold mG b1;rw[nu,nu,nu];by_cases b:y=x.tail
 .subst b;by_cases a:x.tail=x.dropLast
  .rw[if_pos rfl,if_pos a,if_pos a.symm,if_pos rfl,a];simp
  .rw[if_pos rfl,if_neg a,if_neg (dW a),if_pos rfl];simp
 .rw[if_neg b,if_neg (dW b)];by_cases a:y=x.dropLast
  .subst a;rw[if_pos rfl,if_pos rfl];simp
  .rw[if_neg a,if_neg (dW a)];simp
theorem NR(m:List (Tx×Int))(x y:Tx):y∈ks (mG m x)↔y∈ks m\/y=x.dropLast\/y=x.tail:=by
 have k:∀(m:List (Tx×Int)) (z:Tx),z∈ks m↔(bD m z).isSome=ah:=λm z=>by rw[B1,decide_eq_true_eq]
 rw[k,k];unfold mG;generalize (bD (c9 m x.dropLast ((bD m x.dropLast).getD 0+1)) x.tail).getD 0-1=n1;generalize (bD m x.dropLast).getD 0+1=n2;rw[nu,nu];by_cases b:y=x.tail
 .rw[if_pos b];simp[b]
 .rw[if_neg b];by_cases a:y=x.dropLast
  .rw[if_pos a];simp[a]
  .rw[if_neg a];simp[b,a]
def jO(a:List Tx):List (Tx×Int):=a.foldl mG []
def exc(ls:List Tx)(y:Tx):Int:=(ls.map λx=>b1 (x.dropLast=y)-b1 (x.tail=y)).sum
theorem Gz:∀(a:List Tx) (m:List (Tx×Int)) (y:Tx),(bD (a.foldl mG m) y).getD 0=(bD m y).getD 0+exc a y
 |[],m,y=>by simp[exc]
 |x::a,m,y=>by rw[jX,Gz a,QO];simp only[exc,cn,mX];lia
theorem Tb(a:List Tx)(y:Tx):(bD (jO a) y).getD 0=exc a y:=by unfold jO;rw[Gz];show 0+_=_;lia
theorem Gb:∀(a:List Tx) (m:List (Tx×Int)),(ks m).Nodup->(ks (a.foldl mG m)).Nodup
 |[],_,h=>h
 |x::a,m,h=>Gb a _ (qu (qu h))
theorem HX(a:List Tx):(ks (jO a)).Nodup:=Gb a [] (by simp)
section
variable{a:Ad}
def vH:ac PV:=bP b7 (dV 2) (bZ) (bN (d1 d7 (dC (.int 1))))
def tw:ac PV:=bP b7 (dV 2) (bN (dC (.int 1))) (bZ)
def xB:ac aK:=aI (fO 1 vH (d2 bI (iP 1 vH (dC (.int 0))) (dC (.int 1)))) (fO 1 tw (d2 jx (iP 1 tw (dC (.int 0))) (dC (.int 1))))
theorem Ps:yas a=aI (fu 1 (sH)) (aI (λb=>cY (dR 2 (br (dV 0)) xB b)) (k7 1)):=rfl
def iE(W:PV)(m:List (Tx×Int))(s:Slot):ak:=[.val W,.own (.dK (dk m)),s]
theorem Fa(W:PV)(m:List (Tx×Int))(x:Tx):vH (iE W m (↥x))=.ok (.str x.dropLast) (iE W m (↥x)):=by have h:=y_ x;have b:d7 (.int 1)=aa (.int (-1)):=rfl;simp[vH,iE,bP,bZ,bN,dV,d1,dC,R.bind,aM,b,o5,h]
theorem Iz(W:PV)(m:List (Tx×Int))(x:Tx):tw (iE W m (↥x))=.ok (.str x.tail) (iE W m (↥x)):=by have h:=EF x;simp[tw,iE,bP,bZ,bN,dV,dC,R.bind,aM,o5,h]
theorem El{i:Nat}{db:ac PV}{b:ak}{z:Tx}{m:List (Tx×Int)}{n:Int}(d:db b=.ok (.str z) b)(c:dq b i=aa (dk m)):iP i db (dC (.int n)) b=.ok (.int ((bD m z).getD n)) b:=by
 unfold iP;rw[c];simp only[cJ,R.bind_ok];rw[d,R.bind_ok];show((R.ok (PV.int n) b).bind _)=_;rw[R.bind_ok,c];simp only[cJ,R.bind_ok];show aM (aa ((jN (dk m) (.inr (tS z))).getD (.int n))) b=_;rw[uK];cases bD m z <;> rfl
theorem Tk(W:PV)(b:List Tx)(K:b.length<=100)(E:hZ W=aa (ao b)):xu a [.val W]=.ok (.own (.dK (dk (jO b)))) [.val W]:=by
 obtain⟨f,e,_⟩:=BL (i:=2) (db:=xB) (λm s=>iE W m s) mG (λm=>(ks m).Nodup/\∀z∈ks m,z∈iH b) b [] .none ⟨by simp,by simp⟩
  (by
   rintro x r m s ⟨j,g⟩;have y:(ks (mG m x)).Nodup:=qu (qu j);have u:x.dropLast∈iH b:=by unfold iH;exact vS _ (List.mem_map_of_mem r)
   have B:x.tail∈iH b:=by unfold iH;exact lm _ (List.mem_map_of_mem r)
   refine⟨⟨y,λz l=>?_⟩,↥x,?_⟩
   .rcases(NR m x z).mp l with h|h|h
    .exact g z h
    .rw[h];exact u
    .rw[h];exact B
   .have few:∀{q:List (Tx×Int)},(ks q).Nodup->(∀z∈ks q,z∈iH b)->q.length<=200:=λ{q} n s=>by
     have:=len_sub n s;unfold iH at this;simp at this;lia
    have J:=few j g;have L:(1000:Nat)<=bj:=by decide
    have G:=El (i:=1) (n:=0) (Fa W m x) rfl;have e1:d2 bI (iP 1 vH (dC (.int 0))) (dC (.int 1)) (iE W m (↥x))=.ok (.int ((bD m x.dropLast).getD 0+1)) (iE W m (↥x)):=by unfold d2;rw[G,R.bind_ok];rfl
    have p:=E5 (i:=1) e1 (Fa W m x) ⟨_,rfl⟩ rfl (m:=m) ∅;generalize d:c9 m x.dropLast ((bD m x.dropLast).getD 0+1)=q at p;have w:(ks q).Nodup:=by rw[<-d];exact qu j
    have v:∀z∈ks q,z∈iH b:=λz l=>by
     have:(bD q z).isSome=ah:=by rw[B1];exact decide_eq_true l
     rw[<-d,nu]at this;by_cases c:z=x.dropLast
     .rw[c];exact u
     .rw[if_neg c,B1,decide_eq_true_eq]at this;exact g z this
    have I:=few w v;have F:=El (i:=1) (n:=0) (Iz W q x) rfl;have H:d2 jx (iP 1 tw (dC (.int 0))) (dC (.int 1)) (iE W q (↥x))=.ok (.int ((bD q x.tail).getD 0-1)) (iE W q (↥x)):=by unfold d2;rw[F,R.bind_ok];rfl
    have f:=E5 (i:=1) H (Iz W q x) ⟨_,rfl⟩ rfl (m:=q) ∅;show xB (iE W m (↥x))=_;unfold xB;refine(dy p).trans ?_;refine Eq.trans (show fO 1 tw _ _=_ from f) ?_;unfold mG;rw[d];rfl)
 have o:yas a [.val W,.none,.none]=.ok (.ret (.own (.dK (dk (jO b))))) [.val W,.none,f]:=by
  rw[Ps];refine(dy (show fu 1 sH [.val W,.none,.none]=.ok .next (iE W [] .none)from rfl)).trans ?_;have C:dR 2 (br (dV 0)) xB (iE W [] .none)=.ok .next (iE W (jO b) f):=by
   unfold dR;have:br (dV 0) (iE W [] .none)=.ok (ao b) (iE W [] .none):=by unfold br;show(R.ok W _).bind _=_;rw[R.bind_ok,E];rfl
   rw[this,R.bind_ok];exact e
  refine(dy (d1:=λε=>cY (dR 2 (br (dV 0)) xB ε)) (by show cY _=_;rw[C];rfl)).trans ?_;exact FW rfl
 unfold xu;generalize yas a=D at o;generalize dk (jO b)=A at o;simp[bv,fV,bu,bE,o,back,aM,R.bind,gM]
end
theorem Pi{a:ak}{i:Nat}{s:Slot}(h:a[i]?=aa s):a.set i s=a:=by
 apply pI;intro j;by_cases b:i=j
 .subst b;rw[fZ (c_.mp h).1,h]
 .rw[eK b]
theorem IG{b:Type}{d:ac b}{x:PV}{ε:ak}{i:Nat}{a:PO}{r:b}(c:ε[i]?=aa (.own a))(f:d [.val x,.own a]=.ok r [.val x,.own a]):cg (eE [i] d x ε)=.ok r ε:=by simp[eE,eP,c,cg,R.bind,aM,cG,eI,f,fA,fP,fJ,Pi c]
section
variable{a:Ad}
def LQ:ac PV:=bP b7 (dV 1) (bZ) (bN (d1 d7 (dC (.int 1))))
def f2(a:Ad):ac aK:=bM 2 (dF (cW [1] (br (dF (Uj 1))) (dB (d2 (dE λi j=>decide (j<i)) (nV 1 (dV 0)) (dC (.int 0)))) (dV 0)))
def f3:ac aK:=cO (dB (d2 (dE λi j=>decide (j<i)) (dL bH (ap (dV 2) (az))) (dC (.int 1)))) (cq (dL ba (ap (dC (.str [116,119,111])) (ap (d2 aR (dV 2) (dC (.int 0))) (ap (d2 aR (dV 2) (dC (.int 1))) (az)))))) (dJ)
def f4:ac aK:=cO (Ay (dB (d2 (eqT aj) (dL bH (ap (dV 2) (az))) (dC (.int 1)))) (dB (d2 (dE λi j=>decide (j<i)) (nV 1 (d2 aR (dV 2) (dC (.int 0)))) (dC (.int 1))))) (cq (dL ba (ap (dC (.str [109,111,114,101])) (ap (d2 aR (dV 2) (dC (.int 0))) (az))))) (dJ)
def f6:ac aK:=bM 4 (dF (QB [3] (OU (ap (dV 0) (az))) (dB (gc aj 2 LQ)) (dV 0)))
def f7:ac aK:=cO (dB (d2 (dE λi j=>decide (i<j)) (dL bH (ap (dV 4) (az))) (dL bH (ap (dV 0) (az))))) (cq (dL ba (ap (dC (.str [97,112,97,114,116])) (ap (dL vc (ap (dV 4) (az))) (az))))) (dJ)
theorem Kk{G:ac Slot}{W:PV}{ε:ak}{i:Nat}{b:PO}(f:ε[0]?=aa (.val W))(d:G [.val W]=.ok (.own b) [.val W])(c:i<ε.length):fu i (kX (a9 G (gV (dV 0) (Pu.cm)))) ε=.ok .next (ε.set i (.own b)):=by simp[fu,kX,a9,gV,Pu.cm,dV,f,R.bind,aM,cG,eI,d,fA,fP,fJ,yG,c]
end
theorem Fz{v:Nat}:∀{ls:List Tx},(∀y∈ls,y.length=v+1)->∀y,exc ls y=(oc v ls y:Int)-(ic ls y:Int)
 |[],_,y=>rfl
 |x::ls,h,y=>by
  have a:=Fz (λz b=>h z (by simp[b])) (ls:=ls) y;have c:x.take v=x.dropLast:=by rw[J4,h x (by simp)];rfl
  have e:exc (x::ls) y=b1 (x.dropLast=y)-b1 (x.tail=y)+exc ls y:=by simp[exc]
  rw[e,a];unfold oc ic b1;simp only[cn,mX,c];split <;> split <;> lia
section
variable{v:Nat}
def pS(v:Nat)(K M:List Tx):Nat:=(K.map λy=>oc v M y-ic M y).sum
theorem sum_le{K:List Tx}{f g:Tx->Nat}(h:∀y∈K,f y<=g y):(K.map f).sum<=(K.map g).sum/\((K.map f).sum=(K.map g).sum->∀y∈K,f y=g y):=by
 induction K with
 |nil=>simp
 |cons x K b=>
  have i:=h x (by simp);obtain⟨d,c⟩:=b λy a=>h y (by simp[a]);rw[cn,cn,mX,mX];refine⟨∅,λe y a=>?_⟩;rcases bn.mp a with rfl|a
  .lia
  .exact c ∅ y a
theorem one_sumN{K:List Tx}(a:K.Nodup)(s:Tx):(K.map λy=>b2 (s=y)).sum=if s∈K then 1 else 0:=by
 induction K with
 |nil=>rfl
 |cons x K b=>
  rw[jB]at a;rw[cn,mX,b a.2];by_cases e:s=x
  .subst e;rw[if_neg a.1];simp[b2]
  .simp[b2,e]
theorem pS_text{K:List Tx}(b:K.Nodup){t:Tx}(h:v<=t.length):pS v K (bY t (v+1))<=1:=by have a:pS v K (bY t (v+1))<=(K.map λy=>b2 (t.take v=y)).sum:=(sum_le λy _=>by have:=P_ h y;lia).1;rw[one_sumN b]at a;split at a <;> lia
theorem pS_perm{K M N:List Tx}(h:M.Perm N):pS v K M=pS v K N:=by unfold pS;rw[ji λy _=>by rw[K9 h,Lh h]]
end
theorem drop_take{v:Nat}{x:Tx}(h:x.length=v+1):x.dropLast=x.take v:=by rw[J4,h];rfl
section
variable{a:Ad}
theorem vals_dk:∀m:List (Tx×Int),oN (dk m)=aa (m.map (·.2))
 |[]=>rfl
 | (x,n)::m=>by show(oN (dk m)).map (n::·)=_;rw[vals_dk m];rfl
theorem dk_exc(b:List Tx):(jO b).map (·.2)=(ks (jO b)).map (exc b):=by
 have c:=HX b;have d:∀y,(bD (jO b) y).getD 0=exc b y:=Tb b;generalize jO b=m at c d;have:∀p∈m,p.2=exc b p.1:=λp f=>by rw[<-d];obtain⟨k,n⟩:=p;have:=(LM c).mpr f;rw[this];rfl
 show _=(m.map (·.1)).map _;rw[dA];exact ji this
theorem pos_sum(K:List Tx)(f g:Tx->Nat):(((K.map λy=>(f y:Int)-(g y:Int)).filter λn=>decide (0<n))).sum=((K.map λy=>f y-g y).sum:Nat):=by
 induction K with
 |nil=>rfl
 |cons y K b=>
  rw[cn,cn,mX];by_cases h:0<(f y:Int)-(g y:Int)
  .rw[List.filter_cons_of_pos (~~~h),mX,b];lia
  .rw[List.filter_cons_of_neg (~~~h),b];lia
theorem ints_dP(l:List Int):sT.intsQ (l.map .int)=aa l:=by
 induction l with
 |nil=>rfl
 |cons i l b=>show(sT.intsQ (l.map .int)).map (i::·)=_;rw[b];rfl
def fewK(b:List Tx):List Tx:=ks (jO b)
theorem few_ret{m:List (aE×PV)}{is:List Int}(f:oN m=aa is){W:PV}{s:Int}(b:sT [.lst ((is.filter λn=>decide (0<n)).map .int)]=aa (.int s)){r:PV}(c:sZ [.int 1,.int s]=aa r):(cq (dL sZ (ap (dC (.int 1)) (ap (dL sT (ap (dF (qC 1)) (az))) (az))))) [.val W,.own (.dK m)]=.ok (.ret (.val r)) [.val W,.own (.dK m)]:=by
 have d:qC 1 [.val W,.own (.dK m)]=.ok (.lst ((is.filter λn=>decide (0<n)).map .int)) [.val W,.own (.dK m)]:=by unfold qC;show(aM (aa m) _).bind _=_;simp only[cJ,R.bind_ok,f]
 generalize ((is.filter λn=>decide (0<n)).map PV.int)=LL at b d;generalize PV.int s=SS at b c;generalize PV.int 1=C1 at c ⊢;generalize qC 1=DP at d;simp![d,b,c]
theorem grd_ret11{d:ac aK}{b:PV}{c e1:Slot}(h:d [.val b,.none]=.ok (.ret c) [.val b,e1])(f:(match c with|.own o=>gM o|_=>ah)=ah):bv 1 [] (bu 1 d) [.val b]=.ok c [.val b]:=by simp[bv,fV,bu,bE,h,back,aM,R.bind]
theorem fewest_for_eq{v:Nat}(b:List Tx)(h:∀y∈b,y.length=v+1)(c:b.length<=100):ze a [.val (.lst (ao b))]=.ok (⇑((max 1 (pS v (fewK b) b):Nat):Int)) [.val (.lst (ao b))]:=by
 have d:=Tk (a:=a) (.lst (ao b)) b c rfl;have f:sT [.lst ((((jO b).map (·.2)).filter λn=>decide (0<n)).map .int)]=aa (.int ((pS v (fewK b) b:Nat):Int)):=by show(sT.intsQ _).map _=_;rw[ints_dP];show aa (PV.int _)=_;rw[dk_exc,ji λy _=>Fz h y,pos_sum];rfl
 have g:sZ [.int 1,.int ((pS v (fewK b) b:Nat):Int)]=aa (.int ((max 1 (pS v (fewK b) b):Nat):Int)):=by show aa (PV.int (if((pS v (fewK b) b:Nat):Int) > 1 then _ else _))=_;congr 2;split <;> lia
 refine grd_ret11 (e1:=.own (.dK (dk (jO b)))) ?_ rfl;unfold yat;refine(dy (Kk (i:=1) (ε:=[.val (.lst (ao b)),.none]) rfl d (by simp))).trans ?_;exact few_ret (vals_dk _) f g
def ftC:ac Bool:=(dB (d2 (dE λi j=>decide (j<i)) (dL bH (ap (dV 1) (az))) (dC (.int 0))))
def ftB(a:Ad):ac aK:=(aI (fu 3 (kX (a9 (vo a) (gV (dV 1) (Pu.cm))))) (aI (bM 2 (d2 bI (dV 2) (bL (a9 (ze a) (gV (dF (cW [3] (br (dV 1)) (dB (gc aj 1 (bP b7 (dV 0) (bZ) (bN (d1 d7 (dC (.int 1))))))) (dV 0))) (Pu.cm)))))) (bM 1 (dF (cW [3] (br (dV 1)) (dB (gc ah 1 (bP b7 (dV 0) (bZ) (bN (d1 d7 (dC (.int 1))))))) (dV 0))))))
def hdB(neg:Bool)(ks:List Tx):PV->Bool
 |.str y=>neg^^decide (y.dropLast∈ks)
 |_=>aj
theorem hd_comp(neg:Bool)(W:PV)(b ks:List Tx)(j:hZ W=aa (ao b))(V d:Slot):dF (cW [3] (br (dV 1)) (dB (gc neg 1 (bP b7 (dV 0) (bZ) (bN (d1 d7 (dC (.int 1))))))) (dV 0)) [V,.val W,d,.own (.dK (cT ks))]=.ok (.lst (ao (b.filter λy=>neg^^decide (y.dropLast∈ks)))) [V,.val W,d,.own (.dK (cT ks))]:=by
 have c:=nG (cap:=[3]) (dt:=dB (gc neg 1 (bP b7 (dV 0) (bZ) (bN (d1 d7 (dC (.int 1))))))) (de:=dV 0) (ε:=[V,.val W,d,.own (.dK (cT ks))]) (hdB neg ks) (λx=>x) (ao b)
  (by
   intro x l;obtain⟨y,_,rfl⟩:=b8.mp l;refine⟨IG (i:=3) rfl ?_,λ_=>IG (i:=3) rfl rfl⟩;have p:bP b7 (dV 0) (bZ) (bN (d1 d7 (dC (.int 1)))) [↥y,.own (.dK (cT ks))]=.ok (.str y.dropLast) [↥y,.own (.dK (cT ks))]:=by have g:d7 (.int 1)=aa (.int (-1)):=rfl;have f:=y_ y;generalize y.dropLast=YD at f;generalize PV.int 1=C1 at g;simp![bP,bN,bZ,g,f]
   have o:=Bb (neg:=neg) (i:=1) (ks:=ks) p rfl;unfold dB;rw[o];rfl) []
 have m:((ao b).filter (hdB neg ks)).map (λx=>x)=ao (b.filter λy=>neg^^decide (y.dropLast∈ks)):=by rw[DY];unfold ao;rw[zX];rfl
 rw[kw,m]at c;generalize ao (b.filter λy=>neg^^decide (y.dropLast∈ks))=FF at c;generalize (dB (gc neg 1 (bP b7 (dV 0) (bZ) (bN (d1 d7 (dC (.int 1)))))))=DT at c;generalize n:(dV 0:ac PV)=DE at c;generalize ao b=PL at c j;generalize cT ks=DK at c;have h:br (dV 1) [V,.val W,d,.own (.dK DK)]=.ok PL [V,.val W,d,.own (.dK DK)]:=by simp[br,dV,R.bind,aM,j]
 generalize br (dV 1)=DI at h;simp[dF,cW,h,c,R.bind,qg,aM]
theorem ft_cond{W:PV}{n:Nat}(d:bH [W]=aa (.int n))(V c b:Slot):ftC [V,.val W,c,b]=.ok (decide (0<n)) [V,.val W,c,b]:=by have:decide ((0:Int)<(n:Nat))=decide (0<n):=decide_eq_decide.mpr ∅;rw[<-this];generalize ((n:Nat):Int)=NN at d;simp![ftC,d]
end
end Sh
namespace Mx
open L2 Pu
def ovD(a w:Tx):Nat->Nat
 |0=>0
 |k+1=>if w.take (k+1) <:+ a then k+1 else ovD a w k
def ov(a w:Tx):Nat:=ovD a w (w.length-1)
theorem Q7{w:Nat}{a:List Tx}(b:1<=w)(d:1<=a.length)(f:∀x∈a,x.length=w/\∀c∈x,c∈ce):(bS w a).Nodup:=by rw[vy b d f];exact(GN _).filter _
theorem Ko{w:Nat}{d:List Tx}(f:1<=w)(i:1<=d.length)(j:∀x∈d,x.length=w/\∀c∈x,c∈ce)(h:d.Pairwise (λa b=>dU a b=ah)){z:Tx}(g:∀c∈z,c∈ce):z∈bS w d↔cb (bY z w)=d:=by
 rw[vy f i j,o_,o0,List.isPerm_iff];constructor
 .rintro⟨_,p⟩;rw[L5 p,HM h]
 .intro e;have p:(bY z w).Perm d:=by rw[<-e];exact(nB _).symm
  have l:=p.length_eq;rw[B2 f]at l;exact⟨⟨∅,g⟩,p⟩
theorem Aj{w:Nat}{a:List Tx}(b:1<=w)(d:1<=a.length)(f:∀x∈a,x.length=w/\∀c∈x,c∈ce){z:Tx}(h:z∈bS w a):z.length=w-1+a.length/\∀c∈z,c∈ce:=by rw[vy b d f,o_,o0]at h;exact h.1
end Mx
namespace Sh
open L2 Pu Mx
def wayS(x:Tx)(p:DrK):List DrK:=[(p.1++[x],p.2),(p.1,p.2++[x])]
def waysT:List Tx->List DrK->List DrK
 |[],W=>W
 |x::l,W=>waysT l (W.flatMap (wayS x))
structure Wyp(ls:List Tx)(p:DrK):Prop where
 ne:p.1≠[]
 s1:p.1.Sublist ls
 s2:p.2.Sublist ls
 perm:(p.1++p.2).Perm ls
theorem Wyp.step{a:List Tx}{p:DrK}(h:Wyp a p)(x:Tx):∀q∈wayS x p,Wyp (a++[x]) q:=λq b=>by
 simp only[wayS,bn,gi,or_false]at b;rcases b with rfl|rfl
 .exact⟨by simp,h.s1.append (D5 _),h.s2.trans (List.sublist_append_left _ _),by show(p.1++[x]++p.2).Perm _;rw[mR];exact((List.perm_append_comm (l₁:=[x]) (l₂:=p.2)).append_left p.1).trans (by rw[<-mR];exact h.perm.append_right _)⟩
 .exact⟨h.ne,h.s1.trans (List.sublist_append_left _ _),h.s2.append (D5 _),by show(p.1++(p.2++[x])).Perm _;rw[<-mR];exact h.perm.append_right _⟩
theorem ways_all:∀(l a:List Tx) (W:List DrK),(∀p∈W,Wyp a p)->∀p∈waysT l W,Wyp (a++l) p
 |[],a,W,h,p,c=>by rw[iR];exact h p c
 |x::l,a,W,h,p,c=>by have:=ways_all l (a++[x]) (W.flatMap (wayS x)) (λq b=>by obtain⟨r,d,b⟩:=J0.mp b;exact(h r d).step x q b) p c;rwa[mR]at this
theorem ways_len:∀(l:List Tx) (W:List DrK),(waysT l W).length=W.length*2^l.length
 |[],W=>by simp[waysT]
 |x::l,W=>by
  rw[waysT,ways_len l];have:(W.flatMap (wayS x)).length=W.length*2:=by
   induction W with
   |nil=>rfl
   |cons p W a=>rw[ud,fz,a,cE];simp[wayS];lia
  rw[this,cE,rA,Nat.mul_assoc,wd 2]
section
variable{a:Ad}
def drVs(W:List DrK):List PV:=W.map drV
def ptI:ac aK:=(aI (kZ 3 (dL ba (ap (d2 nW (dV 4) (dL ba (ap (dV 2) (az)))) (ap (dV 5) (az))))) (kZ 3 (dL ba (ap (dV 4) (ap (d2 nW (dV 5) (dL ba (ap (dV 2) (az)))) (az))))))
theorem add0_tx(l:List Tx)(x:Tx)(h:l.length<=100):nW (.tup (ao l)) (.tup [.str x])=aa (.tup (ao (l++[x]))):=by
 cases l with
 |nil=>rfl
 |cons y l=>show bI (.tup (.str y::ao l)) (.tup [.str x])=_;show(if(PV.str y::ao l)≠[]/\[PV.str x]≠[]/\(PV.str y::ao l).length + [PV.str x].length<=1000 then aa (PV.tup ((PV.str y::ao l)++[.str x]))else ae)=_;rw[if_pos ⟨by simp,by simp,by rw[cE,k6];simp at h ⊢;lia⟩];simp[ao]
theorem ptI_eq{v0 v1 X c b d g:PV}{lg:List PV}(j:nW c (.tup [X])=aa d)(i:nW b (.tup [X])=aa g)(l:lg.length+2<=bj):ptI [.val v0,.val v1,.val X,.own (.lst lg),.val c,.val b]=.ok .next [.val v0,.val v1,.val X,.own (.lst (lg++[.tup [d,b]]++[.tup [c,g]])),.val c,.val b]:=by
 have h:lg.length<bj:=∅
 have f:(lg++[PV.tup [d,b]]).length<bj:=by rw[fz,zx];lia
 unfold ptI;refine(dy (ε1:=[.val v0,.val v1,.val X,.own (.lst (lg++[.tup [d,b]])),.val c,.val b]) ?_).trans ?_
 .simp[kZ,dL,ap,az,dV,d2,ba,fR,R.bind,aM,j,h]
 .generalize (lg++[PV.tup [d,b]])=LG at f;simp[kZ,dL,ap,az,dV,d2,ba,fR,R.bind,aM,i,f]
theorem pt_inner{v0 v1:PV}(x:Tx):∀(W:List DrK) (lg:List PV) (d c:Slot),(∀p∈W,p.1.length<=100/\p.2.length<=100)->lg.length+2*W.length<=1000 -> ∃g j,jV 4 5 ptI (drVs W) [.val v0,.val v1,↥x,.own (.lst lg),d,c]=.ok .next [.val v0,.val v1,↥x,.own (.lst (lg++drVs (W.flatMap (wayS x)))),g,j]
 |[],lg,d,c,_,_=>⟨d,c,by simp[drVs,jV]⟩
 |p::W,lg,d,c,f,n=>by
  rw[cE]at n;obtain⟨u,s⟩:=f p (by simp);have o:=ptI_eq (v0:=v0) (v1:=v1) (lg:=lg) (add0_tx p.1 x u) (add0_tx p.2 x s) (by unfold bj;lia);obtain⟨i,h,l⟩:=pt_inner (v0:=v0) (v1:=v1) x W (lg++[.tup [.tup (ao (p.1++[x])),.tup (ao p.2)]]++[.tup [.tup (ao p.1),.tup (ao (p.2++[x]))]]) (.val (.tup (ao p.1))) (.val (.tup (ao p.2))) (λq m=>f q (by simp[m])) (by simp;lia);refine⟨i,h,?_⟩;show jV 4 5 ptI (.tup [.tup (ao p.1),.tup (ao p.2)]::drVs W) _=_;rw[jV];show(match ptI [.val v0,.val v1,↥x,.own (.lst lg),.val (.tup (ao p.1)),.val (.tup (ao p.2))]with
   |.ok .next b=>jV 4 5 ptI (drVs W) b
   |.ok .cont b=>jV 4 5 ptI (drVs W) b
   |.ok .brk b=>.ok .next b
   |r=>r)=_
  rw[o];dsimp only;rw[l];congr 3;simp[drVs,wayS,drV]
def ptB:ac aK:=(aI (fu 3 (dL eR (az))) (aI (nP 4 5 (br (dV 1)) ptI) (bM 1 (dM 3))))
theorem pt_outer{v0:PV}:∀(l:List Tx) (W:List DrK) (g f d c:Slot),(∀p∈W,p.1.length+l.length<=100/\p.2.length+l.length<=100)->W.length*2^l.length<=400 -> ∃m D v B,d8 2 ptB (ao l) [.val v0,.val (.lst (drVs W)),g,f,d,c]=.ok .next [.val v0,.val (.lst (drVs (waysT l W))),m,D,v,B]
 |[],W,g,f,d,c,_,_=>⟨g,f,d,c,rfl⟩
 |x::l,W,g,f,d,c,o,u=>by
  rw[cE]at o;rw[cE,rA]at u;have I:1<=2^l.length:=Nat.one_le_two_pow;have H:W.length*2<=400:=by have:W.length*2<=W.length*(2^l.length*2):=Nat.mul_le_mul_left _ ∅;lia
  obtain⟨j,i,s⟩:=pt_inner (v0:=v0) (v1:=.lst (drVs W)) x W [] d c (λp n=>by have:=o p n;lia) (by simp;lia);rw[kw]at s;have C:(W.flatMap (wayS x)).length=W.length*2:=by have:=ways_len [x] W;simpa[waysT]using this
  obtain⟨A,z,y,w,E⟩:=pt_outer (v0:=v0) l (W.flatMap (wayS x)) (↥x) (.val (.lst (drVs (W.flatMap (wayS x))))) j i (λq h=>by obtain⟨p,n,h⟩:=J0.mp h;have:=o p n;simp only[wayS,bn,gi,or_false]at h;rcases h with rfl|rfl <;> simp <;> lia) (by rw[C,Nat.mul_assoc,wd 2];exact u);refine⟨A,z,y,w,?_⟩;have G:ptB [.val v0,.val (.lst (drVs W)),↥x,f,d,c]=.ok .next [.val v0,.val (.lst (drVs (W.flatMap (wayS x)))),↥x,.val (.lst (drVs (W.flatMap (wayS x)))),j,i]:=by
   unfold ptB;refine(dy (ε1:=[.val v0,.val (.lst (drVs W)),↥x,.own (.lst []),d,c]) (by rfl)).trans ?_;refine(dy (ε1:=[.val v0,.val (.lst (drVs W)),↥x,.own (.lst (drVs (W.flatMap (wayS x)))),j,i]) ?_).trans ?_
   .unfold nP;show(br (dV 1) [.val v0,.val (.lst (drVs W)),↥x,.own (.lst []),d,c]).bind _=_;have F:br (dV 1) [.val v0,.val (.lst (drVs W)),↥x,.own (.lst []),d,c]=.ok (drVs W) [.val v0,.val (.lst (drVs W)),↥x,.own (.lst []),d,c]:=rfl;rw[F];simp only[R.bind_ok];exact s
   .rfl
  show d8 2 ptB (.str x::ao l) _=_;rw[d8];show(match ptB [.val v0,.val (.lst (drVs W)),↥x,f,d,c]with
   |.ok .next b=>d8 2 ptB (ao l) b
   |.ok .cont b=>d8 2 ptB (ao l) b
   |.ok .brk b=>.ok .next b
   |r=>r)=_
  rw[G];exact E
theorem drs_of:∀{W:List DrK},(∀p∈W,p.1≠[])->drs (drVs W)=aa W
 |[],_=>rfl
 |p::W,h=>by
  show(dr1 (drV p)).bind _=_;have:dr1 (drV p)=aa p:=by show(fI (ao p.1)).bind _=_;rw[qc,gk,qc,gk,if_pos (h p (by simp))]
  rw[this,gk];show(drs (drVs W)).bind _=_;rw[drs_of λq b=>h q (by simp[b])];rfl
theorem uniqKD_mem(l b:List DrK)(x:DrK):x∈l.foldl (λb k=>if k∈b then b else b++[k]) b↔x∈b\/x∈l:=by
 induction l generalizing b with
 |nil=>simp
 |cons y l c=>
  rw[jX,c];by_cases h:y∈b
  .rw[if_pos h];constructor
   .rintro(z|z)
    .exact .inl z
    .exact .inr (by simp[z])
   .rintro(z|z)
    .exact .inl z
    .rcases bn.mp z with rfl|z
     .exact .inl h
     .exact .inr z
  .rw[if_neg h];simp[or_assoc]
theorem uniqKD_len(l b:List DrK):(l.foldl (λb k=>if k∈b then b else b++[k]) b).length<=b.length+l.length:=by
 induction l generalizing b with
 |nil=>simp
 |cons y l c=>
  rw[jX,cE];have:=c (if y∈b then b else b++[y]);split at this
  .rename_i h;rw[if_pos h];lia
  .rename_i h;rw[if_neg h];simp at this;lia
def ptL(x:Tx)(r:List Tx):List DrK:=(sortKD (uniqKD (waysT r [([x],[])]))).filter λp=>decide (0<p.2.length)
theorem ptL_mem{x:Tx}{r:List Tx}{p:DrK}:p∈ptL x r↔p∈waysT r [([x],[])]/\p.2≠[]:=by unfold ptL;rw[o_,show sortKD (uniqKD (waysT r [([x],[])]))=(uniqKD (waysT r [([x],[])])).mergeSort leKD from rfl,(zD _ leKD).mem_iff];unfold uniqKD;rw[uniqKD_mem,decide_eq_true_iff,List.length_pos_iff];simp
theorem ptL_way{x:Tx}{r:List Tx}{p:DrK}(h:p∈ptL x r):Wyp (x::r) p/\p.2≠[]:=by obtain⟨d,c⟩:=ptL_mem.mp h;refine⟨ways_all r [x] [([x],[])] (λq b=>?_) p d,c⟩;rw[gH.mp b];exact⟨by simp,D5 _,List.nil_sublist _,by simp⟩
theorem ptL_len(x:Tx)(r:List Tx):(ptL x r).length<=2^r.length:=by unfold ptL;refine cX (D1 _ _) ?_;rw[show sortKD (uniqKD (waysT r [([x],[])]))=(uniqKD (waysT r [([x],[])])).mergeSort leKD from rfl,(zD _ leKD).length_eq];have c:=uniqKD_len (waysT r [([x],[])]) [];have b:=ways_len r [([x],[])];unfold uniqKD;simp at c b;lia
def rsB:PV->Bool
 |.tup [_,.tup xs]=>decide (0<xs.length)
 |_=>aj
theorem partings_eq(x:Tx)(r:List Tx)(N:r.length<=7):qM a [.val (.tup (ao (x::r)))]=.ok (.own (.lst (drVs (ptL x r)))) [.val (.tup (ao (x::r)))]:=by
 have D:2^r.length<=128:=D4 (by decide) N;obtain⟨m,l,h,g,E⟩:=pt_outer (v0:=.tup (ao (x::r))) r [([x],[])] .none .none .none .none (λp y=>by rw[gH.mp y];simp;lia) (by simp;lia);have O:∀p∈waysT r [([x],[])],p.1≠[]:=λp y=>(ways_all r [x] [([x],[])] (λq I=>by rw[gH.mp I];exact⟨by simp,D5 _,List.nil_sublist _,by simp⟩) p y).ne;have G:(uniqKD (waysT r [([x],[])])).length<=128:=by have C:=uniqKD_len (waysT r [([x],[])]) [];have c:=ways_len r [([x],[])];unfold uniqKD;simp at C c;lia
 have o:sortSetDP [.lst (drVs (waysT r [([x],[])]))]=aa (.lst (drVs (sortKD (uniqKD (waysT r [([x],[])]))))):=by show(drs _).bind _=_;rw[drs_of O,gk,if_pos ∅];rfl
 have u:zl (.tup (ao (x::r))) ae (aa 1)=aa (.tup (ao [x])):=by
  have B:dG (ao (x::r)) ae (aa ((1:Nat):Int))=(ao (x::r)).take 1:=AY _ 1;show(if HT.sIx (ao (x::r)).length 0 ae=0/\HT.sIx (ao (x::r)).length (ao (x::r)).length (aa 1)=(ao (x::r)).length then aa (PV.tup (ao (x::r)))else aa (PV.tup (dG (ao (x::r)) ae (aa 1))))=_;split
  .rename_i J;have C:=J.2;have c:=HT.sIx_nat (ao (x::r)).length (ao (x::r)).length 1;rw[show(aa ((1:Nat):Int))=aa 1 from rfl]at c;rw[c,k6,cE]at C;have H:r=[]:=pB ∅;rw[H]
  .show aa (PV.tup (dG (ao (x::r)) ae (aa ((1:Nat):Int))))=_;rw[B];rfl
 have s:b7 (.tup (ao (x::r))) (aa 1) ae=aa (.tup (ao r)):=by
  have B:dG (ao (x::r)) (aa ((1:Nat):Int)) ae=(ao (x::r)).drop 1:=Bo _ 1;show(if HT.sIx (ao (x::r)).length 0 (aa 1)=0/\HT.sIx (ao (x::r)).length (ao (x::r)).length ae=(ao (x::r)).length then ae else aa (PV.tup (dG (ao (x::r)) (aa 1) ae)))=_;rw[if_neg]
  .show aa (PV.tup (dG (ao (x::r)) (aa ((1:Nat):Int)) ae))=_;rw[B];rfl
  .rintro⟨z,_⟩;have c:=HT.sIx_nat (ao (x::r)).length 0 1;rw[show(aa ((1:Nat):Int))=aa 1 from rfl]at c;rw[c,k6,cE]at z;lia
 have b:=nG (cap:=[]) (dt:=(dB (d2 (dE λi j=>decide (j<i)) (dL bH (ap (d2 aR (dV 0) (dC (.int 1))) (az))) (dC (.int 0))))) (de:=dV 0) (ε:=[.val (.tup (ao (x::r))),.val (.lst (drVs (waysT r [([x],[])]))),m,l,h,g]) rsB (λv=>v) (drVs (sortKD (uniqKD (waysT r [([x],[])]))))
  (by
   intro v F;obtain⟨p,_,rfl⟩:=b8.mp F;have w:aR (drV p) (.int 1)=aa (.tup (ao p.2)):=rfl;have A:bH [.tup (ao p.2)]=aa (.int (p.2.length:Nat)):=by simp[bH,k6]
   have M:rsB (drV p)=decide ((0:Int)<(p.2.length:Nat)):=by show decide (0<(ao p.2).length)=_;rw[k6];exact decide_eq_decide.mpr ∅
   rw[M];generalize ((p.2.length:Nat):Int)=PL at A;generalize ao p.2=P2 at w A;generalize drV p=DV at w;generalize drVs (waysT r [([x],[])])=WW;generalize ao (x::r)=XR;refine⟨?_,λ_=>?_⟩
   .simp![eE,eP,cg,w,A]
   .simp![eE,eP,cg]) []
 have K:((drVs (sortKD (uniqKD (waysT r [([x],[])])))).filter rsB).map (λv=>v)=drVs (ptL x r):=by rw[DY];unfold drVs ptL;rw[zX];congr 1;refine List.filter_congr λp _=>?_;show decide (0<(ao p.2).length)=_;rw[k6]
 rw[kw,K]at b;have n:yaN a [.val (.tup (ao (x::r))),.none,.none,.none,.none,.none]=.ok (.ret (.own (.lst (drVs (ptL x r))))) [.val (.tup (ao (x::r))),.val (.lst (drVs (waysT r [([x],[])]))),m,l,h,g]:=by
  show aI _ (aI (λε=>cY (dR 2 _ ptB ε)) (sd (cW [] _ (dB (d2 (dE λi j=>decide (j<i)) (dL bH (ap (d2 aR (dV 0) (dC (.int 1))) (az))) (dC (.int 0)))) (dV 0)))) _=_;refine(dy (ε1:=[.val (.tup (ao (x::r))),.val (.lst (drVs [([x],[])])),.none,.none,.none,.none]) ?_).trans ?_
  .show _=R.ok aK.next [.val (.tup (ao (x::r))),.val (.lst [.tup [.tup (ao [x]),.tup []]]),.none,.none,.none,.none];generalize ao [x]=PX at u;generalize ao (x::r)=XR at u;simp![bP,bN,bZ,u]
  refine(Mi (xs:=ao r) (ε1:=[.val (.tup (ao (x::r))),.val (.lst (drVs [([x],[])])),.none,.none,.none,.none]) ?_ E).trans ?_
  .have d:hZ (.tup (ao r))=aa (ao r):=rfl;generalize drVs [([x],[])]=D0;generalize ao r=PR at s d;generalize ao (x::r)=XR at s;simp![br,bP,bN,bZ,s,d]
  .have f:br (dF (dL sortSetDP (ap (dV 1) (az)))) [.val (.tup (ao (x::r))),.val (.lst (drVs (waysT r [([x],[])]))),m,l,h,g]=.ok (drVs (sortKD (uniqKD (waysT r [([x],[])])))) [.val (.tup (ao (x::r))),.val (.lst (drVs (waysT r [([x],[])]))),m,l,h,g]:=by
    have d:hZ (.lst (drVs (sortKD (uniqKD (waysT r [([x],[])])))))=aa (drVs (sortKD (uniqKD (waysT r [([x],[])])))):=rfl;generalize drVs (sortKD (uniqKD (waysT r [([x],[])])))=SU at o d;generalize drVs (waysT r [([x],[])])=WW at o;generalize ao (x::r)=XR;simp![br,o,d]
   generalize drVs (sortKD (uniqKD (waysT r [([x],[])])))=SU at f b;generalize drVs (waysT r [([x],[])])=WW at f b;generalize drVs (ptL x r)=PT at b;generalize ao (x::r)=XR at f b;generalize (dB (d2 (dE λi j=>decide (j<i)) (dL bH (ap (d2 aR (dV 0) (dC (.int 1))) (az))) (dC (.int 0))))=DT at b;generalize L:(dV 0:ac PV)=D0 at b;show sd (cW [] (br (dF (dL sortSetDP (ap (dV 1) (az))))) DT D0) _=_;generalize br (dF (dL sortSetDP (ap (dV 1) (az))))=DI at f;simp[sd,cW,f,b,R.bind]
 unfold qM;generalize yaN a=DD at n ⊢;generalize drVs (ptL x r)=PT at n ⊢;generalize ao (x::r)=XR at n ⊢;simp[bv,fV,bu,bE,n,back,gM,aM,R.bind]
end
end Sh
namespace Mx
open L2
theorem wins_at{z:Tx}{w k:Nat}(a:k<w)(d:w<=z.length):(bY z w).map (λx=>x.getD k 0)=(z.drop k).take (z.length+1-w):=by
 rw[qO z w ∅,dA];refine pI λi=>?_;rw[gZ,zP];by_cases c:i<z.length+1-w
 .rw[zC c,if_pos c];have b:i+k<z.length:=∅
  simp[zP,zJ,a,b,Nat.add_comm k i]
 .rw[if_neg c,lX (~~~c)];rfl
theorem take_tells{t u:Tx}{w:Nat}(f:t.length=u.length)(l:w<=t.length)(r:1<=w)(o:(bY t w).Perm (bY u w))(h:t.take (t.length+1-w)=u.take (t.length+1-w)):t=u:=by
 have d:∀k,k<w->t.take (t.length+1-w+k)=u.take (t.length+1-w+k):=by
  intro k
  induction k with
  |zero=>intro _;exact h
  |succ k b=>
   intro v;have b:=b ∅;have p:=o.map (λx=>x.getD (k+1) 0);rw[wins_at ∅ l,wins_at ∅ ∅,<-f]at p;generalize s:t.length+1-w=n at *;obtain⟨m,rfl⟩:∃m,n=m+1:=⟨n-1,∅⟩
   have i:∀z:Tx,z.length=t.length->(z.drop (k+1)).take (m+1)=(z.drop (k+1)).take m++[z.getD (m+1+k) 0]:=λz j=>by
    have c:m<(z.drop (k+1)).length:=by rw[mP];lia
    rw[wc c,zO];congr 2;rw[J5,eM ∅,zW];congr 1;lia
   rw[i t rfl,i u f.symm]at p;have q:(t.drop (k+1)).take m=(u.drop (k+1)).take m:=by have:=congrArg (List.drop (k+1)) b;rw[List.drop_take,List.drop_take]at this;rw[show m+1+k-(k+1)=m by lia]at this;exact this
   rw[q,List.perm_append_left_iff]at p;have g:t.getD (m+1+k) 0=u.getD (m+1+k) 0:=by simpa using p
   have c:m+1+k<t.length:=∅
   have a:m+1+k<u.length:=∅
   rw[show m+1+(k+1)=m+1+k+1 by lia,wc c,wc a,b];congr 2;rw[J5,J5,eM c,eM a]at g;exact g
 have:=d (w-1) ∅;rw[show t.length+1-w+(w-1)=t.length by lia,t9]at this;rw[this,f,t9]
end Mx
namespace Sh
open L2 Pu Mx
theorem nodup_mapO{l:List Tx}{f:Tx->Tx}(h:l.Nodup)(d:∀x∈l,∀y∈l,f x=f y->x=y):(l.map f).Nodup:=by
 induction l with
 |nil=>simp
 |cons x l i=>rw[cn,jB];have g:=jB.mp h;refine⟨λj=>?_,i g.2 λa n b m=>d a (eJ _ n) b (eJ _ m)⟩;obtain⟨y,c,e⟩:=b8.mp j;exact g.1 (d y (eJ _ c) x fK e ▸ c)
theorem texts_pow{w:Nat}{a:List Tx}(d:1<=w)(g:1<=a.length)(h:∀x∈a,x.length=w/\∀c∈x,c∈ce):(bS w a).length<=3^a.length:=by
 have f:∀z∈bS w a,z.length=w-1+a.length/\∀c∈z,c∈ce:=λz b=>Aj d g h b;have i:∀z∈bS w a,(bY z w).Perm a:=λz b=>by rw[vy d g h,o_]at b;exact List.isPerm_iff.mp b.2
 have n:((bS w a).map λz=>z.take a.length).Nodup:=by refine nodup_mapO (Q7 d g h) λz b u j e=>?_;have l:=(f z b).1;have q:=(f u j).1;exact take_tells ∅ ∅ d ((i z b).trans (i u j).symm) (by rw[show z.length+1-w=a.length by lia];exact e)
 have:=len_sub (m:=e_ a.length) n λx o=>by obtain⟨z,b,rfl⟩:=b8.mp o;have l:=(f z b).1;exact(o0 _ _).mpr ⟨by rw[lQ];lia,λc p=>(f z b).2 c (D3 p)⟩
 rw[cN,Ch]at this;exact this
def kyT(x y:Tx):List Tx:=[if y<x then y else x,if x<y then y else x]
def fdP(a:List (List Tx)):List (gb×PV):=a.map λk=>(iB k,.bl ah)
def Sf(a:List (List Tx)):Prop:=∀k∈a,k≠[]/\∀y∈k,y.length<=bj
theorem fd_put(a:List (List Tx))(k:List Tx):∃b,se (fdP a) (iB k) (.bl ah)=fdP b/\b.length<=a.length+1/\(Sf a->Sf [k]->Sf b):=by
 unfold se;split
 .refine⟨a,?_,∅,λh _=>h⟩;unfold fdP;rw[dA];refine ji λy _=>?_;show(if iB y=iB k then(iB y,PV.bl ah)else(iB y,.bl ah))=_;split <;> rfl
 .exact⟨a++[k],by simp[fdP],by simp,λh g y c=>(jg.mp c).elim (h y) (g y)⟩
section
variable{a:Ad}
def prI(C:PV):ac aK:=(xT 1 (dL ba (ap (dL uQ (ap (dV 5) (ap (dV 6) (az)))) (ap (dL vn (ap (dV 5) (ap (dV 6) (az)))) (az)))) (dC C))
theorem prI_eq(b:List (List Tx))(q:b.length<bj)(x y:Tx)(j i h g:Slot):∃c,prI (.bl ah) [j,.own (.dT (fdP b)),i,h,g,↥x,↥y]=.ok .next [j,.own (.dT (fdP c)),i,h,g,↥x,↥y]/\c.length<=b.length+1/\(Sf b->Sf [kyT x y]->Sf c):=by
 have m:uQ [.str x,.str y]=aa (.str (if y<x then y else x)):=rfl;have l:vn [.str x,.str y]=aa (.str (if x<y then y else x)):=rfl;have f:vE (.tup [.str (if y<x then y else x),.str (if x<y then y else x)])=aa (iB (kyT x y)):=rfl;obtain⟨c,d,p,o⟩:=fd_put b (kyT x y);refine⟨c,?_,p,o⟩;have n:(fdP b).length<bj:=by unfold fdP;rw[cN];exact q
 generalize fdP c=F2 at d;generalize iB (kyT x y)=KK at f d;generalize PV.str (if y<x then y else x)=M1 at m f;generalize PV.str (if x<y then y else x)=M2 at l f;generalize fdP b=F1 at d n;simp![prI,xT,nz,m,l,f,n,d]
theorem ky_sf{x y:Tx}(f:x.length<=bj)(d:y.length<=bj):Sf [kyT x y]:=λk c=>by rw[gH.mp c];refine⟨by simp[kyT],λz b=>?_⟩;simp only[kyT,bn,gi,or_false]at b;rcases b with rfl|rfl <;> split <;> assumption
theorem pr_inner(x:Tx)(n:x.length<=bj)(l j i g:Slot):∀(d:List Tx) (c:List (List Tx)) (f:Slot),(∀u∈d,u.length<=bj)->Sf c->c.length+d.length<=900000 -> ∃b m,Sf b/\b.length<=c.length+d.length/\d8 6 (prI (.bl ah)) (ao d) [l,.own (.dT (fdP c)),j,i,g,↥x,f]=.ok .next [l,.own (.dT (fdP b)),j,i,g,↥x,m]
 |[],c,f,_,h,_=>⟨c,f,h,by simp,rfl⟩
 |u::d,c,f,o,h,r=>by rw[cE]at r;obtain⟨w,z,A,p⟩:=prI_eq c (by unfold bj;lia) x u l j i g;obtain⟨b,m,v,B,s⟩:=pr_inner x n l j i g d w (↥u) (λy q=>o y (by simp[q])) (p h (ky_sf n (o u (by simp)))) ∅;refine⟨b,m,v,by rw[cE];lia,?_⟩;show d8 6 (prI (.bl ah)) (.str u::ao d) _=_;rw[d8];rw[show prI (.bl ah) (List.set [l,.own (.dT (fdP c)),j,i,g,↥x,f] 6 (↥u))=_ from z];exact s
def prM(C:PV):ac aK:=(dR 6 (br (dV 4)) (prI C))
theorem pr_mid(b:List Tx)(o:∀u∈b,u.length<=bj)(l j i:Slot):∀(xs:List Tx) (c:List (List Tx)) (g f:Slot),(∀u∈xs,u.length<=bj)->Sf c->c.length+xs.length*b.length<=900000 -> ∃d r s,Sf d/\d.length<=c.length+xs.length*b.length/\d8 5 (prM (.bl ah)) (ao xs) [l,.own (.dT (fdP c)),j,i,.val (.lst (ao b)),g,f]=.ok .next [l,.own (.dT (fdP d)),j,i,.val (.lst (ao b)),r,s]
 |[],c,g,f,_,h,_=>⟨c,g,f,h,by simp,rfl⟩
 |x::xs,c,g,f,n,h,A=>by rw[cE,zy]at A;obtain⟨D,p,w,F,C⟩:=pr_inner x (n x (by simp)) l j i (.val (.lst (ao b))) b c f o h ∅;obtain⟨f2,q,m,v,E,B⟩:=pr_mid b o l j i xs D (↥x) p (λy z=>n y (by simp[z])) w ∅;refine⟨f2,q,m,v,by rw[cE,zy];lia,?_⟩;show d8 5 (prM (.bl ah)) (.str x::ao xs) _=_;rw[d8];rw[show prM (.bl ah) (List.set [l,.own (.dT (fdP c)),j,i,.val (.lst (ao b)),g,f] 5 (↥x))=_ from yu (xs:=ao b) rfl C];exact B
def prB(a:Ad)(C:PV):ac aK:=(aI (bM 4 (bL (a9 (iQ a) (gV (dL ba (ap (d2 aR (dV 0) (dC (.int 0))) (ap (dV 3) (az)))) (Pu.cm))))) (dR 5 (br (bL (a9 (iQ a) (gV (dL ba (ap (d2 aR (dV 0) (dC (.int 0))) (ap (dV 2) (az)))) (Pu.cm))))) (prM C)))
theorem pr_call{G:ac Slot}{V b P:PV}{l:List PV}{i:Nat}{ε:ak}(m:ε[0]?=aa (.val V))(h:ε[i]?=aa (.val P))(g:aR V (.int 0)=aa b)(j:G [.val (.tup [b,P])]=.ok (.own (.lst l)) [.val (.tup [b,P])]):bL (a9 G (gV (dL ba (ap (d2 aR (dV 0) (dC (.int 0))) (ap (dV i) (az)))) (Pu.cm))) ε=.ok (.lst l) ε:=by
 have c:dV 0 ε=.ok V ε:=by unfold dV;rw[m]
 have f:dV i ε=.ok P ε:=by unfold dV;rw[h]
 have d:dL ba (ap (d2 aR (dV 0) (dC (.int 0))) (ap (dV i) (az))) ε=.ok (.tup [b,P]) ε:=by simp[dL,ap,az,d2,dC,c,f,g,R.bind,aM,ba]
 generalize dL ba (ap (d2 aR (dV 0) (dC (.int 0))) (ap (dV i) (az)))=DT at d;simp[bL,a9,gV,Pu.cm,d,j,R.bind,aM,fA,fJ,cG,eI,fP,vF,qg]
theorem Wyp.good{w:Nat}{d:List Tx}(g:Good ce w d){m:List Tx}(c:m.Sublist d)(f:m≠[]):Good ce w m:=⟨λx b=>g.len x (c.mem b),λx b=>g.abc x (c.mem b),List.length_pos_iff.mpr f,cX c.length_le g.few⟩
theorem pr_outer{w:Nat}{c:List Tx}(g:Good ce w c)(o:1<=w)(C:w<=4)(E:c.Pairwise (λa b=>dU a b=ah))(h6:c.length<=6):∀(L:List DrK) (d:List (List Tx)) (v u r l j:Slot),(∀p∈L,Wyp c p/\p.2≠[])->Sf d->d.length+L.length*729<=900000 -> ∃n D ix S Z mj,Sf n/\n.length<=d.length+L.length*729/\jV 2 3 (prB a (.bl ah)) (drVs L) [.val (aP w c),.own (.dT (fdP d)),v,u,r,l,j]=.ok .next [.val (aP w c),.own (.dT (fdP n)),D,ix,S,Z,mj]
 |[],d,v,u,r,l,j,_,h,_=>⟨d,v,u,r,l,j,h,by simp,rfl⟩
 |p::L,d,v,u,r,l,j,J,h,hl=>by
  rw[cE,zy]at hl;obtain⟨s,eC⟩:=J p (by simp);have A:=Wyp.good g s.s1 s.ne;have y:=Wyp.good g s.s2 eC;have Y:=E.sublist s.s1;have X:=E.sublist s.s2;have W:=y4 (a:=a) A o C Y;have T:=y4 (a:=a) y o C X;have b1:=texts_pow o A.some λx f=>⟨A.len x f,A.abc x f⟩
  have b2:=texts_pow o y.some λx f=>⟨y.len x f,y.abc x f⟩
  have Ag:(bS w p.1).length*(bS w p.2).length<=729:=by refine cX (tT b1 b2) ?_;rw[<-Dy];have:=s.perm.length_eq;rw[fz]at this;exact cX (D4 (by decide) (show p.1.length+p.2.length<=6 by lia)) (by decide)
  have F:∀{m:List Tx},Good ce w m->∀z∈bS w m,z.length<=bj:=λ{m} B z hz=>by have:=(Aj o B.some (λx f=>⟨B.len x f,B.abc x f⟩) hz).1;have:=B.few;unfold bj;lia
  obtain⟨K,I,H,k1,l1,h2⟩:=pr_mid (bS w p.2) (F y) (.val (aP w c)) (.val (.tup (ao p.1))) (.val (.tup (ao p.2))) (bS w p.1) d l j (F A) h ∅;obtain⟨f2,Q,P,O,N,M,k2,l2,h4⟩:=pr_outer g o C E h6 L K (.val (.tup (ao p.1))) (.val (.tup (ao p.2))) (.val (.lst (ao (bS w p.2)))) I H (λq hq=>J q (by simp[hq])) k1 ∅;refine⟨f2,Q,P,O,N,M,k2,by rw[cE,zy];lia,?_⟩
  .have f:aR (aP w c) (.int 0)=aa (.int w):=rfl;have hb:prB a (.bl ah) [.val (aP w c),.own (.dT (fdP d)),.val (.tup (ao p.1)),.val (.tup (ao p.2)),r,l,j]=.ok .next [.val (aP w c),.own (.dT (fdP K)),.val (.tup (ao p.1)),.val (.tup (ao p.2)),.val (.lst (ao (bS w p.2))),I,H]:=by unfold prB;refine(dy (ε1:=[.val (aP w c),.own (.dT (fdP d)),.val (.tup (ao p.1)),.val (.tup (ao p.2)),.val (.lst (ao (bS w p.2))),l,j]) (vA (pr_call (i:=3) rfl rfl f T))).trans ?_;refine yu (xs:=ao (bS w p.1)) (ε1:=[.val (aP w c),.own (.dT (fdP d)),.val (.tup (ao p.1)),.val (.tup (ao p.2)),.val (.lst (ao (bS w p.2))),l,j]) ?_ h2;have hc:=pr_call (G:=iQ a) (i:=2) (ε:=[.val (aP w c),.own (.dT (fdP d)),.val (.tup (ao p.1)),.val (.tup (ao p.2)),.val (.lst (ao (bS w p.2))),l,j]) rfl rfl f W;unfold br;rw[hc];rfl
   show jV 2 3 (prB a (.bl ah)) (.tup [.tup (ao p.1),.tup (ao p.2)]::drVs L) _=_;rw[jV];rw[show prB a (.bl ah) ((List.set [.val (aP w c),.own (.dT (fdP d)),v,u,r,l,j] 2 (.val (.tup (ao p.1)))).set 3 (.val (.tup (ao p.2))))=_ from hb];exact h4
def shB(a:Ad)(c MS:PV):ac aK:=(cO (dB (d2 (dE λi j=>decide (j<i)) (dL bH (ap (d2 aR (dV 0) (dC (.int 1))) (az))) (dC c))) (qh (.ref a.Full) (λb=>cg ((dC MS) b))) (dJ))
theorem shv_def:∃MS,lE a=bv 1 [] (bu 0 (aI (jc (a9 (jQ a) (gV (dV 0) (Pu.cm)))) (shB a (.int 6) MS))):=⟨_,rfl⟩
theorem shared_noV{x:PV}(h:jQ a [.val x]=.er (.ref a.NoView) [.val x]):lE a [.val x]=.er (.ref a.NoView) [.val x]:=by obtain⟨MS,e⟩:=shv_def (a:=a);rw[e];generalize shB a (.int 6) MS=SB;simp![h]
theorem shared_view{w:Nat}{b:List Tx}(g:jQ a [.val (aP w b)]=.ok (.val .non) [.val (aP w b)]):lE a [.val (aP w b)]=if 6<b.length then .er (.ref a.Full) [.val (aP w b)] else .ok (.val .non) [.val (aP w b)]:=by
 obtain⟨MS,e⟩:=shv_def (a:=a);rw[e];have c:aR (aP w b) (.int 1)=aa (.tup (ao b)):=rfl;have d:bH [.tup (ao b)]=aa (.int (b.length:Nat)):=by simp[bH,k6]
 by_cases h:6<b.length
 .have f:(6:Int)<(b.length:Nat):=∅
  rw[if_pos h];generalize ((b.length:Nat):Int)=LN at d f;generalize ao b=PL at d c;generalize aP w b=VV at g c;simp![shB,g,c,d,f,qh,cg]
 .have f:¬(6:Int)<(b.length:Nat):=∅
  rw[if_neg h];generalize ((b.length:Nat):Int)=LN at d f;generalize ao b=PL at d c;generalize aP w b=VV at g c;simp![shB,g,c,d,f]
def pairB(a:Ad):ac aK:=(aI (fu 1 BZ) (aI (λb=>cY (nP 2 3 (br (bL (a9 (qM a) (gV (d2 aR (dV 0) (dC (.int 1))) (Pu.cm))))) (prB a (.bl ah)) b)) (cq (dF (qG 1)))))
theorem pairs_def:nM a=bv 1 [] (bu 6 (aI (jc (a9 (lE a) (gV (dV 0) (Pu.cm)))) (pairB a))):=rfl
theorem pairs_er{x:PV}{c:af}(h:lE a [.val x]=.er (.ref c) [.val x]):nM a [.val x]=.er (.ref c) [.val x]:=by rw[pairs_def];generalize pairB a=PB;simp![h]
theorem pairs_eq{w:Nat}{d:List Tx}(g:Good ce w d)(y:1<=w)(v:w<=4)(A:d.Pairwise (λa b=>dU a b=ah))(J:d.length<=6):∃L,nM a [.val (aP w d)]=.ok (.val (.lst L)) [.val (aP w d)]:=by
 have K:=g.some;obtain⟨x,r,rfl⟩:∃x r,d=x::r:=by
  cases d with
  |nil=>simp at K
  |cons x r=>exact⟨x,r,rfl⟩
 rw[cE]at J;have E:2^r.length<=32:=D4 (by decide) (show r.length<=5 by lia);have O:=ptL_len x r;have o:=shared_view (a:=a) (yR (a:=a) (g.vw y v A));rw[if_neg (by rw[cE];lia)]at o;have f:=partings_eq (a:=a) x r ∅;obtain⟨c,m,l,j,i,h,I,u,D⟩:=pr_outer (a:=a) g y v A (by rw[cE];lia) (ptL x r) [] .none .none .none .none .none (λp F=>ptL_way F) (λk G=>absurd G (by simp)) (by simp;lia);have M:c.length<=100000:=by have N:(ptL x r).length*729<=32*729:=Nat.mul_le_mul_right _ ∅;simp at u;lia
 have s:xP (fdP c)=aa (.lst ((lI c).map qp)):=by unfold xP fdP;rw[Q4,gk,if_pos ⟨∅,I⟩]
 refine⟨(lI c).map qp,?_⟩;have q:aR (aP w (x::r)) (.int 1)=aa (.tup (ao (x::r))):=rfl;have n:pairB a [.val (aP w (x::r)),.none,.none,.none,.none,.none,.none]=.ok (.ret (.val (.lst ((lI c).map qp)))) [.val (aP w (x::r)),.own (.dT (fdP c)),m,l,j,i,h]:=by
  unfold pairB;refine(dy (ε1:=[.val (aP w (x::r)),.own (.dT (fdP [])),.none,.none,.none,.none,.none]) (by rfl)).trans ?_;refine(dy (d1:=λC=>cY (nP 2 3 (br (bL (a9 (qM a) (gV (d2 aR (dV 0) (dC (.int 1))) (Pu.cm))))) (prB a (.bl ah)) C)) (ε1:=[.val (aP w (x::r)),.own (.dT (fdP c)),m,l,j,i,h]) ?_).trans ?_
  .show cY (nP 2 3 _ _ _)=_;have H:br (bL (a9 (qM a) (gV (d2 aR (dV 0) (dC (.int 1))) (Pu.cm)))) [.val (aP w (x::r)),.own (.dT (fdP [])),.none,.none,.none,.none,.none]=.ok (drVs (ptL x r)) [.val (aP w (x::r)),.own (.dT (fdP [])),.none,.none,.none,.none,.none]:=by have z:hZ (.lst (drVs (ptL x r)))=aa (drVs (ptL x r)):=rfl;generalize drVs (ptL x r)=PT at f z;generalize ao (x::r)=XR at f q;generalize aP w (x::r)=VV at q;generalize fdP []=F0;simp![br,q,f,z]
   unfold nP;rw[H];simp only[R.bind_ok];rw[D];rfl
  .have B:qG 1 [.val (aP w (x::r)),.own (.dT (fdP c)),m,l,j,i,h]=.ok (.lst ((lI c).map qp)) [.val (aP w (x::r)),.own (.dT (fdP c)),m,l,j,i,h]:=by
    unfold qG;show(aM (aa (fdP c)) _).bind _=_;simp only[cJ,R.bind_ok];rw[s];rfl
   generalize qG 1=DS at B;simp[cq,dF,B,R.bind,qg,aM]
 rw[pairs_def];generalize pairB a=PB at n;generalize ((lI c).map qp)=SL at n ⊢;generalize aP w (x::r)=VV at n o ⊢;simp![o,n]
end
structure Vd where
 w:Nat
 ls:List Tx
def tx(v:Vd):List Tx:=bS v.w v.ls
section
variable{a:Ad}
theorem N_{x:PV}(h:ke a [.val x]=.ok (.val (.bl aj)) [.val x]):iQ a [.val x]=.er (.ref a.NoView) [.val x]:=by have b:=Ev h;simp![iQ,yaR,b]
end
end Sh
namespace Su
open L2 Pu Mx Sh
section
variable{a:Ad}
def atT(t:Tx)(i:Nat):Tx:=[t.getD i 0]
theorem M3{t:Tx}{i:Nat}(h:i<t.length):aR (.str t) (.int i)=aa (.str (atT t i)):=by show(fE t ((i:Nat):Int)).map _=_;unfold fE;rw[Ij ∅ ∅];simp[atT,h]
theorem HV{T:List Tx}{t:Tx}{r:List Tx}(h:T=t::r):aR (.lst (ao T)) (.int 0)=aa (.str t):=by subst h;show fE _ ((0:Nat):Int)=_;unfold fE;rw[Ij ∅ (by simp[ao])];rfl
def qQ(b:List Tx):Tx:=if(d_ b).length=1 then b.headD [] else [46]
theorem TC(b:List Tx)(l:b≠[])(h:(d_ b).length<4000):qj a [.val (.lst (ao b))]=.ok (↥(qQ b)) [.val (.lst (ao b))]:=by
 have d:vg [.lst (ao b)]=aa (.int ((d_ b).length:Nat)):=by show(fI (ao b)).bind _=_;rw[qc,gk,if_pos h]
 have g:aR (.lst (ao b)) (.int 0)=aa (.str (b.headD [])):=by
  cases b with
  |nil=>exact absurd rfl l
  |cons c r=>exact HV rfl
 obtain⟨n,i⟩:∃n:Nat,(d_ b).length=n:=⟨_,rfl⟩
 rw[i]at d;have f:=qF aj (n:Nat) 1;have m:qQ b=if n=1 then b.headD [] else [46]:=by unfold qQ;rw[i]
 rw[m];generalize ao b=C at d g;generalize b.headD []=D at g;by_cases q:n=1
 .subst q;have j:Pu.eqT aj (.int ((1:Nat):Int)) (.int 1)=aa (.bl ah):=by rw[f];rfl
  simp only[if_true];generalize ((1:Nat):Int)=N at d j;simp![qj,yaQ,d,g,j]
 .have:¬((n:Nat):Int)=1:=∅
  simp only[this,decide_false,zT]at f;rw[if_neg q];generalize ((n:Nat):Int)=N at d f;simp![qj,yaQ,d,g,f]
def my(T:List Tx)(i:Nat):List Tx:=T.map λt=>atT t i
theorem NW(T:List Tx)(i:Nat)(f:∀t∈T,i<t.length):kf [0] eh (d2 aR (dV 0) (dV 1)) (ao T) [] [⇑i,.val (.lst (ao T))]=.ok (ao (my T i)) [⇑i,.val (.lst (ao T))]:=by
 have b:=nG (cap:=[0]) (dt:=eh) (de:=d2 aR (dV 0) (dV 1)) (ε:=[⇑i,.val (.lst (ao T))]) (λ_=>ah) (λx=>match x with|.str t=>.str (atT t i)|_=>.non) (ao T)
  (by intro x c;obtain⟨t,d,rfl⟩:=b8.mp c;have e:=M3 (f t d);generalize ((i:Nat):Int)=I at e;generalize ao T=B;refine⟨by simp![eE,eP,cg,eh],λ_=>?_⟩;simp![eE,eP,cg,e]) []
 rw[kw,wp.mpr (by simp)]at b;rw[b];congr 1;simp[ao,my,dA,t_]
def sureT(T:List Tx)(L:Nat):List Tx:=(cr L).map λi=>qQ (my T i)
theorem LK(T:List Tx)(i:Nat)(g:∀t∈T,i<t.length/\∀c∈t,c∈ce):(d_ (my T i)).length<4000:=by
 have:(d_ (my T i)).length<=[[97],[98],[99]].length:=by refine(L2.Ug _).length_le_of_subset λx b=>?_;rw[u7]at b;obtain⟨t,f,rfl⟩:=b8.mp b;obtain⟨j,h⟩:=g t f;have d:t.getD i 0∈ce:=h _ (by simp[j]);unfold atT;have:ce=[97,98,99]:=rfl;rw[this]at d;simpa using d
 simp at this;lia
theorem PD(V:Slot)(T:List Tx)(L:Nat)(m:T≠[])(f:∀t∈T,t.length=L/\∀c∈t,c∈ce):kf [1] eh (bL (a9 (qj a) (gV (dF (cW [0] (br (dV 1)) (eh) (d2 aR (dV 0) (dV 1)))) (Pu.cm)))) (gy 0 L) [] [V,.val (.lst (ao T))]=.ok (ao (sureT T L)) [V,.val (.lst (ao T))]:=by
 have h:=nG (cap:=[1]) (dt:=eh) (de:=(bL (a9 (qj a) (gV (dF (cW [0] (br (dV 1)) (eh) (d2 aR (dV 0) (dV 1)))) (Pu.cm))))) (ε:=[V,.val (.lst (ao T))]) (λ_=>ah) (λx=>match x with|.int i=>.str (qQ (my T i.toNat))|_=>.non) (gy 0 L)
  (by intro x g;simp only[gy,b8]at g;obtain⟨i,n,rfl⟩:=g;rw[kn]at n;refine⟨by simp![eE,eP,cg,eh],λ_=>?_⟩;have d:=NW T i (λt b=>by have:=(f t b).1;lia);have j:=TC (a:=a) (my T i) (by unfold my;simpa using m) (LK T i λt b=>⟨by have:=(f t b).1;lia,(f t b).2⟩);have l:hZ (.lst (ao T))=aa (ao T):=rfl;rw[show(0:Int)+((i:Nat):Int)=((i:Nat):Int)from Int.zero_add _];simp only[lS];generalize ((i:Nat):Int)=I at d;generalize ao (my T i)=C at d j;generalize ao T=B at d l;simp![eE,eP,cg,cW,br,l,d,j]) []
 rw[kw,wp.mpr (by simp)]at h;rw[h];congr 1;unfold gy sureT ao;rw[dA,dA];refine ji λi _=>?_;simp
theorem K3(b:List Tx)(h:∀c∈b,c.length=1)(d:b≠[]):(qQ b).length=1:=by
 unfold qQ;split
 .cases b with
  |nil=>exact absurd rfl d
  |cons c r=>exact h c (by simp)
 .rfl
theorem Lf(b:List Tx)(h:∀c∈b,c.length=1):mI [] b=b.length:=by
 have:∀l:List Tx,(∀c∈l,c.length=1)->(l.map ln).sum=l.length:=by
  intro l
  induction l with
  |nil=>intro _;rfl
  |cons x l d=>intro h;have i:=h x (by simp);have g:=d λc f=>h c (by simp[f]);simp only[cn,mX,cE];lia
 unfold mI;rw[this b h];simp
theorem Qe{T:List Tx}{L:Nat}(d:T≠[]):∀c∈sureT T L,c.length=1:=by intro c b;obtain⟨i,_,rfl⟩:=b8.mp b;refine K3 _ (λc b=>?_) (by unfold my;simpa using d);obtain⟨t,_,rfl⟩:=b8.mp b;rfl
theorem sure_eq{w:Nat}{d:List Tx}(g:Good ce w d)(s:1<=w)(z:w<=4)(C:d.Pairwise (λa b=>dU a b=ah))(m:bS w d≠[]):mB a [.val (aP w d)]=.ok (↥(gK [] (sureT (bS w d) (w-1+d.length)))) [.val (aP w d)]:=by
 have l:=y4 (a:=a) g s z C;have f:∀t∈bS w d,t.length=w-1+d.length/\∀c∈t,c∈ce:=λt h=>Aj s g.some (λx f=>⟨g.len x f,g.abc x f⟩) h;obtain⟨L,E⟩:∃L:Nat,w-1+d.length=L:=⟨_,rfl⟩
 have u:L<=12:=by have:=g.few;lia
 rw[E]at f ⊢;obtain⟨T,A⟩:∃T:List Tx,bS w d=T:=⟨_,rfl⟩
 rw[A]at l m f ⊢;have o:iK [.int L]=aa (gy 0 L):=BQ ∅;have j:=PD (a:=a) (.val (aP w d)) T L m f;have p:xK [] [.lst (ao (sureT T L))]=aa (.str (gK [] (sureT T L))):=by
  show(fI (ao (sureT T L))).bind _=_;rw[qc,gk,Lf _ (Qe m),if_pos];have:(sureT T L).length=L:=by simp[sureT]
  rw[this];unfold bj;lia
 obtain⟨t,r,e⟩:∃t r,T=t::r:=by cases T with|nil=>exact absurd rfl m|cons t r=>exact⟨t,r,rfl⟩
 have v:=HV e;have y:bH [.str t]=aa (.int L):=by have:=(f t (by rw[e];simp)).1;show aa (PV.int (t.length:Nat))=_;rw[this]
 obtain⟨n,D⟩:∃n:Nat,T.length=n+1:=⟨r.length,by rw[e];simp⟩
 have i:bH [.lst (ao T)]=aa (.int ((n+1:Nat):Int)):=by show aa (PV.int ((ao T).length:Nat))=_;rw[k6,D]
 have q:=qF aj ((n+1:Nat):Int) 0;have:¬((n+1:Nat):Int)=0:=∅
 simp only[this,decide_false,zT]at q;generalize ((n+1:Nat):Int)=M at i q;generalize gK [] (sureT T L)=J at p;generalize ao (sureT T L)=S at j p;generalize ao T=B at l v i j;generalize gy 0 L=RL at o j;generalize ((L:Nat):Int)=LI at o y;generalize aP w d=V at l j;simp![mB,yaP,l,i,q,v,y,o,cW,j,A6,Hk,p]
end
end Su
namespace Sh
open L2 Pu Mx
section
variable{a:Ad}
theorem fewest_one{w:Nat}{c:List Tx}(g:Good ce w c)(J:1<=w)(I:w<=4)(N:c.Pairwise (λa b=>dU a b=ah)){t:Tx}(u:(bY t w).Perm c):j9 a [.val (aP w c)]=.ok (⇑1) [.val (aP w c)]:=by
 have E:jQ a [.val (aP w c)]=.ok (.val .non) [.val (aP w c)]:=yR (a:=a) (g.vw J I N);have Q:=g.few;have S:=g.some;obtain⟨v,rfl⟩:∃v,w=v+1:=⟨w-1,∅⟩
 have D:∀y∈c,y.length=v+1:=g.len;have B:FP v c:=SZ u;have s:v<=t.length:=by have:=u.length_eq;rw[B2 ∅]at this;lia
 obtain⟨x,r,rfl⟩:∃x r,c=x::r:=by
  cases c with
  |nil=>simp at S
  |cons x r=>exact⟨x,r,rfl⟩
 have p:aR (.tup (ao (x::r))) (.int 0)=aa (.str x):=by show fE (.str x::ao r) 0=_;rw[BM (by decide) (by simp)];rfl
 obtain⟨ks,P,L,h⟩:=Tw (a:=a) (.tup (ao (x::r))) x r (by simp at Q;lia) rfl p;have A:∀y∈x::r,y.dropLast=y.take v:=λy f=>drop_take (D y f);have F:∀y∈x::r,y.dropLast∈ks:=λy f=>by rw[A y f];exact B (λz=>z∈ks) ⟨x,by simp,by rw[<-A x (by simp)];exact P.start x r rfl⟩ (λz C q=>by rw[<-A z C]at q ⊢;exact L z C q) y f
 have Y:((x::r).filter λy=>aj^^decide (y.dropLast∈ks))=x::r:=wp.mpr λy f=>by rw[decide_eq_true (F y f)];rfl
 have X:((x::r).filter λy=>ah^^decide (y.dropLast∈ks))=[]:=List.filter_eq_nil_iff.mpr λy f=>by rw[decide_eq_true (F y f)];decide
 have d:=fewest_for_eq (a:=a) (v:=v) (x::r) D ∅;have T:max 1 (pS v (fewK (x::r)) (x::r))=1:=by have:=pS_text (v:=v) (K:=fewK (x::r)) (HX _) s;rw[pS_perm u]at this;lia
 rw[T]at d;have i:=hd_comp aj (.tup (ao (x::r))) (x::r) ks rfl (.val (aP (v+1) (x::r))) (⇑0);have G:=hd_comp ah (.tup (ao (x::r))) (x::r) ks rfl (.val (aP (v+1) (x::r))) (⇑1);rw[Y]at i;rw[X]at G;have j:bI (.int 0) (.int ((1:Nat):Int))=aa (.int 1):=rfl;have O:ftB a [.val (aP (v+1) (x::r)),.val (.tup (ao (x::r))),⇑0,.none]=.ok .next [.val (aP (v+1) (x::r)),.val (.lst (ao [])),⇑1,.own (.dK (cT ks))]:=by
  unfold ftB;refine(dy (ε1:=[.val (aP (v+1) (x::r)),.val (.tup (ao (x::r))),⇑0,.own (.dK (cT ks))]) ?_).trans ?_
  .generalize cT ks=DK at h;generalize ao (x::r)=PL at h;generalize aP (v+1) (x::r)=VV;simp![h]
  refine(dy (ε1:=[.val (aP (v+1) (x::r)),.val (.tup (ao (x::r))),⇑1,.own (.dK (cT ks))]) ?_).trans ?_
  .generalize (dF (cW [3] (br (dV 1)) (dB (gc aj 1 (bP b7 (dV 0) (bZ) (bN (d1 d7 (dC (.int 1))))))) (dV 0)))=DA at i;generalize PV.int ((1:Nat):Int)=KA at j d;generalize PV.int 0=CC at j i;generalize PV.int 1=CK at j;generalize cT ks=DK at i;generalize aP (v+1) (x::r)=VV at i;generalize ao (x::r)=PA at i d;simp[bM,d2,dV,bL,a9,gV,Pu.cm,i,d,j,R.bind,aM,fA,fJ,cG,eI,fP,vF]
  .exact(vA G).trans rfl
 have H:=ft_cond (W:=.tup (ao (x::r))) (n:=(x::r).length) (by simp[bH,k6]) (.val (aP (v+1) (x::r))) (⇑0) .none;rw[decide_eq_true (by simp)]at H;have Z:=ft_cond (W:=.lst (ao [])) (n:=0) rfl (.val (aP (v+1) (x::r))) (⇑1) (.own (.dK (cT ks)));have M:fY ftC (ftB a) 1000 [.val (aP (v+1) (x::r)),.val (.tup (ao (x::r))),⇑0,.none]=.ok .next [.val (aP (v+1) (x::r)),.val (.lst (ao [])),⇑1,.own (.dK (cT ks))]:=by rw[yg H O];exact B7 Z
 have o:aR (aP (v+1) (x::r)) (.int 1)=aa (.tup (ao (x::r))):=rfl;have m:yau a [.val (aP (v+1) (x::r)),.none,.none,.none]=.ok (.ret (⇑1)) [.val (aP (v+1) (x::r)),.val (.lst (ao [])),⇑1,.own (.dK (cT ks))]:=by show aI _ (aI _ (aI _ (aI (λl=>cY (fY ftC (ftB a) 1000 l)) (cq (dV 2))))) _=_;refine(dy (ε1:=[.val (aP (v+1) (x::r)),.none,.none,.none]) (by generalize aP (v+1) (x::r)=VV at E;simp![E])).trans ?_;refine(dy (ε1:=[.val (aP (v+1) (x::r)),.val (.tup (ao (x::r))),.none,.none]) (by generalize ao (x::r)=PL at o;generalize aP (v+1) (x::r)=VV at o;simp![o])).trans ?_;refine(dy (ε1:=[.val (aP (v+1) (x::r)),.val (.tup (ao (x::r))),⇑0,.none]) (by rfl)).trans ?_;refine(dy (d1:=λl=>cY (fY ftC (ftB a) 1000 l)) (by show cY (fY ftC (ftB a) 1000 _)=_;rw[M];rfl)).trans rfl
 unfold j9;generalize yau a=DD at m ⊢;generalize aP (v+1) (x::r)=VV at m ⊢;simp[bv,fV,bu,bE,m,back,gM,aM,R.bind]
end
end Sh
namespace K30
open L2 Pu Mx Sh
section
variable{a:Ad}
def rf(n:Int):PV:=.tup [.str [114,101,102,117,115,101,100],.int n]
def Wh(a:Ad):Prop:=[nR a [.val (.exc (.ref a.NoView))],nR a [.val (.exc (.ref a.Full))]]=[.ok (.val (rf 2)) [.val (.exc (.ref a.NoView))],.ok (.val (rf 5)) [.val (.exc (.ref a.Full))]]
theorem VF(h:[nR a [.val (.exc (.ref a.NoView))],nR a [.val (.exc (.ref a.Full))]]=[.ok (.val (rf 2)) [.val (.exc (.ref a.NoView))],.ok (.val (rf 5)) [.val (.exc (.ref a.Full))]]):Wh a:=h
theorem IE(h:Wh a):nR a [.val (.exc (.ref a.NoView))]=.ok (.val (rf 2)) [.val (.exc (.ref a.NoView))]/\nR a [.val (.exc (.ref a.Full))]=.ok (.val (rf 5)) [.val (.exc (.ref a.Full))]:=by unfold Wh at h;simp only[wg,and_true]at h;exact h
theorem IQ{d e:ac Bool}{b:ak}(f:d b=.ok aj b)(c:e b=.ok aj b):cO (iZ d e) (cq (dC (.bl aj))) dJ b=.ok .next b:=by simp[cO,iZ,f,c,R.bind,dJ]
theorem xI{d e:ac PV}{b:ak}{x y:PV}(f:d b=.ok x b)(c:e b=.ok y b)(h:Pu.eqT ah x y=aa (.bl aj)):dB (d2 (Pu.eqT ah) d e) b=.ok aj b:=by simp[dB,d2,f,c,h,R.bind,aM,ml]
theorem Gx{d e:ac PV}{b:ak}{x y:PV}(h:d b=.ok x b)(c:e b=.ok y b):dL ba (ap d (ap e az)) b=.ok (.tup [x,y]) b:=by simp[dL,ap,az,h,c,R.bind,aM,ba]
theorem mD{f:PV->PV->Option PV}{d e:ac PV}{b:ak}{x y z:PV}(h:d b=.ok x b)(g:e b=.ok y b)(c:f x y=aa z):d2 f d e b=.ok z b:=by simp[d2,h,g,c,R.bind,aM]
theorem Ro{d:ac Bool}{b:ak}(c:d b=.ok aj b):cO d (cq (dC (.bl aj))) dJ b=.ok .next b:=by simp[cO,c,R.bind,dJ]
def G4(a:Ad)(k:Fin 4):ac Slot:=match k with
 |0=>nM a
 |1=>j9 a
 |2=>nK a
 |3=>mB a
theorem Ht(k:Fin 4)(x:PV)(b:Slot):sm (nM a) (j9 a) (nK a) (mB a) (dV 0) (gV (dV 1) (Pu.cm)) [⇑(k.val:Nat),.val x,b]=jT (G4 a k) (gV (dV 1) (Pu.cm)) [⇑(k.val:Nat),.val x,b]:=by
 match k with
 |0=>rfl
 |1=>rfl
 |2=>rfl
 |3=>rfl
theorem CA(k:Fin 4){c:af}{n:Int}{x:PV}(f:nv a (.ref c)=ah)(d:nR a [.val (.exc (.ref c))]=.ok (.val (rf n)) [.val (.exc (.ref c))])(h:G4 a k [.val x]=.er (.ref c) [.val x]):ja a [⇑(k.val:Nat),.val x]=.ok (.val (rf n)) [⇑(k.val:Nat),.val x]:=by have b:=Ht (a:=a) k x .none;unfold ja yaC;generalize sm (nM a) (j9 a) (nK a) (mB a) (dV 0) (gV (dV 1) (Pu.cm))=DS at b ⊢;generalize G4 a k=GK at b h;generalize rf n=Y at d;generalize PV.int (k.val:Nat)=KI at b ⊢;simp![sR,b,jT,cg,h,f,d]
theorem sP(k:Fin 4){x y:PV}(h:G4 a k [.val x]=.ok (.val y) [.val x]):ja a [⇑(k.val:Nat),.val x]=.ok (.val y) [⇑(k.val:Nat),.val x]:=by have b:=Ht (a:=a) k x .none;unfold ja yaC;generalize sm (nM a) (j9 a) (nK a) (mB a) (dV 0) (gV (dV 1) (Pu.cm))=DS at b ⊢;generalize G4 a k=GK at b h;generalize PV.int (k.val:Nat)=KI at b ⊢;simp![sR,b,jT,cg,h]
theorem Oy{x:PV}(h:jQ a [.val x]=.er (.ref a.NoView) [.val x]):j9 a [.val x]=.er (.ref a.NoView) [.val x]:=by
 generalize c:(λb=>(aI (bM 1 (d2 aR (dV 0) (dC (.int 1)))) (aI (bM 2 (dC (.int 0))) (aI (λb=>cY (fY ftC (ftB a) 1000 b)) (cq (dV 2))))) b)=DD;have e:j9 a=bv 1 [] (bu 3 (aI (jc (a9 (jQ a) (gV (dV 0) (Pu.cm)))) DD)):=by rw[<-c];rfl
 rw[e];simp![h]
def vp(a:Ad):ac aK:=(mo (a9 (sj a) (gV (d2 aR (dV 0) (dC (.int 1))) (gV (d2 aR (dV 0) (dC (.int 0))) (gV (bL (a9 (j9 a) (gV (dV 0) (Pu.cm)))) (Pu.cm))))))
theorem Hn:nK a=bv 1 [] (bu 0 (aI (jc (a9 (lE a) (gV (dV 0) (Pu.cm)))) (vp a))):=rfl
theorem Im{x:PV}{c:af}(h:lE a [.val x]=.er (.ref c) [.val x]):nK a [.val x]=.er (.ref c) [.val x]:=by rw[Hn];generalize vp a=LB;simp![h]
theorem Tq{x:PV}(h:iQ a [.val x]=.er (.ref a.NoView) [.val x]):mB a [.val x]=.er (.ref a.NoView) [.val x]:=by
 obtain⟨b,e⟩:∃b,mB a=bv 1 [] (bu 1 (aI (bM 1 (bL (a9 (iQ a) (gV (dV 0) (Pu.cm))))) b)):=⟨_,rfl⟩
 rw[e];simp![h]
theorem Uv{x:PV}(h:ke a [.val x]=.ok (.val (.bl aj)) [.val x])(k:Fin 4):G4 a k [.val x]=.er (.ref a.NoView) [.val x]:=by
 have b:=Ev (a:=a) h
 match k with
 |0=>exact pairs_er (shared_noV b)
 |1=>exact Oy b
 |2=>exact Im (shared_noV b)
 |3=>exact Tq (N_ h)
theorem Sz{w:Nat}{b:List Tx}(f:iQ a [.val (aP w b)]=.ok (.own (.lst (ao (bS w b)))) [.val (aP w b)]):sj a [.val (.tup (ao b)),⇑w,⇑1]=.ok (.val (.lst (ao ((bS w b).take 1)))) [.val (.tup (ao b)),⇑w,⇑1]:=by
 have g:Pu.eqT aj (.int 1) (.int 1)=aa (.bl ah):=rfl;have c:iQ a [.val (.tup [.int w,.tup (ao b)])]=.ok (.own (.lst (ao (bS w b)))) [.val (.tup [.int w,.tup (ao b)])]:=f;have d:b7 (.lst (ao (bS w b))) ae (aa 1)=aa (.lst (ao ((bS w b).take 1))):=by have h:dG (ao (bS w b)) ae (aa ((1:Nat):Int))=(ao (bS w b)).take 1:=AY _ 1;show aa (PV.lst (dG (ao (bS w b)) ae (aa ((1:Nat):Int))))=_;rw[h];simp[ao]
 unfold sj yaL;generalize ao ((bS w b).take 1)=T1 at d;generalize ao (bS w b)=TT at d c;generalize ao b=PL at c;generalize PV.int w=WI at c;have i:(dNever:ac aK)=dNever:=rfl;generalize (dNever:ac aK)=DN;simp![g,c,bP,bN,bZ,d]
theorem RS{w:Nat}{b:List Tx}(h:lE a [.val (aP w b)]=.ok (.val .non) [.val (aP w b)])(i:j9 a [.val (aP w b)]=.ok (⇑1) [.val (aP w b)])(j:iQ a [.val (aP w b)]=.ok (.own (.lst (ao (bS w b)))) [.val (aP w b)]):nK a [.val (aP w b)]=.ok (.val (.lst (ao ((bS w b).take 1)))) [.val (aP w b)]:=by
 have c:=Sz (a:=a) j;have g:aR (aP w b) (.int 0)=aa (.int w):=rfl;have f:aR (aP w b) (.int 1)=aa (.tup (ao b)):=rfl;rw[Hn];have d:vp a [.val (aP w b)]=.ok (.ret (.val (.lst (ao ((bS w b).take 1))))) [.val (aP w b)]:=by unfold vp;generalize ao ((bS w b).take 1)=T1 at c;generalize ao b=PL at c f;generalize PV.int w=WI at c g;generalize sj a=GL at c;generalize aP w b=VV at g f i;simp![g,f,i,c]
 generalize vp a=LB at d;generalize ao ((bS w b).take 1)=T1 at d ⊢;generalize aP w b=VV at d h ⊢;simp![h,d]
structure Told(m:Nat)(r0 r1 r2 r3:PV):Prop where
 t0:mH r0 (rf 5)=aa (.bl (decide (6<m)))
 t1:r1=.int 1
 t2:mH r2 (rf 5)=aa (.bl (decide (6<m)))
 t3:∃z,r3=.str z
theorem MF(q:Wh a){w:Nat}{c:List Tx}(g:Good ce w c)(j:1<=w)(i:w<=4)(m:c.Pairwise (λa b=>dU a b=ah))(x:bS w c≠[]){t:Tx}(u:(bY t w).Perm c):∃r:Fin 4->PV,Told c.length (r 0) (r 1) (r 2) (r 3)/\∀k,ja a [⇑(k.val:Nat),.val (aP w c)]=.ok (.val (r k)) [⇑(k.val:Nat),.val (aP w c)]:=by
 obtain⟨y,p⟩:=IE q;have s:nv a (.ref a.Full)=ah:=by simp[nv,gR]
 have o:=yR (a:=a) (g.vw j i m);have h:=shared_view (a:=a) o;have v:=y4 (a:=a) g j i m;have l:=Su.sure_eq (a:=a) g j i m x;have d:=fewest_one (a:=a) g j i m u;by_cases f:6<c.length
 .rw[if_pos f]at h;refine⟨λk=>match k with|0=>rf 5|1=>.int 1|2=>rf 5|3=>.str (gK [] (Su.sureT (bS w c) (w-1+c.length))),⟨?_,rfl,?_,_,rfl⟩,λk=>?_⟩
  .rw[decide_eq_true f];rfl
  .rw[decide_eq_true f];rfl
  .match k with
   |0=>exact CA 0 s p (pairs_er h)
   |1=>exact sP 1 d
   |2=>exact CA 2 s p (Im h)
   |3=>exact sP 3 l
 .rw[if_neg f]at h;obtain⟨PL,n⟩:=pairs_eq (a:=a) g j i m ∅;refine⟨λk=>match k with|0=>.lst PL|1=>.int 1|2=>.lst (ao ((bS w c).take 1))|3=>.str (gK [] (Su.sureT (bS w c) (w-1+c.length))),⟨?_,rfl,?_,_,rfl⟩,λk=>?_⟩
  .rw[decide_eq_false f];rfl
  .rw[decide_eq_false f];rfl
  .match k with
   |0=>exact sP 0 n
   |1=>exact sP 1 d
   |2=>exact sP 2 (RS h d v)
   |3=>exact sP 3 l
theorem EX{x:PV}{r:Fin 4->PV}{j:Nat}{b:ak}(g:b[j]?=aa (.val x))(h:∀k:Fin 4,ja a [⇑(k.val:Nat),.val x]=.ok (.val (r k)) [⇑(k.val:Nat),.val x]):dF (cW [j] (dL iK (ap (dC (.int 4)) (az))) (eh) (bL (a9 (ja a) (gV (dV 0) (gV (dV 1) (Pu.cm)))))) b=.ok (.lst [r 0,r 1,r 2,r 3]) b:=by
 have c:∀k:Fin 4,cg (eE [j] (bL (a9 (ja a) (gV (dV 0) (gV (dV 1) (Pu.cm))))) (.int (k.val:Nat)) b)=.ok (r k) b:=λk=>by
  have f:=h k;have l:bL (a9 (ja a) (gV (dV 0) (gV (dV 1) (Pu.cm)))) [⇑(k.val:Nat),.val x]=.ok (r k) [⇑(k.val:Nat),.val x]:=by generalize PV.int (k.val:Nat)=KI at f;generalize r k=RK at f;simp![f]
  generalize (bL (a9 (ja a) (gV (dV 0) (gV (dV 1) (Pu.cm)))))=DE at l;simp[eE,eP,g,cg,R.bind,aM,cG,eI,l,fA,fP,fJ]
 have n:=c 0;have b1:=c 1;have b2:=c 2;have m:=c 3;have d:iK [.int 4]=aa [.int ((0:Fin 4).val:Nat),.int ((1:Fin 4).val:Nat),.int ((2:Fin 4).val:Nat),.int ((3:Fin 4).val:Nat)]:=rfl;have i:dL iK (ap (dC (.int 4)) (az)) b=.ok [.int ((0:Fin 4).val:Nat),.int ((1:Fin 4).val:Nat),.int ((2:Fin 4).val:Nat),.int ((3:Fin 4).val:Nat)] b:=by generalize ([.int ((0:Fin 4).val:Nat),.int ((1:Fin 4).val:Nat),.int ((2:Fin 4).val:Nat),.int ((3:Fin 4).val:Nat)]:List PV)=RR at d;generalize PV.int 4=C4 at d;simp[dL,ap,az,dC,d,R.bind,aM]
 have o:∀v:PV,cg (eE [j] eh v b)=.ok ah b:=λv=>by simp[eE,eP,g,cg,R.bind,aM,cG,eI,fA,fP,fJ,eh]
 generalize dL iK (ap (dC (.int 4)) (az))=DI at i;generalize (bL (a9 (ja a) (gV (dV 0) (gV (dV 1) (Pu.cm)))))=DE at n b1 b2 m;unfold dF cW;rw[i];simp only[R.bind_ok,kf,o,n,b1,b2,m];simp[R.bind,aM,qg]
def kB(a:Ad):ac aK:=(aI (bM 6 (dL ba (ap (dV 3) (ap (bL (a9 (uZ a) (gV (bP b7 (dV 4) (bZ) (bN (d2 jx (d2 bI (dV 3) (dV 5)) (dC (.int 1))))) (gV (dV 3) (Pu.cm))))) (az))))) (aI (bM 7 (dF (cW [6] (dL iK (ap (dC (.int 4)) (az))) (eh) (bL (a9 (ja a) (gV (dV 0) (gV (dV 1) (Pu.cm)))))))) (aI (cO (iZ (dB (d2 (Pu.eqT ah) (d2 mH (d2 aR (dV 7) (dC (.int 0))) (dL ba (ap (dC (.str [114,101,102,117,115,101,100])) (ap (dC (.int 5)) (az))))) (d2 (dE λi j=>decide (j<i)) (dV 5) (dC (.int 6))))) (dB (d2 (Pu.eqT ah) (d2 mH (d2 aR (dV 7) (dC (.int 2))) (dL ba (ap (dC (.str [114,101,102,117,115,101,100])) (ap (dC (.int 5)) (az))))) (d2 (dE λi j=>decide (j<i)) (dV 5) (dC (.int 6)))))) (cq (dC (.bl aj))) (dJ)) (cO (iZ (dB (d2 (Pu.eqT ah) (d2 aR (dV 7) (dC (.int 1))) (dC (.int 1)))) (j6 (dB (dL eu (ap (d2 aR (dV 7) (dC (.int 3))) (ap (dC (.raw (.ty "str"))) (az))))))) (cq (dC (.bl aj))) (dJ)))))
theorem QW(q:Wh a)(p o n:Slot){w:Nat}(v:1<=w)(X:w<=4){t:Tx}(ht:t.length=w+8)(hc:∀c∈t,c∈ce)(m:Nat)(m1:1<=m)(m9:m<=9)(Y I:Slot):∃Z H,kB a [p,o,n,⇑w,↥t,⇑m,Y,I]=.ok .next [p,o,n,⇑w,↥t,⇑m,Z,H]:=by
 have hz:(t.take (w+m-1)).length=w+m-1:=by rw[lQ];lia
 have A:∀c∈t.take (w+m-1),c∈ce:=λc h=>hc c (D3 h);have s:=R4 (a:=a) (t.take (w+m-1)) w ∅;have u:=nB (bY (t.take (w+m-1)) w);have K:(bY (t.take (w+m-1)) w).length=m:=by rw[B2 v,hz];lia
 have g:Good ce w (cb (bY (t.take (w+m-1)) w)):=⟨λx b=>by
   have b:=u.mem_iff.mp b;rw[qO _ _ v]at b;obtain⟨k,B,rfl⟩:=b8.mp b;have B:=kn.mp B;rw[lQ,mP];lia,λx b c P=>by
   have b:=u.mem_iff.mp b;rw[qO _ _ v]at b;obtain⟨k,B,rfl⟩:=b8.mp b;exact A c (List.mem_of_mem_drop (D3 P)),by rw[u.length_eq,K];lia,by rw[u.length_eq,K];lia⟩
 have T:=yS (bY (t.take (w+m-1)) w);have hT:bS w (cb (bY (t.take (w+m-1)) w))≠[]:=List.ne_nil_of_mem ((Ko v g.some (λx b=>⟨g.len x b,g.abc x b⟩) T A).mpr rfl);obtain⟨r,d,E⟩:=MF (a:=a) q g v X T hT u.symm;have O:(cb (bY (t.take (w+m-1)) w)).length=m:=by rw[u.length_eq,K]
 rw[O]at d;refine⟨.val (aP w (cb (bY (t.take (w+m-1)) w))),.val (.lst [r 0,r 1,r 2,r 3]),?_⟩;have F:bI (.int w) (.int m)=aa (.int ((w+m:Nat):Int)):=by show aa (PV.int _)=_;congr 2
 have L:jx (.int ((w+m:Nat):Int)) (.int 1)=aa (.int ((w+m-1:Nat):Int)):=by rw[show((w+m-1:Nat):Int)=((w+m:Nat):Int)-1 from by lia];rfl
 have M:=Qk t (w+m-1);unfold kB;refine(dy (ε1:=[p,o,n,⇑w,↥t,⇑m,.val (aP w (cb (bY (t.take (w+m-1)) w))),I]) ?_).trans ?_
 .show _=R.ok aK.next [p,o,n,⇑w,↥t,⇑m,.val (.tup [.int w,.tup (ao (cb (bY (t.take (w+m-1)) w)))]),I];generalize ao (cb (bY (t.take (w+m-1)) w))=SW at s;generalize t.take (w+m-1)=TK at s M;generalize ((w+m-1:Nat):Int)=W1 at L M;generalize PV.int ((w+m:Nat):Int)=WM at F L;generalize PV.int w=WI at F s;generalize PV.int m=MI at F;simp![bP,bN,bZ,F,L,M,s]
 refine(dy (ε1:=[p,o,n,⇑w,↥t,⇑m,.val (aP w (cb (bY (t.take (w+m-1)) w))),.val (.lst [r 0,r 1,r 2,r 3])]) (vA (EX (j:=6) rfl E))).trans ?_;have y:dV 7 [p,o,n,⇑w,↥t,⇑m,.val (aP w (cb (bY (t.take (w+m-1)) w))),.val (.lst [r 0,r 1,r 2,r 3])]=.ok (.lst [r 0,r 1,r 2,r 3]) [p,o,n,⇑w,↥t,⇑m,.val (aP w (cb (bY (t.take (w+m-1)) w))),.val (.lst [r 0,r 1,r 2,r 3])]:=rfl;have G:dV 5 [p,o,n,⇑w,↥t,⇑m,.val (aP w (cb (bY (t.take (w+m-1)) w))),.val (.lst [r 0,r 1,r 2,r 3])]=.ok (.int m) [p,o,n,⇑w,↥t,⇑m,.val (aP w (cb (bY (t.take (w+m-1)) w))),.val (.lst [r 0,r 1,r 2,r 3])]:=rfl;generalize ([p,o,n,⇑w,↥t,⇑m,.val (aP w (cb (bY (t.take (w+m-1)) w))),.val (.lst [r 0,r 1,r 2,r 3])]:ak)=EE at y G ⊢;have l:∀(c:PV) (S:ak),dC c S=.ok c S:=λ_ _=>rfl;have i0:aR (.lst [r 0,r 1,r 2,r 3]) (.int 0)=aa (r 0):=rfl;have i1:aR (.lst [r 0,r 1,r 2,r 3]) (.int 1)=aa (r 1):=rfl;have i2:aR (.lst [r 0,r 1,r 2,r 3]) (.int 2)=aa (r 2):=rfl;have i3:aR (.lst [r 0,r 1,r 2,r 3]) (.int 3)=aa (r 3):=rfl;have D:dE (λi j=>decide (j<i)) (.int m) (.int 6)=aa (.bl (decide (6<m))):=by show aa (PV.bl (decide ((6:Int)<(m:Nat))))=_;rw[decide_eq_decide.mpr (show((6:Int)<(m:Nat))↔6<m by lia)]
 have J:=SI ah (decide (6<m)) (decide (6<m));rw[decide_eq_true rfl]at J;obtain⟨z,N⟩:=d.t3;have B:eu [r 3,.raw (.ty "str")]=aa (.bl ah):=by rw[N];exact iJ (t:="str") rfl (by decide +kernel)
 have Q:Pu.eqT ah (r 1) (.int 1)=aa (.bl aj):=by rw[d.t1];rfl
 refine(dy (IQ (xI (mD (f:=mH) (mD y (l _ _) i0) (Gx (l _ _) (l _ _)) d.t0) (mD G (l _ _) D) J) (xI (mD (f:=mH) (mD y (l _ _) i2) (Gx (l _ _) (l _ _)) d.t2) (mD G (l _ _) D) J))).trans ?_;refine IQ (xI (mD y (l _ _) i1) (l _ _) Q) ?_;have C:=mD y (l (.int 3) EE) i3;have W:dL eu (ap (d2 aR (dV 7) (dC (.int 3))) (ap (dC (.raw (.ty "str"))) (az))) EE=.ok (.bl ah) EE:=by generalize d2 aR (dV 7) (dC (.int 3))=DX at C;simp[dL,ap,az,dC,C,B,R.bind,aM]
 generalize dL eu (ap (d2 aR (dV 7) (dC (.int 3))) (ap (dC (.raw (.ty "str"))) (az)))=DZ at W;simp[j6,dB,W,R.bind,aM,ml]
theorem Et(q:Wh a)(j i h:Slot){w:Nat}(p:1<=w)(o:w<=4){t:Tx}(s:t.length=w+8)(v:∀c∈t,c∈ce):∀(g:List Nat) (l f d:Slot),(∀m∈g,1<=m/\m<=9) -> ∃C D n,d8 5 (kB a) (g.map λm=>.int (m:Nat)) [j,i,h,⇑w,↥t,l,f,d]=.ok .next [j,i,h,⇑w,↥t,C,D,n]
 |[],l,f,d,_=>⟨l,f,d,rfl⟩
 |m::g,l,f,d,u=>by
  obtain⟨I,H⟩:=u m (by simp);obtain⟨B,A,G⟩:=QW (a:=a) q j i h p o s v m I H f d;obtain⟨z,y,x,E⟩:=Et q j i h p o s v g (⇑m) B A λk F=>u k (by simp[F]);refine⟨z,y,x,?_⟩;rw[cn,d8];show(match kB a [j,i,h,⇑w,↥t,⇑m,f,d]with
   |.ok .next b=>d8 5 (kB a) (g.map λm=>PV.int (m:Nat)) b
   |.ok .cont b=>d8 5 (kB a) (g.map λm=>PV.int (m:Nat)) b
   |.ok .brk b=>.ok .next b
   |r=>r)=_
  rw[G];exact E
theorem Rf:ke a [.val (.tup [.int 1,.tup [.str [46]]])]=.ok (.val (.bl aj)) [.val (.tup [.int 1,.tup [.str [46]]])]:=by have:=AU (a:=a) 1 [[46]];rw[show vw 1 [[46]]=aj by decide +kernel]at this;exact this
theorem Ua:ke a [.val (.tup [.int 2,.tup [.str [97,46],.str [97,98]]])]=.ok (.val (.bl aj)) [.val (.tup [.int 2,.tup [.str [97,46],.str [97,98]]])]:=by have:=AU (a:=a) 2 [[97,46],[97,98]];rw[show vw 2 [[97,46],[97,98]]=aj by decide +kernel]at this;exact this
theorem Pk(q:Wh a)(b:List Int):uR a [fi b]=.ok (.val (.bl ah)) [fi b]:=by
 obtain⟨I,T⟩:=IE q;have N:nv a (.ref a.NoView)=ah:=by simp[nv,gR]
 obtain⟨x,K,c,d,h⟩:=Ky (a:=a) b [] (by simp);obtain⟨z,A,g⟩:=BX (a:=a) b c [x,.tup [.int 1,.tup [.str [46]]],.tup [.int 2,.tup [.str [97,46],.str [97,98]]]] (by simp at d;lia) (by simp);have o:ke a [.val z]=.ok (.val (.bl aj)) [.val z]:=by
  simp only[bn,gi,or_false]at A;rcases A with rfl|rfl|rfl
  .exact T7 _ K
  .exact Rf
  .exact Ua
 have M:=λk=>CA k N I (Uv o k);obtain⟨u,P,O,s⟩:=zc (a:=a) b (c++[.int 0]) 3 (by decide) (by simp at d ⊢;lia);obtain⟨w,L⟩:∃w:Nat,2+u=(w:Nat):=⟨(2+u).toNat,∅⟩
 have D:1<=w:=∅
 have C:w<=4:=∅
 obtain⟨t,l,S,Q,E,J,p⟩:=QP (a:=a) b (c++[.int 0]++[.int 0]) (w+8) (w+8) ∅ ∅ (by simp at d ⊢;lia);obtain⟨H,G,F,B⟩:=Et (a:=a) q (fi b) (.own (.lst l)) (.val z) D C ∅ E [1,5,6,7,9] .none .none .none (by decide);have v:bI (.int 2) (.int u)=aa (.int w):=by show aa (PV.int (2+u))=_;rw[L]
 have f:bI (.int w) (.int 8)=aa (.int ((w+8:Nat):Int)):=by show aa (PV.int _)=_;congr 2
 have i:yaB a [fi b,.none,.none,.none,.none,.none,.none,.none]=.ok (.ret (.val (.bl ah))) [fi b,.own (.lst l),.val z,⇑w,↥t,H,G,F]:=by show aI _ (aI _ (aI (cO (dB (d2 (Pu.eqT ah) (dF (cW [2] (dL iK (ap (dC (.int 4)) (az))) (eh) (bL (a9 (ja a) (gV (dV 0) (gV (dV 1) (Pu.cm))))))) (d2 yc (dF (dL eR (ap (dL ba (ap (dC (.str [114,101,102,117,115,101,100])) (ap (dC (.int 2)) (az)))) (az)))) (dC (.int 4))))) (cq (dC (.bl aj))) (dJ)) (aI _ (aI _ (aI (λn=>cY (dR 5 _ (kB a) n)) _))))) _=_;refine(dy (ε1:=[fi b,.own (.lst []),.none,.none,.none,.none,.none,.none]) (by simp![])).trans ?_;refine(dy (ε1:=[fi b,.own (.lst (c++[.int 0])),.val z,.none,.none,.none,.none,.none]) (by generalize c++[PV.int 0]=Y2 at g;simp![h,g])).trans ?_;refine(dy (Ro (xI (EX (j:=2) (r:=λ_=>rf 2) rfl M) (y:=.lst [rf 2,rf 2,rf 2,rf 2]) (by rfl) (by rfl)))).trans ?_;refine(dy (ε1:=[fi b,.own (.lst (c++[.int 0]++[.int 0])),.val z,⇑w,.none,.none,.none,.none]) (by generalize c++[PV.int 0]++[.int 0]=Y3 at s;generalize c++[PV.int 0]=Y2 at s;generalize PV.int w=WI at v;simp![s,v])).trans ?_;refine(dy (ε1:=[fi b,.own (.lst l),.val z,⇑w,↥t,.none,.none,.none]) (by generalize c++[PV.int 0]++[.int 0]=Y3 at p;generalize PV.int ((w+8:Nat):Int)=W8 at p f;generalize PV.int w=WI at f;simp![f,p])).trans ?_;refine(dy (d1:=λn=>cY (dR 5 (br (dL ba (ap (dC (.int 1)) (ap (dC (.int 5)) (ap (dC (.int 6)) (ap (dC (.int 7)) (ap (dC (.int 9)) (az)))))))) (kB a) n)) (Is (xs:=[1,5,6,7,9].map λm:Nat=>PV.int (m:Nat)) (ε1:=[fi b,.own (.lst l),.val z,⇑w,↥t,.none,.none,.none]) rfl B)).trans ?_;rfl
 simp[uR,bv,fV,bu,bE,i,back,gM,aM,R.bind]
end
open L2 Pu Sh
def vB(K:ay)(a:Ad):Bool:=pJ K a.SlitError vf "ValueError.__new__" && (gR a).all (λx=>pJ K x vf "ValueError.__new__" && subB K a.SlitError x&&yh K x&&(gR a).all (λd=>fe K (.ref x) (.ref d) == aa (x == d))&&fe K (.ref x) (.type "ValueError") == aa ah)&&Ah K&&decide (gR a).Nodup
section
variable{K:ay}{h g:aB}{i:Str->Option ai}{a:Ad}
theorem qm(h:vB K a=ah):pJ K a.SlitError vf "ValueError.__new__"=ah/\(∀x∈gR a,pJ K x vf "ValueError.__new__"=ah/\subB K a.SlitError x=ah/\yh K x=ah/\(∀d∈gR a,fe K (.ref x) (.ref d)=aa (x == d))/\fe K (.ref x) (.type "ValueError")=aa ah)/\Ah K=ah/\(gR a).Nodup:=by unfold vB at h;simp only[g7,tP,beq_iff_eq,decide_eq_true_eq]at h;obtain⟨⟨⟨l,c⟩,j⟩,f⟩:=h;exact⟨l,λx b=>⟨(c x b).1.1.1.1,(c x b).1.1.1.2,(c x b).1.1.2,(c x b).1.2,(c x b).2⟩,j,f⟩
theorem QF(h:vB K a=ah):AW K (jt a):=by
 obtain⟨_,l,_,_⟩:=qm h;intro c D b e;unfold jt at e;split at e
 .rename_i x d;split at e
  .rename_i f;rw[g7]at f;cases e;have j:x∈gR a:=by simpa using f.1
   have m:d∈gR a:=by simpa using f.2
   exact⟨x,.ref d,rfl,FJ (l x j).2.2.1,rfl,(l x j).2.2.2.1 d m⟩
  .cases e
 .rename_i x T;split at e
  .rename_i f;rw[g7]at f;cases e;have j:x∈gR a:=by simpa using f.1
   have n:T = "ValueError":=by simpa using f.2
   subst n;exact⟨x,.type "ValueError",rfl,FJ (l x j).2.2.1,rfl,(l x j).2.2.2.2⟩
  .cases e
 .cases e
theorem Rm(X:K.In g)(h:vB K a=ah):∀c,nv a c=ah->Under g a.SlitError c:=by
 obtain⟨_,d,_,_⟩:=qm h;intro c e;unfold nv at e;split at e
 .rename_i x;have b:x∈gR a:=by simpa using e
  exact Na X (d x b).1 (d x b).2.1
 .cases e
structure Top(K:ay)(a:Ad):Prop where
 yaD:dj K "_law_cell_at" Au
 yaF:dj K "_law_mixed" Ak
 yaE:dj K "_law_draw" Bk
 yaH:dj K "_law_pick" Cj
 yaG:dj K "_law_odd" Cy
 yaK:dj K "_law_which" A3
 yay:dj K "is_whole_number" AN
 yaz:dj K "is_width" Cz
 yav:dj K "has_only" xO
 yaA:dj K "is_window" B3
 yan:dj K "are_windows" xS
 yax:dj K "is_view_with" BS
 yaw:dj K "is_view" BA
 yaq:dj K "check_view" CB
 yap:dj K "check_shared_view" Bp
 yaN:dj K "partings" xl
 yam:dj K "add_endings" AZ
 yar:dj K "counted" AE
 yaR:dj K "texts" zg
 yaM:dj K "pairs" AF
 yaO:dj K "reached_pieces" AB
 yas:dj K "excesses" Ao
 yat:dj K "fewest_for" yD
 yau:dj K "fewest_texts" vh
 yaL:dj K "least_list" Cv
 yao:dj K "bundle" Ax
 yaQ:dj K "sure_sign" A7
 yaP:dj K "sure" yx
 yaC:dj K "_law_ask" AL
 yaJ:dj K "_law_text" A_
 yaI:dj K "_law_seen" xo
 yaB:dj K "law" r_
 yaS:cS K bU "ValueError"=aa ae
 yaT:cS K bU "all"=aa ae
 yaU:cS K bU "any"=aa ae
 yaV:cS K bU "bool"=aa ae
 yaW:cS K bU "int"=aa ae
 yaX:cS K bU "isinstance"=aa ae
 yaY:cS K bU "len"=aa ae
 yaZ:cS K bU "list"=aa ae
 ya0:cS K bU "max"=aa ae
 ya1:cS K bU "min"=aa ae
 ya2:cS K bU "range"=aa ae
 ya3:cS K bU "set"=aa ae
 ya4:cS K bU "sorted"=aa ae
 ya5:cS K bU "str"=aa ae
 ya6:cS K bU "sum"=aa ae
 ya7:cS K bU "tuple"=aa ae
 ybb:∃t,cS K bU "LETTERS"=aa (aa (.str (tS [97,98,99]) t))
 ybc:∃t,cS K bU "MOST_WINDOWS"=aa (aa (.int 9 t))
 ybd:∃t,cS K bU "MOST_WINDOWS_SHARED"=aa (aa (.int 6 t))
 ybe:∃t,cS K bU "POINT"=aa (aa (.str (tS [46]) t))
 ybf:∃t,cS K bU "WIDEST"=aa (aa (.int 4 t))
 yak:cS K bU "SlitError"=aa (aa (.ref a.SlitError))
 yaf:cS K bU "NoText"=aa (aa (.ref a.NoText))
 yah:cS K bU "NoWidth"=aa (aa (.ref a.NoWidth))
 yag:cS K bU "NoView"=aa (aa (.ref a.NoView))
 yai:cS K bU "NoWindow"=aa (aa (.ref a.NoWindow))
 yac:cS K bU "Never"=aa (aa (.ref a.Never))
 yab:cS K bU "Full"=aa (aa (.ref a.Full))
 yaj:cS K bU "Nothing"=aa (aa (.ref a.Nothing))
 yal:cS K bU "Unlike"=aa (aa (.ref a.Unlike))
 yae:cS K bU "NoPlace"=aa (aa (.ref a.NoPlace))
 yad:cS K bU "NoLetters"=aa (aa (.ref a.NoLetters))
 yaa:cS K bU "BadText"=aa (aa (.ref a.BadText))
 ck:vB K a=ah
 z0:qZ K "least_ending"=ae
 wh:Wh a
theorem Nl(T:Top K a)(X:K.In g)(G:g.Ns bU i):dz K i g a where
 yaD:=T.yaD.at X G
 yaF:=T.yaF.at X G
 yaE:=T.yaE.at X G
 yaH:=T.yaH.at X G
 yaG:=T.yaG.at X G
 yaK:=T.yaK.at X G
 yay:=T.yay.at X G
 yaz:=T.yaz.at X G
 yav:=T.yav.at X G
 yaA:=T.yaA.at X G
 yan:=T.yan.at X G
 yax:=T.yax.at X G
 yaw:=T.yaw.at X G
 yaq:=T.yaq.at X G
 yap:=T.yap.at X G
 yaN:=T.yaN.at X G
 yam:=T.yam.at X G
 yar:=T.yar.at X G
 yaR:=T.yaR.at X G
 yaM:=T.yaM.at X G
 yaO:=T.yaO.at X G
 yas:=T.yas.at X G
 yat:=T.yat.at X G
 yau:=T.yau.at X G
 yaL:=T.yaL.at X G
 yao:=T.yao.at X G
 yaQ:=T.yaQ.at X G
 yaP:=T.yaP.at X G
 yaC:=T.yaC.at X G
 yaJ:=T.yaJ.at X G
 yaI:=T.yaI.at X G
 yaB:=T.yaB.at X G
 yaS:=jF X G T.yaS
 yaT:=jF X G T.yaT
 yaU:=jF X G T.yaU
 yaV:=jF X G T.yaV
 yaW:=jF X G T.yaW
 yaX:=jF X G T.yaX
 yaY:=jF X G T.yaY
 yaZ:=jF X G T.yaZ
 ya0:=jF X G T.ya0
 ya1:=jF X G T.ya1
 ya2:=jF X G T.ya2
 ya3:=jF X G T.ya3
 ya4:=jF X G T.ya4
 ya5:=jF X G T.ya5
 ya6:=jF X G T.ya6
 ya7:=jF X G T.ya7
 ybb:=T.ybb.imp λ_ e=>gn X G e
 ybc:=T.ybc.imp λ_ e=>gn X G e
 ybd:=T.ybd.imp λ_ e=>gn X G e
 ybe:=T.ybe.imp λ_ e=>gn X G e
 ybf:=T.ybf.imp λ_ e=>gn X G e
 yak:=gn X G T.yak
 yaf:=gn X G T.yaf
 yah:=gn X G T.yah
 yag:=gn X G T.yag
 yai:=gn X G T.yai
 yac:=gn X G T.yac
 yab:=gn X G T.yab
 yaj:=gn X G T.yaj
 yal:=gn X G T.yal
 yae:=gn X G T.yae
 yad:=gn X G T.yad
 yaa:=gn X G T.yaa
 yba:=AD X (gn X G T.yag) ((qm T.ck).2.1 a.NoView (by simp[gR])).1
 ya8:=AD X (gn X G T.yab) ((qm T.ck).2.1 a.Full (by simp[gR])).1
 ya9:=AD X (gn X G T.yac) ((qm T.ck).2.1 a.Never (by simp[gR])).1
 err_SlitError:=S5 X (qm T.ck).1
 und:=Rm X T.ck
 tab:=QF T.ck
theorem Os{l:CV}{w:aG}{d:af}(X:K.In h)(G:h.Ns bU i)(b:i "law"=aa (.ref d))(T:Top K a):∃c:gh,(∀(s:am) (v:ai),BindsTo s c ⟨[v],[]⟩ [("_law_script",v)])/\∀g:aB,K.In g->g.Ns bU i->jP l.prog w K i g (cf l.prog w) 18 d c ["_law_script"] (bB K (uR a)):=by
 obtain⟨f,oc,x,kV,y,u,B,A,z,r,o,n,m,j⟩:=T.yaB;have e:=b.symm.trans (gn X G o);cases e;exact⟨_,λs v=>.of_eq rfl,λg p q=>Px (Nl T p q) (HJ n m j)⟩
theorem NT{l:CV}{q:aN}{j:List Str}{XP:(Str->Option ai)->aB->Prop}{o:aG->aB->Prop}{d:DefRec}{K:Params->ay}(y:l.most=aa 63)(u:d.params.defaults=[])(m:d.name = "law")(A:∀(w:aG) (h:aB),o w h->(K w.params).In h) {a:Ad} (T:∀w:aG,Top (K w.params) a):PySem.W.WalkO q j XP o l.row.toRowW d [] (λf r=>PySem.call f r) :=
 L2.VM (n:=63) (k:=18) (x:="_law_script") (K:=K) (CX:=λw=>cf l.prog w) (sp:=λw=>bB (K w.params) (uR a)) y (by decide) u ⟨rfl,by decide,by decide⟩ (λw h Y=>⟨A w h Y,λc P e=>by rw[(T w).z0]at e;cases e⟩)
  (λw i F h C G p=>Os C G (by rw[<-m];exact p) (T w))
  (λw H b v E _ B=>Tu (Ss (qm (T w).ck).2.2.1 B) (Pk (T w).wh v))
  (λw H s e D z=>by obtain⟨_,_,_,_,_,_,_,_,_,_,_,f⟩:=z;exact f)
theorem VG{l:CV}{q:aN}{b:List Str}{XP:(Str->Option ai)->aB->Prop}{j:aG->aB->Prop}{d:DefRec}{K:Params->ay}{yak yaf yah yag yai yac yab yaj yal yae yad yaa:af}(o:l.most=aa 63)(n:d.params.defaults=[])(c:d.name = "law")(p:∀(w:aG) (h:aB),j w h->(K w.params).In h) (T:∀w:aG,Top (K w.params) ⟨yak,yaf,yah,yag,yai,yac,yab,yaj,yal,yae,yad,yaa,0,0⟩):PySem.W.WalkO q b XP j l.row.toRowW d [] (λf m=>PySem.call f m):=NT o n c p T
end
end K30
set_option genInjectivity false in
structure PySem.W.Fast:Prop where(tw10357480241161168892 tw15204575498465691537 tw7244464561933158056 tw14841965505698994228 tw9700366810521564908 tw7530240667082864530 tw5942755889708724402 tw721529926562421787 tw11612520339143984965 tw9097434374146834849 tw14154030906907211308 tw16431197216964567307 tw15021733072492419173 tw7705439632227776074 tw7778222263698235561 tw9185899686751366715 tw13714866549734528076 tw16058119762271061575 tw1439306237426766487 tw17477418058201415591 tw7463289898210478438 tw13315001420325382285 tw2958842299565135779 tw14628681464400237573 tw15577347533589533874 tw3190926914452926498 tw8811884924793928275 tw1067827739927979193 tw278927821725719817 tw3842679396747329430 tw3345563084061708655 tw13187696721543034338 tw17335417035653126140 tw3680740846268588803 tw5361273221665356657 tw8732948735501951079 tw156113091492732820 tw12458689653490112371 tw16089391297631736646 tw15931848941985701893 tw6685990957804269330 tw10349453698631755646 tw1051278363435350856 tw2486973557840914340 tw1285171443390563277 tw7210798590796596546 tw15005294822225772698 tw7715318591571044432 tw17308108260898961353 tw5745664595159656226 tw10450377408140917526 tw7710279964801966120 tw9951431401474879482 tw4485347278140598862 tw6226073922926385845 tw4979368403332558931 tw8892832826717758963 tw7803405758506088177 tw17569748422857735716 tw15682833208782757796 tw13882286137210773402 tw15225368440390974993 tw13938014874620693198 tw107833805299504267 tw9173096493316079584 tw7704753055527659240 tw15992437738267921108 tw7325987086339559920 tw10020612481787319177 tw12606027079904022527 tw14942090621452488668 tw14218968896397211490 tw16451761158795874136 tw8665006001249896290 tw17972979664656598754 tw16528590937934618219 tw5604873105225178609 tw9220333577423563023 tw4453153953505573477 tw3142059338151418166 tw14175783487278255117 tw14033355978989824861 tw10346132887430312657 tw291848203540119577 tw17946927198259998376 tw6878736772293243993 tw10601853235271522119 tw12600650805684279181 tw2236807009914977512 tw13535096492877081704 tw2872739700767468812 tw13026309526925249795 tw13727347292854899502 tw8830309484978377728 tw11724109117718660694 tw11275886388202590659 tw17454203036180679701 tw11064426704087246108 tw10974094595061977199 tw18136723202868289766 tw9197646350393523324 tw10631392150009710773 tw839516758903020581 tw13571215319008306708 tw7652714651931528196 tw5755692672853249618 tw13163882778387025321 tw6619471039992266941 tw15507692063637911341 tw12320531637195230543 tw3002818081493519486 tw9803771464731089906 tw1120360103358127041 tw14911688021528701238 tw11391325219603606567 tw425857686040629837 tw10465761297186452398 tw9122983175174316812 tw16862701808394583435 tw10481776718315542261 tw9225456338557559931 tw7518784841137872548 tw16463953210672452987 tw14916356139807543958 tw2579224820288887771 tw8143902844535558242 tw7023088500878806657 tw17576030296082854059 tw6535879001152529314 tw14596363892774699285 tw10010751866633359445 tw3031418515107368244 tw9074598626334607324 tw17787424998143267779 tw11264713397452615353 tw17547176295404851489 tw8763505192473631058 tw3497408568456041796 tw17677110849771415414 tw7866633463225384290 tw15894998510916743047 tw7941215867033147776 tw7185951660146846352 tw7389810221404329521 tw11613578682788423324 tw10264854832038192972 tw12355158408977429077 tw14469286717975619442 tw4109002451346866664 tw655873376957514156 tw312278969597698657 tw3479344143120531455 tw1252877526188772856 tw12498710773531991314 tw3274338514497552092 tw2748249749847374572 tw4902157878832555688 tw13915599592778511293 tw2739419183982353884 tw15558697741775956154 tw10767439438372310694 tw15415286861513536942 tw2574149412721134332 tw12542892655138551649 tw16565648587707999954 tw8890529833406656043 tw9213578816690181621 tw15003731824324359573 tw1468787121821600764 tw4244603179920885201 tw12600546475087328807 tw3251070901182284430 tw6120616215923034300 tw12055304662123165683 tw13792545970855154668 tw8374462449319152520 tw7868351788184955219 tw8742731689262136686 tw10373502358716435009 tw15327389317973815802 tw7444240220632962895 tw10733693627258387773 tw5896562915551912480 tw9323679241562634097 tw961125050650875103 tw4534992509669526253 tw11736969632959168013 tw7322164606623844205 tw8039630162717339805 tw13818402198331104391 tw3792601616171705308 tw7573026428142718239 tw11073420920401639749 tw765347082538073838 tw8034814401601780462 tw1883265388362380468 tw1756075024203079876 tw5583268879039238581 tw10176830294436993246 tw17479652336052863602 tw10953445193253056039 tw9497494051080164077 tw13154956017681763329 tw8965494004164569569 tw16758204627154748526 tw7529119306967649354 tw6478455115419831783 tw6519670652443801433 tw15473691893701808448 tw13496874303086346754 tw12219077940138028461 tw1088092882066642607 tw15173009544428447716 tw11760190528756605549 tw2734852630107800094 tw763824120328379810 tw15088281976084667882 tw14528503174046749561 tw4165715755740163874 tw5967621463757824272 tw5137089895040979521 tw13140653598576064955 tw13271733085311588610 tw1828953927072966667 tw16261066507946405881 tw9095072004700407146 tw18209889421427679626 tw4610396865013454419 tw15280987316909114891 tw12550097077677843429 tw13933147184960413050 tw4575461055587638463 tw4249390431104020777 tw11641365393194328676 tw5821892500034155580 tw3082763209814888090 tw13988246612357142135 tw7785028092773727825 tw7428364109753547595 tw13276694391386440081 tw5070192985159661851 tw17283796710305911074 tw4411926151806906013 tw16381173216420762630 tw9304070097069931006 tw10167915883653266609 tw1175452408657199719 tw395522790250219756 tw2574637924862785543 tw4538672018021260531 tw12381814600511202879 tw10518309959201676154 tw5434949228499853772 tw11851432999971488053 tw15751434273982748189 tw17294999592066752791 tw12912456390121969975 tw11679850977969634109 tw10185768122828957702 tw15815423429364081878 tw824709469073332396 tw2896106575488170847 tw5577330333393223064 tw7495876223885956555 tw13987877888658298960 tw1246995441906886429 tw4616889182990797326 tw15049580060021790642 tw13922543652981762938 tw2075877039430798366 tw8357662593453084956 tw16488061268904408596 tw14468142593640893827 tw12716875376016496657 tw17324368155595977609 tw2575466547640366568 tw16743035397917097629 tw15142140386097821076 tw2090068944918388224 tw3812172802988686313 tw10732655900067149503 tw4976858862343042532 tw14064009039599724266 tw416509581969796104 tw15198778958216068138 tw6456428031136114290 tw13950369671624022457 tw14508510177498325814:True)
open PySem PySem.W PyProof.Rows
set_option maxRecDepth 100000 in
set_option maxHeartbeats 0 in
theorem PySem.Challenge.cw_slitview_k30_together_refused_holds : PySem.Challenge.rw_slitview_k30_together_refused.Holds := by
 w_on; o_law; k_head; (case hw=>w_witness2)
 k_fill
 refine' K30.VG (l:=PySem.Challenge.rw_slitview_k30_together_refused) rfl rfl rfl (fun w h Y=>PySem.W.kIn_of Y) ?T
 case T =>
  intro w
  refine' { yaD:=?yaD,yaF:=?yaF,yaE:=?yaE,yaH:=?yaH,yaG:=?yaG,yaK:=?yaK,yay:=?yay,yaz:=?yaz,yav:=?yav,yaA:=?yaA,yan:=?yan,yax:=?yax,yaw:=?yaw,yaq:=?yaq,yap:=?yap,yaN:=?yaN,yam:=?yam,yar:=?yar,yaR:=?yaR,yaM:=?yaM,yaO:=?yaO,yas:=?yas,yat:=?yat,yau:=?yau,yaL:=?yaL,yao:=?yao,yaQ:=?yaQ,yaP:=?yaP,yaC:=?yaC,yaJ:=?yaJ,yaI:=?yaI,yaB:=?yaB,yaS:=?yaS,yaT:=?yaT,yaU:=?yaU,yaV:=?yaV,yaW:=?yaW,yaX:=?yaX,yaY:=?yaY,yaZ:=?yaZ,ya0:=?ya0,ya1:=?ya1,ya2:=?ya2,ya3:=?ya3,ya4:=?ya4,ya5:=?ya5,ya6:=?ya6,ya7:=?ya7,ybb:=?ybb,ybc:=?ybc,ybd:=?ybd,ybe:=?ybe,ybf:=?ybf,yak:=?yak,yaf:=?yaf,yah:=?yah,yag:=?yag,yai:=?yai,yac:=?yac,yab:=?yab,yaj:=?yaj,yal:=?yal,yae:=?yae,yad:=?yad,yaa:=?yaa,ck:=?ck,z0:=?z0,wh:=?wh }
  (case yak=>k_is)
  (case yaf=>k_is)
  (case yah=>k_is)
  (case yag=>k_is)
  (case yai=>k_is)
  (case yac=>k_is)
  (case yab=>k_is)
  (case yaj=>k_is)
  (case yal=>k_is)
  (case yae=>k_is)
  (case yad=>k_is)
  (case yaa=>k_is)
  (case yaD=>and_intros)
  (case yaF=>and_intros)
  (case yaE=>and_intros)
  (case yaH=>and_intros)
  (case yaG=>and_intros)
  (case yaK=>and_intros)
  (case yay=>and_intros)
  (case yaz=>and_intros)
  (case yav=>and_intros)
  (case yaA=>and_intros)
  (case yan=>and_intros)
  (case yax=>and_intros)
  (case yaw=>and_intros)
  (case yaq=>and_intros)
  (case yap=>and_intros)
  (case yaN=>and_intros)
  (case yam=>and_intros)
  (case yar=>and_intros)
  (case yaR=>and_intros)
  (case yaM=>and_intros)
  (case yaO=>and_intros)
  (case yas=>and_intros)
  (case yat=>and_intros)
  (case yau=>and_intros)
  (case yaL=>and_intros)
  (case yao=>and_intros)
  (case yaQ=>and_intros)
  (case yaP=>and_intros)
  (case yaC=>and_intros)
  (case yaJ=>and_intros)
  (case yaI=>and_intros)
  (case yaB=>and_intros)
  (case yaS=>k_is)
  (case yaT=>k_is)
  (case yaU=>k_is)
  (case yaV=>k_is)
  (case yaW=>k_is)
  (case yaX=>k_is)
  (case yaY=>k_is)
  (case yaZ=>k_is)
  (case ya0=>k_is)
  (case ya1=>k_is)
  (case ya2=>k_is)
  (case ya3=>k_is)
  (case ya4=>k_is)
  (case ya5=>k_is)
  (case ya6=>k_is)
  (case ya7=>k_is)
  (case ybb=>refine' Pu.VA ?e; (case e=>k_is))
  (case ybc=>refine' Pu.VE ?e; (case e=>k_is))
  (case ybd=>refine' Pu.VE ?e; (case e=>k_is))
  (case ybe=>refine' Pu.VA ?e; (case e=>k_is))
  (case ybf=>refine' Pu.VE ?e; (case e=>k_is))
  (case ck=>kernel_rfl)
  (case z0=>kernel_rfl)
  (case wh=>refine K30.VF ?_; kernel_rfl)
