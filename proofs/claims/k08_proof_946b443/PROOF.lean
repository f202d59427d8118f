import PyProof.Rows.All
import Wide.All
import OpenK.AllK
import Wide.FinOn
import Lean
import PyProof.EqAt
import PyProof.EqKinds
import PyProof.TupleCall
import KE.KIntText
import KE.KDictList
import KE.KDictSum
import PyProof.Rows.Range3
import PyProof.DictWalks
import KE.KMinKey
import KE.KSortTup
import PyProof.EnumStmt
import PyProof.EnumMake
import PyProof.EnumFor
import PyProof.Draws
import PyProof.Rows.TupDisplay
import PySem.Challenge.RW_slitview_k08_whole_cleared
noncomputable section
set_option compiler.extract_closed false
local macro_rules | `(∅) => `(by first | assumption | lia | omega)
set_option Elab.async false
set_option bootstrap.genMatcherCode false
set_option genSizeOf false
set_option linter.all false
set_option maxRecDepth 100000
local macro_rules | `(tactic| ac_nf) => `(tactic| exact ⟨rfl,rfl,rfl,by decide +kernel,rfl,by decide +kernel,by decide +kernel⟩)
open Option renaming some->aa,none->ae,bind_some->gR,map_eq_some_iff->kQ,map_some->oK,bind_eq_some_iff->tK,getD_none->IH,isSome_map->IN
open PySem renaming Addr->af,Value->ai,Shared->ao,wpAny_bind->ap,wpAny->aq,model->au,Expr->aA,Heap->aB,wpAny_pure->aD,World->aI,Program->aQ,Around->aX,starEach->a9,sizeLine->bg,eval->bh,Stmt->bn,SetTable->cH,mainGlobals->cZ,rawInt->dr,compareOp->dZ,backTo->ef,Scope->eF,Paired->fi,bootBuiltins->fF,wpAny_mono->f9,cellsFrom->f_,NameKind->gL,bindArgs->hZ,binaryOp->i_,FuncData->ja,swapsWith->ju,sysModules->jL,wpAny_newObj_type->jN,holding->kc,wpAny_holding->ke,wpAny_call_entry->kP,foldedSetIterable->lz,mem_of_lookup->lA,Keyword->lB,setField->lE,unsupported->lF,assign->mh,pyNext->mi,wpAny_field->mn,wpAny_setState_of->mq,isTrue->m_,pyIter->nc,IsPart->ni,strKind->nu,wpAny_of_eq->nv,setNext->ny,wpAny_setField->nA,wpAny_truthy_bool->oF,wpAny_loadPart'->oG,wpAny_rule->oN,builtinsNs->qi,behindInMarks->ql,assignEach->qm,codeAny->qo,getItem->qp,attributeBase->qu,newExc->qv,tupleKind->sR,wpAny_passesOwn->sS,sizeLine_eq->sU,sliceBounds->sX,valueAt->sZ,callerA->s_,DictEntry->tf,wpAny_askSetting->tu,hashByValue->tI,setSearchFrom->tJ,PassesOwn->vL,wpAny_callSpecial?_slot->vN,backToKw->vO,keywordEach->vP,wpAny_specialOf->vQ,lookup_relabel_local->vT,codeAny_builtin->vW,raiseNew->vX,pickOrder->vZ,firstArgMember->v3,wpAny_seqItems->v5,eqIsQuiet->wb,ofAClassStatement->wc,wpAny_forIn_list->wd,reduceHash->we,codeAny_mono->zd,seqItems?->zo,setsByText->zq,wpAny_ite_split->zr,wpAny_execs_nil->Cj,swapsWithSole->Ck,swappedStores->Cm,letOwnedTupleGo->Cn,wpAny_typeOf->Cr,subscripted->Ct,tupleKind_room_in1->Cy,wpAny_newList->CG,plainId_quiet->CJ,wpAny_attempt->CK,wpAny_isInstance->CL,wpAny_pyIter_tuple->CQ,intKind->C9,wpAny_typeNameOfWhole_keyiter->Dd,wpAny_typeNameOf_keyiter->De,wpAny_Call_Name_kw->IB,noFill_tuple_add->IC,wpAny_pyIter_list->IT,wpAny_pyIter_slot->I_,searchCouldBeSeen->Jl,wpAny_dictEntries->Jo
open Bool renaming true->ah,false->ak,false_ne_true->eG,false_eq_true->eZ,and_eq_true->h_,eq_iff_iff->jv,not_true->qE,true_and->zk,and_false->zl,false_xor->zG,or_eq_true->CD,eq_false_iff->C6,not_false->C7,not_eq_true'->Je
open PySem.W renaming Frag->ay,nsIn->fo,kitOne->jM,fnOf->kM,mg_none_of->lJ,kia_one->mj,mg_of->nH,tabIn->qj,hashAt->qD,excIn->tz,keepIn->vM,findIn->zc,codeIn->zf,OpenLaw->Cz,methodObj->Iv,kat_cons->Jm,KatTups->SV
open PyProof.Rows renaming wpS_bind->aK,wpS_pure->aS,pendingOf->bw,SortSt->bK,StrsAre->d9,seqObj->fS,SortKind->gw,wpS_mono->gT,wpS_forRange->gU,size_push'->jx,envOfC->kL,pairsOf->kW,wpS_get->lG,AllBare->m8,wpS_modify->nJ,wpS_lift->tD,listUpdate_at->CN,callWith_type1->Ix,slot_tuple_getitem->SO
open Nat renaming le_refl->aZ,le_trans->c0,ne_of_lt->df,lt_irrefl->gu,lt_of_lt_of_le->gK,zero_le->jO,le_of_lt->kJ,lt_succ_of_lt->kT,le_of_eq->nq,mod_lt->nz,not_lt_zero->nB,lt_succ_self->nD,zero_add->nG,ne_of_gt->sT,le_succ->tj,succ_pos->tF,add_right_comm->v7,pow_succ->v8,pow_add->v9,add_comm->zh,add_assoc->zy,mod_eq_of_lt->zD,lt_trans->Cw,lt_of_le_of_lt->CA,mul_le_mul->CI,add_mul->CS,add_mod->C0,mul_comm->C1,eq_zero_or_pos->Jx
open List renaming mem_cons->br,map_cons->bE,mem_map->bI,length_map->bZ,getElem?_eq_some_iff->cA,map_map->cB,range->cG,getElem?_set_ne->cS,size_toArray->cX,replicate->dO,getElem?_eq_getElem->dP,getElem?_set_self->dY,getElem?_map->d7,length_cons->d8,length_append->eY,mem_cons_of_mem->fj,nil_append->fq,mem_cons_self->f8,length_set->gb,not_mem_nil->gc,mem_append->gv,foldl_cons->gM,append_assoc->gP,mem_singleton->gQ,sum_cons->gS,mem_append_right->i9,append_nil->jb,mem_of_getElem?->jw,map_congr_left->jP,mem_range->kb,nodup_cons->kf,take_append_drop->kh,all_eq_true->ki,mem_filter->kI,lookup_cons->kR,find?_cons->lC,filterMap_cons->mf,length_drop->mo,length->ng,length_take->nh,length_nil->nk,take_of_length_le->nt,getElem_of_mem->nI,filter_eq_self->nM,any_cons->oH,pairwise_map->oI,getElem?_eq_none->oM,flatMap_cons->oQ,mem_append_left->qk,all_cons->qt,ext_getElem?->qw,drop_eq_getElem_cons->qx,mem_reverse->qA,cons_append->qB,length_eq_zero_iff->qF,filter_map->qG,getElem?_append_left->sV,all_map->tm,range_succ->tq,eq_nil_of_length_eq_zero->tt,pairwise_iff_getElem->tE,any_eq_true->tL,mem_flatMap->tN,filter_cons->tO,nodup_nil->vR,map_append->vU,nodup_append->v6,foldl_append->wf,of_mem_zip->ze,filterMap_map->zg,map_nil->zj,toList_toArray->zm,getElem?_zip_eq_some->zt,drop_length->zu,count_cons->zw,getElem?_of_mem->zx,getElem_drop->zB,getElem_take->zC,zip_cons_cons->zH,getElem_mem->zI,map_id'->zJ,dropLast->zK,flatMap_append->zL,getElem?_append_right->Cp,length_singleton->Cv,lookup->CB,drop_append_of_le_length->CC,mergeSort_perm->CF,getElem?_cons_succ->CM,getElem?_drop->CO,take_zero->CP,getElem?_cons_zero->CT,pairwise_append->CU,singleton_append->CV,drop_eq_nil_iff->CW,take_length->CY,find?_eq_none->C3,length_erase_of_mem->C5,cons_lt_cons_iff->C_,count_append->Df,mem_map_of_mem->Dg,mem_filterMap->Iy,replicate_succ->IM,lookup_append->IQ,getElem?_range->IR,range_succ_eq_map->IS,length_range->IU,pairwise_mergeSort->IV,map_filterMap->Ja,reverse_append->Jf,reverse_perm->Jg,pairwise_reverse->Jh,getElem?_take->Ji,set_cons_succ->Jj,map_snd_zip->Jn,take_append_of_le_length->Jp,filter_flatMap->Jq,perm_ext_iff_of_nodup->Jr,length_filter_le->Js,mem_or_eq_of_mem_set->Jt,drop_of_length_le->Ju,length_flatMap->Jv,dropLast_eq_take->Jw,take_succ_eq_append_getElem->SS,Perm->SW
open PySem.Heap renaming lt_size->bG,get?_push_of_some->bH,get?_push_size->cW,SameBut->kK,get?_update_self->nj,get?_update_other->qr,size_push->vS,get?_none_of_le->Iw,get?_update_ne->Jb,size_update->Jd
open Option.some renaming inj->cO
open Ne renaming symm->dz
open PySem.SetTable renaming bits->eh,runEnd->fG,below->iB,Probe->kj,leap->mv,turns->qC,insertAt->tG,advance->C4,layClean->Jk
open Array renaming length_toList->fk,getElem?_eq_getElem->jc,toList_append->jd,getElem?_eq_some_iff->nr,getElem_extract->nK,getElem?_toList->oO,toList_push->vY,getD_eq_getD_getElem?->v_,toArray_toList->CH,perm_iff_toList_perm->CZ,forIn_toList->C8
open PySem.PassesOwn renaming never->je
open PySem.Obj renaming mapSeq->kg,mapFields->nE,data_mapFields->qy,isFreed_of_fields->zv,cls_mapFields->Jc
open Int renaming toNat_natCast->kN,emod_lt_of_pos->zE,emod_nonneg->zF
open Iff renaming rfl->kU
open Function renaming comp_def->lD,comp->oR
open PyProof.Rows.KeyOrd renaming kle_of_klt->lH,kle_refl->mr,kle_trans->qz
open List.cons renaming injEq->lI
open False renaming elim->ml
open PySem.Builtin.Tuple renaming tupleHashOf->nL,tupleExact->Cs
open PySem.Paired renaming length->oE,snoc->zi
open PySem.Heap.SameBut renaming update->oJ
open PySem.SetTable.layClean renaming free->oP
open PySem.Str renaming ofString->sW,empty->zb
open PySem.SeqAt renaming EqAt->sY
open PySem.SetTable.below renaming go->tw
open List.Perm renaming refl->vV,append_left->zp,eq_of_pairwise->IW
open PySem.SetTable.probe renaming go->wa
open PySem.Around renaming under_plainId->zn
open Nat.succ renaming inj->zz
open Exists renaming elim->zA
open PySem.Value renaming isInt->Ch,isStrOf->Ci
open PySem.Calls renaming spliced_cons->Co,evalArgs_plain->Cu,spliced_nil->IA,callWith_builtin->IK,call_function_entry->IX
open PySem.Builtin.Slice renaming slicePlaces->Cq,sliceAdjust->IG
open PySem.Builtin.SmallTypes renaming nextOf->Da
open PySem.F renaming slot_tuple_iterator_next->Db,slot_dict_keyiterator_next->Dc,slot_tuple_add->ID,entry_tuple_add->IE,args_tuple_add_2->IF,slot_dict_get->IP,slot_tuple_hash->SU,entry_dict_keyiterator_next->SX,args_dict_keyiterator_next_1->SY
open PySem.Builtin.Str renaming occurrences->Iz
open PySem.SeqAt.EqAt renaming int_int->II,str_str->IJ
open PySem.Builtin.List renaming listTooLong->IL
open PySem.Builtin renaming sorted->IY
open PyProof.Rows.F renaming plain_set_update_loop->IZ,entry_set_update_loop->SQ
open Classical renaming byContradiction->Jy
open PySem PySem.Spec PyProof.Rows
namespace L2
abbrev aF:=Sum Int Str
def se:aF->ai->Bool
 |.inl k,v=>Ch k v
 |.inr x,v=>Ci x v
def Sv(w:aI):aF->Int
 |.inl k=>hashInt k
 |.inr x=>hashStr w x
theorem mX:∀{k:aF}{v:ai},se k v=ah->(∃i t,k=Sum.inl i/\v=Value.int i t)\/(∃x t,k=Sum.inr x/\v=Value.str x t)
 |.inl i,v,h=>by obtain⟨t,e⟩:=Value.isInt_shape (k:=i) (v:=v) h;exact .inl ⟨i,t,rfl,e⟩
 |.inr x,v,h=>by obtain⟨t,e⟩:=Value.isStrOf_shape (x:=x) (v:=v) h;exact .inr ⟨x,t,rfl,e⟩
theorem KL(i:Int)(t:Tok):se (.inl i) (.int i t)=ah:=by simp[se,Ch]
theorem P5(x:Str)(t:Tok):se (.inr x) (.str x t)=ah:=by simp[se,Ci]
theorem Ru(a b:Int):decide ((Sum.inl a:aF)=Sum.inl b)=(a == b):=by
 by_cases e:a=b
 .subst e;simp
 .have h:¬(Sum.inl a:aF)=Sum.inl b:=λq=>e (Sum.inl.inj q);rw[decide_eq_false h];exact(beq_eq_false_iff_ne.mpr e).symm
theorem RO(a b:Str):decide ((Sum.inr a:aF)=Sum.inr b)=decide (a=b):=by
 by_cases e:a=b
 .subst e;simp
 .have h:¬(Sum.inr a:aF)=Sum.inr b:=λq=>e (Sum.inr.inj q);rw[decide_eq_false h,decide_eq_false e]
theorem LR(a:Int)(b:Str):decide ((Sum.inl a:aF)=Sum.inr b)=ak:=decide_eq_false (λq=>nomatch q)
theorem Ma(a:Str)(b:Int):decide ((Sum.inr a:aF)=Sum.inl b)=ak:=decide_eq_false (λq=>nomatch q)
def gF(c:aQ)(w:aI):PySem.KeyKind c w aF where
 is:=se
 hash:=Sv w
 inj:=λv a b l f=>by
  rcases mX l with⟨i,t,rfl,rfl⟩|⟨x,t,rfl,rfl⟩
  .rcases mX f with⟨j,u,rfl,e⟩|⟨y,u,rfl,e⟩
   .injection e with e1 _;rw[e1]
   .exact nomatch e
  .rcases mX f with⟨j,u,rfl,e⟩|⟨y,u,rfl,e⟩
   .exact nomatch e
   .injection e with e1 _;rw[e1]
 byValue:=λk v h=>by rcases mX h with⟨i,t,rfl,rfl⟩|⟨x,t,rfl,rfl⟩ <;> rfl
 pyHash:=λd h=>by
  rcases mX d with⟨i,t,rfl,rfl⟩|⟨x,t,rfl,rfl⟩
  .exact wpAny_pyHash_int h
  .exact wpAny_pyHash_str h
 eqBool:=λg d h=>by
  rcases mX g with⟨i,t,rfl,rfl⟩|⟨x,t,rfl,rfl⟩
  .rcases mX d with⟨j,u,rfl,rfl⟩|⟨y,u,rfl,rfl⟩
   .rw[Ru]at h;exact wpAny_eqBool_int h
   .rw[LR]at h;exact SeqAt.EqAt.int_str i t y u _ _ _ _ h
  .rcases mX d with⟨j,u,rfl,rfl⟩|⟨y,u,rfl,rfl⟩
   .rw[Ma]at h;exact SeqAt.EqAt.str_int x t j u _ _ _ _ h
   .rw[RO]at h;exact wpAny_eqBool_str h
 «strs»:=λk x t v h=>by
  rcases mX h with⟨i,u,rfl,e⟩|⟨y,u,rfl,e⟩
  .exact nomatch e
  .injection e with e1 _;subst e1;cases v <;> rfl
theorem Ke(a:aQ)(w:aI)(i:Int)(t:Tok):(gF a w).is (.inl i) (.int i t)=ah:=KL i t
theorem Mb(a:aQ)(w:aI)(x:Str)(t:Tok):(gF a w).is (.inr x) (.str x t)=ah:=P5 x t
inductive V where
 |non|bl (b:Bool)|int (i:Int)|str (x:Str)|byt (b:Array UInt8)|flt (b:UInt64)|ref (a:af)|ty (n:String)
 deriving DecidableEq
def RelV:V->ai->Prop
 |.non,u=>u=Value.none
 |.bl b,u=>u=Value.bool b
 |.int i,u=>∃t,u=Value.int i t
 |.str x,u=>∃t,u=Value.str x t
 |.byt b,u=>∃t,u=Value.bytes b t
 |.flt b,u=>∃t,u=Value.float b t
 |.ref a,u=>u=Value.ref a
 |.ty n,u=>u=Value.type n
abbrev bA:List V->List ai->Prop:=fi RelV
theorem bA.length{xs:List V}{a:List ai}(r:bA xs a):xs.length=a.length:=oE r
theorem bA.get:∀{a:List V}{b:List ai}{i:Nat}{x:V},bA a b->a[i]?=aa x->∃u,b[i]?=aa u/\RelV x u
 |_,_,_,_,.nil,e=>by simp at e
 |_,_,0,_,.cons r _,e=>by simp at e;subst e;exact⟨_,rfl,r⟩
 |_,_,i+1,x,.cons _ t,e=>by obtain⟨u,d,c⟩:=bA.get (i:=i) (x:=x) t (by simpa using e);exact⟨u,by simpa using d,c⟩
theorem bA.set{x:V}{u:ai}(r:RelV x u):∀{a:List V}{b:List ai} (i:Nat),bA a b->bA (a.set i x) (b.set i u)
 |_,_,_,.nil=>.nil
 |_,_,0,.cons _ t=>.cons r t
 |_,_,i+1,.cons q t=>.cons q (bA.set r i t)
theorem bA.append{b a:List V}{d c:List ai}(r:bA b d)(s:bA a c):bA (b++a) (d++c):=by
 unfold bA at r s ⊢
 induction r with
 |nil=>exact s
 |cons r _ g=>exact .cons r g
theorem bA.take:∀{a:List V}{b:List ai} (n:Nat),bA a b->bA (a.take n) (b.take n)
 |_,_,0,_=>.nil
 |_,_,_+1,.nil=>.nil
 |_,_,n+1,.cons r t=>.cons r (bA.take n t)
theorem bA.drop:∀{a:List V}{b:List ai} (n:Nat),bA a b->bA (a.drop n) (b.drop n)
 |_,_,0,r=>r
 |_,_,_+1,.nil=>.nil
 |_,_,n+1,.cons _ t=>bA.drop n t
def oC:Option V->Option ai->Prop
 |some v,aa u=>RelV v u
 |none,ae=>True
 |_,_=>False
def KV{a:Type}:List (a×V)->List (a×ai)->Prop:=fi λ(p:a×V) (q:a×ai)=>p.1=q.1/\RelV p.2 q.2
def kV:aF->V
 |.inl i=>.int i
 |.inr x=>.str x
inductive HO where
 |lst (xs:List V)
 |tup (xs:List V)
 |dK (kvs:List (aF×V))|dT (kvs:List (List aF×V))
 |set (S:Int->Bool) (n:Nat)
 |ins (C dx:af) (fs:List (Str×V))
 |own (x:af)
 |xd (fs:List (Str×V))
 |met (f x:af)
 |rng (lo hi:Int)
 |frz (o:Obj) (u:HO)
 |tbl (q:Str)
 |ext (φ:aB->Prop)
abbrev Hp:=af->Option HO
def upd(H:Hp)(a:af)(o:HO):Hp:=λb=>if b=a then aa o else H b
theorem upd_same{H:Hp}{a:af}{o:HO}:upd H a o a=aa o:=by unfold upd;rw[if_pos rfl]
theorem bf{H:Hp}{a b:af}{o:HO}(h:b≠a):upd H a o b=H b:=by unfold upd;rw[if_neg h]
theorem xo{H:Hp}{a b:af}{o u:HO}(h:H a=aa o)(h':H b=aa u)(d:o≠u):a≠b:=by intro e;subst e;rw[h]at h';exact d (cO h')
theorem n5{H:Hp}{a b:af}{o:HO}(h:H a=aa o)(c:H b=ae):a≠b:=by
 intro e;subst e;rw[h]at c;cases c
def Ir(h:aB)(a:af)(b:Array ai):Prop:=IsTup h a b/\∃o,h.get? a=aa o/\o.dict=ae
theorem Ir.new(h:aB)(its:Array ai):Ir (h.push {cls:=.type "tuple",data:=.seq its}) h.objs.size its:=⟨IsTup.new _ _,_,cW _ rfl,rfl⟩
section
variable(P:aQ)(w:aI)
def cc(H:Hp)(h:aB)(a:af):HO->Prop
 |.lst e=>e.length<=bg/\∃(d:List ai) (n:Nat),bA e d/\h.get? a=aa {cls:=.type "list",data:=.seq d.toArray n}
 |.tup e=>e.length<=bg/\∃d:List ai,bA e d/\Ir h a d.toArray
 |.dK b=>b.length<=bg/\(a == jL)=ak/\∃s,KV b s/\h.DictOf (gF P w) a s
 |.dT b=>b.length<=bg/\(a == jL)=ak/\∃e:List (List aF×af×ai),
   fi (λ(p:List aF×V) (q:List aF×af×ai)=>p.1=q.1/\H q.2.1=aa (.tup (p.1.map kV))/\RelV p.2 q.2.2) b e /\
   ∃o es ep,h.get? a=aa o/\o.ExactDict/\o.data=.dict es ep/\es.toList=e.map (entryOfKey (sR (gF P w)))/\(e.map (·.1)).Nodup
 |.set S n=>h.SetOf (intKind P w) a S n
 |.ins C i fs=>H i=aa (.own a)/\fs.length<=1000/\i≠a/\h.get? a=aa (PySem.W.instObj C i) /\
   ∃g,h.Ns1 i g/\(∀f,oC (fs.lookup f) (g f))/\PySem.Within g (fs.map (·.1))
 |.own _=>∃o,h.get? a=aa o
 |.xd fs=>∃g,h.Ns1 a g/\∀f,oC (fs.lookup f) (g f)
 |.rng A B=>∃t u v,h.get? a=aa {cls:=.type "range",data:=.fields #[.int A t,.int B u,.int 1 v]}
 |.frz o u=>h.get? a=aa o/\cc H h a u
 |.tbl q=>∃l:Array ai,h.get? a=aa {cls:=.none,data:=.fields l}/\TriplesOk l.toList/\∀m r,codeAmong m l.toList=aa r->∃c,r=.ref c/\H c=aa (.own a)/\h.CodeRec r q
 |.met f x=>h.get? a=aa (Iv (.ref f) (.ref x))
 |.ext j=>j h/\(∃o,h.get? a=aa o)/\∀z y:aB,j z->(∀o,z.get? a=aa o->y.get? a=aa o)->j y
def dw(H:Hp)(h:aB):Prop:=∀a o,H a=aa o->cc P w H h a o
end
section
variable{P:aQ}{w:aI}{H i:Hp}{h h':aB}{a:af}{o:HO}
theorem cc.lt(x:cc P w H h a o):a<h.objs.size:=by
 cases o with
 |lst c=>obtain⟨_,_,_,_,e⟩:=x;exact bG e
 |tup c=>obtain⟨_,_,_,p,_⟩:=x;exact p.lt
 |dK b=>obtain⟨_,_,_,_,o,_,_,e,_⟩:=x;exact bG e
 |dT b=>obtain⟨_,_,_,_,o,_,_,e,_⟩:=x;exact bG e
 |set S n=>obtain⟨o,_,_,_,e,_⟩:=x;exact bG e
 |ins C m fs=>obtain⟨_,_,_,e,_⟩:=x;exact bG e
 |own y=>obtain⟨_,e⟩:=x;exact bG e
 |xd fs=>obtain⟨_,⟨_,_,_,e,_⟩,_⟩:=x;exact bG e
 |rng j l=>obtain⟨_,_,_,e⟩:=x;exact bG e
 |frz g u=>obtain⟨e,_⟩:=x;exact bG e
 |tbl q=>obtain⟨_,e,_⟩:=x;exact bG e
 |met f y=>exact bG (show h.get? a=aa _ from x)
 |ext d=>obtain⟨_,⟨_,e⟩,_⟩:=x;exact bG e
theorem Paired.mapP{j e:Type}{F G:j->e->Prop}{d:List j}{c:List e}(r:fi F d c)(f:∀a b,F a b->G a b):fi G d c:=by
 induction r with
 |nil=>exact .nil
 |cons r _ g=>exact .cons (f _ _ r) g
theorem cc.stay(x:cc P w H h a o)(k:∀b u,(b=a\/H b=aa (.own a))->h.get? b=aa u->h'.get? b=aa u)(K:∀b,H b=aa (.own a)->i b=aa (.own a)) (X:∀b A,H b=aa (.tup A)->i b=aa (.tup A)):cc P w i h' a o:=by
 induction o with
 |lst A=>obtain⟨z,s,n,r,e⟩:=x;exact⟨z,s,n,r,k _ _ (.inl rfl) e⟩
 |tup A=>obtain⟨z,s,r,⟨j,e,c⟩,Q,B,M⟩:=x;exact⟨z,s,r,⟨j,k _ _ (.inl rfl) e,c⟩,Q,k _ _ (.inl rfl) B,M⟩
 |dK I=>obtain⟨z,y,D,r,j,l,m,e,c⟩:=x;exact⟨z,y,D,r,j,l,m,k _ _ (.inl rfl) e,c⟩
 |dT I=>obtain⟨z,y,A,r,j,l,m,e,c⟩:=x;exact⟨z,y,A,Paired.mapP r λp q z=>⟨z.1,X _ _ z.2.1,z.2.2⟩,j,l,m,k _ _ (.inl rfl) e,c⟩
 |set S n=>obtain⟨j,l,m,t,e,c⟩:=x;exact⟨j,l,m,t,k _ _ (.inl rfl) e,c⟩
 |ins C dx fs=>obtain⟨d,z,T,e,G,⟨F,l,m,B,c⟩,r⟩:=x;exact⟨K _ d,z,T,k _ _ (.inl rfl) e,G,⟨F,l,m,k _ _ (.inr d) B,c⟩,r⟩
 |own y=>obtain⟨j,e⟩:=x;exact⟨j,k _ _ (.inl rfl) e⟩
 |xd fs=>obtain⟨G,⟨F,l,m,e,c⟩,r⟩:=x;exact⟨G,⟨F,l,m,k _ _ (.inl rfl) e,c⟩,r⟩
 |rng lo hi=>obtain⟨t,u,v,e⟩:=x;exact⟨t,u,v,k _ _ (.inl rfl) e⟩
 |frz j u W=>obtain⟨e,q⟩:=x;exact⟨k _ _ (.inl rfl) e,W q⟩
 |tbl q=>
  obtain⟨O,e,t,g⟩:=x;refine⟨O,k a _ (.inl rfl) e,t,λE cv Y=>?_⟩;obtain⟨c,rfl,L,M,o,D,N,B,Z,r⟩:=g E cv Y;cases B;exact⟨c,rfl,K c L,c,o,D,N,rfl,k c _ (.inr L) Z,r⟩
 |met f y=>have e:h.get? a=aa (Iv (.ref f) (.ref y)):=x;show h'.get? a=aa (Iv (.ref f) (.ref y));exact k a _ (.inl rfl) e
 |ext φ=>obtain⟨p,⟨o,e⟩,J⟩:=x;exact⟨J _ _ p λo q=>k _ _ (.inl rfl) q,⟨o,k _ _ (.inl rfl) e⟩,J⟩
theorem dw.lt(x:dw P w H h)(e:H a=aa o):a<h.objs.size:=(x a o e).lt
theorem dw.fresh(x:dw P w H h)(e:h.objs.size<=a):H a=ae:=by
 cases q:H a with
 |none=>rfl
 |some u=>exact absurd (gK (x.lt q) e) (gu _)
theorem dw.kept(x:dw P w H h)(k:∀b u,h.get? b=aa u->h'.get? b=aa u):dw P w H h':=λa o e=>(x a o e).stay (λb u _ q=>k b u q) (λ_ q=>q) λ_ _ q=>q
theorem dw.laid(x:dw P w H h)(k:∀b u,h.get? b=aa u->h'.get? b=aa u)(f:h.objs.size<=a)(new:cc P w (upd H a o) h' a o):dw P w (upd H a o) h':=λb u e=>by
 have hn:=x.fresh f;by_cases d:b=a
 .subst d;rw[upd_same]at e;cases e;exact new
 .rw[bf d]at e;exact(x b u e).stay (λc v _ q=>k c v q) (λc q=>by rw[bf (n5 q hn)];exact q) λc g q=>by rw[bf (n5 q hn)];exact q
end
def Rd(H:Hp)(a:af)(u:HO):Prop:=H a=aa u\/∃o,H a=aa (.frz o u)
theorem Rd.ok{P:aQ}{w:aI}{H:Hp}{h:aB}{a:af}{u:HO}(r:Rd H a u)(x:dw P w H h):cc P w H h a u:=by
 rcases r with r|⟨o,r⟩
 .exact x a u r
 .obtain⟨_,q⟩:=x a _ r;exact q
def uL:Option HO->Prop
 |some (.lst _)=>True
 |some (.dK _)=>True
 |some (.dT _)=>True
 |some (.set _ _)=>True
 |some (.ins _ _ _)=>True
 |some (.ext _)=>True
 |_=>False
section
variable{P:aQ}{w:aI}{H:Hp}{h a:aB}{x e:af}{d:HO}
theorem dw.write(ok:dw P w H h)(j:uL (H x))(p:e=x\/H e=aa (.own x))(k:∀b u,b≠e->h.get? b=aa u->a.get? b=aa u)(s:∃u,a.get? e=aa u)(new:cc P w (upd H x d) a x d):dw P w (upd H x d) a:=λb u q=>by
 have f:∀c y,H c=aa (.own y)->c≠x:=λc y r z=>by subst z;rw[r]at j;exact j
 have g:∀c i,H c=aa (.tup i)->c≠x:=λc i r z=>by subst z;rw[r]at j;exact j
 by_cases n:b=x
 .subst n;rw[upd_same]at q;cases q;exact new
 .rw[bf n]at q;by_cases l:b=e
  .have o:H b=aa (.own x):=by
    rcases p with z|z
    .exact absurd (l.trans z) n
    .rw[l];exact z
   rw[q]at o;cases o;obtain⟨v,A⟩:=s;exact⟨v,by rw[l];exact A⟩
  .refine(ok b u q).stay (λc v m r=>k c v ?_ r) (λc r=>by rw[bf (f c b r)];exact r) λc i r=>by rw[bf (g c i r)];exact r
   rcases m with rfl|m
   .exact l
   .rintro rfl;rcases p with z|z
    .exact f c b m z
    .rw[m]at z;cases z;exact n rfl
end
structure Un(fs ex:List af)(H H':Hp)(h h':aB):Prop where
 keep:∀b o,h.get? b=aa o->H b=ae->b∉fs->b∉ex->h'.get? b=aa o
 slot:∀b o,h.get? b=aa o->H b=ae->b∈fs->b∉ex->∃sl,h'.get? b=aa {o with slots:=sl}
 free:∀b o,h.get? b=aa o->H b=ae->b∉ex->H' b=ae
 there:∀b o,h.get? b=aa o->b∉ex->∃o',h'.get? b=aa o'
 tups:∀b xs,H b=aa (.tup xs)->H' b=aa (.tup xs)
 frzs:∀b o u,H b=aa (.frz o u)->H' b=aa (.frz o u)
 tbls:∀b q,H b=aa (.tbl q)->H' b=aa (.tbl q)
section
variable{fs d ex f:List af}{H g j:Hp}{h c i h':aB}{a x e:af}{o:HO}
theorem Un.any(u:Un fs ex H g h c){b:af}{l:Obj}(q:h.get? b=aa l)(n:H b=ae)(m:b∉ex):∃r,c.get? b=aa {l with slots:=r}:=by
 by_cases p:b∈fs
 .exact u.slot b l q n p m
 .exact⟨l.slots,u.keep b l q n p m⟩
theorem Un.kept(k:∀b u,h.get? b=aa u->h'.get? b=aa u):Un fs ex H H h h' :=⟨λb l q _ _ _=>k b l q,λb l q _ _ _=>⟨l.slots,k b l q⟩,λ_ _ _ n _=>n,λb l q _=>⟨l,k b l q⟩,λ_ _ q=>q,λ_ _ _ q=>q,λ_ _ q=>q⟩
theorem Un.refl:Un fs ex H H h h:=Un.kept λ_ _ q=>q
theorem Un.laid(k:∀b u,h.get? b=aa u->h'.get? b=aa u)(m:h.objs.size<=a)(hn:H a=ae):Un fs ex H (upd H a o) h h' where
 keep:=λb u q _ _ _=>k b u q
 slot:=λb u q _ _ _=>⟨u.slots,k b u q⟩
 free:=λb u q n _=>by rw[bf (df (gK (bG q) m))];exact n
 there:=λb u q _=>⟨u,k b u q⟩
 tups:=λb l q=>by rw[bf (n5 q hn)];exact q
 frzs:=λb u l q=>by rw[bf (n5 q hn)];exact q
 tbls:=λb p q=>by rw[bf (n5 q hn)];exact q
theorem Un.write(l:uL (H x))(B:e=x\/H e=aa (.own x))(k:∀b u,b≠e->h.get? b=aa u->h'.get? b=aa u)(y:∃u,h'.get? e=aa u):Un fs ex H (upd H x o) h h':=by
 have s:∀b,H b=ae->b≠x:=λb n z=>by subst z;rw[n]at l;exact l
 have v:∀b,H b=ae->b≠e:=λb n z=>by
  subst z;rcases B with r|r
  .exact s b n r
  .rw[n]at r;cases r
 have m:∀b u,H b=aa u->¬uL (aa u)->b≠x:=λb u q A z=>by subst z;rw[q]at l;exact A l
 refine⟨λb u q n _ _=>k b u (v b n) q,λb u q n _ _=>⟨u.slots,k b u (v b n) q⟩,λb u q n _=>by rw[bf (s b n)];exact n,λb u q _=>?_,
  λb w q=>by rw[bf (m b _ q λz=>z)];exact q,λb u w q=>by rw[bf (m b _ q λz=>z)];exact q,λb C q=>by rw[bf (m b _ q λz=>z)];exact q⟩
 by_cases p:b=e
 .subst p;exact y
 .exact⟨u,k b u p q⟩
end
def yD(h:aB)(H:Hp):List af:=(cG h.objs.size).filter λa=>(H a).isSome
def mO(h:aB)(H:Hp):aB:=PySem.W.hideAll h (yD h H)
theorem JQ(h:aB)(H:Hp):(mO h H).objs.size=h.objs.size:=PySem.W.hideAll_size _ _
theorem NM{h:aB}{H:Hp}{b:af}{o:Obj}(e:h.get? b=aa o)(n:H b=ae):(mO h H).get? b=aa o :=PySem.W.hideAll_get _ e λa=>by have q:(H b).isSome=ah:=(kI.mp a).2;rw[n]at q;simp at q
theorem SL{h:aB}{H:Hp}{b:af}{o:Obj}(e:(mO h H).get? b=aa o):h.get? b=aa o/\H b=ae:=by
 have a:h.get? b=aa o:=PySem.W.of_hideAll (yD h H) e;refine⟨a,?_⟩;cases q:H b with
 |none=>rfl
 |some x=>
  have c:b∈yD h H:=kI.mpr ⟨kb.mpr (bG a),by simp[q]⟩;have z:(mO h H).get? b=ae:=PySem.W.hideAll_none (yD h H) c;rw[z]at e;cases e
def Pz(g h:aB)(L:af):List (af×Obj):=(cG h.objs.size).filterMap λa=>if a=L\/(g.get? a).isSome=ah then ae else(h.get? a).map λo=>(a,o)
def rest(g h:aB)(L d:af):List (af×Obj):=(Pz g h L).filter λp=>decide (p.1≠d)
structure Mod(K:ay)(mg:Str->Option ai)(base:aB):Prop where
 kin:K.In base
 glob:base.Ns cZ mg
 blt:∃mb,base.Ns qi mb/\∀x:Str,x≠"__name__"->mb x=fF x
 nolimit:base.NoLimit
 bm:∃bm ob,mg "__builtins__"=aa (.ref bm)/\bm≠qi/\base.get? bm=aa ob/\ob.cls=.type "module"/\ob.dict=aa qi/\ob.data=.plain
set_option genInjectivity false in
structure Cx where
 prog:aQ
 w:aI
 K:ay
 mg:Str->Option ai
 base:aB
 A:aX
 N:List Str
 s₀:ao
 H₀:Hp
 env:Env
 outer:List Env
 stack:List Env
 ex:List af
 fn:Str->Bool
 calm:Bool
 pn:List (af×Obj)
 xe:ai->ao->Prop
def gi(l:List Env):List af:=l.filterMap (·.frame)
abbrev Cx.fs(X:Cx):List af:=gi X.outer
def eC(a:eF)(x:Str):Prop:=a.names.lookup x=aa .local\/a.names.lookup x=aa .cell\/a.names.lookup x=aa .free
def Loc(a:eF)(x:Str):Prop:=a.names.lookup x=aa .local\/a.names.lookup x=aa .cell
def Look(a:Env)(h:aB)(m:Str->Option ai)(x:Str)(u:ai):Prop :=(a.kindOf x=aa .local/\m x=aa u)\/((a.kindOf x=aa .cell\/a.kindOf x=aa .free)/\∃c,a.cells.lookup x=aa c/\h.IsCell c (aa u))
def B3:List Str:=["road"]
def xi(K:ay)(H:Hp):Prop:=∀x∈B3,∀c P,qj K x=aa (c,P)->H P=aa (.tbl (x++".<locals>.<lambda>"))
set_option genInjectivity false in
structure Cx.Ok(X:Cx):Prop where
 mod:Mod X.K X.mg X.base
 kind:X.env.scope.kind=.function
 glob:X.env.globals=cZ
 blt:X.env.builtins=qi
 above:X.s₀.heap.objs.size<=X.env.locals
 inj:∀x y c,X.env.cells.lookup x=aa c->X.env.cells.lookup y=aa c->x=y
 has:∀x,(X.env.kindOf x=aa .cell\/X.env.kindOf x=aa .free)->∃c,X.env.cells.lookup x=aa c
 cab:∀x c,X.fn x=ah->X.env.cells.lookup x=aa c->X.s₀.heap.objs.size<=c
 hd:X.calm=ah->X.A.handled=ae
 frames:X.A.frames=aa X.stack
 stk:X.stack=X.outer\/(X.stack=X.env::X.outer/\X.env.frame=aa X.env.locals)
 exf:∀b∈X.ex,b≠X.env.locals/\∀x c,X.env.cells.lookup x=aa c->c≠b
 bs:∀b o,X.base.get? b=aa o->X.s₀.heap.get? b=aa o/\X.H₀ b=ae
 bsz:X.base.objs.size<=X.s₀.heap.objs.size
 noex:∀b o,X.base.get? b=aa o->b∉X.ex
 exfs:∀b∈X.ex,b∉X.fs
 funs:X.s₀.heap.FunFrames X.base X.outer
 frf:∀b∈X.fs,X.H₀ b=ae
 tab:xi X.K X.H₀
structure Inv(X:Cx)(ag:List (af×Obj))(σ:List (Option V))(H:Hp)(s:ao):Prop where
 ok:X.Ok
 os:s.os=X.s₀.os
 bare:m8 s.gens
 base:Un X.fs X.ex X.H₀ H X.s₀.heap s.heap
 loc:∃m,s.heap.Ns X.env.locals m/\∀(i:Nat) (x:Str) (v:V),X.N[i]?=aa x->σ[i]?=aa (aa v)->eC X.env.scope x->∃u,RelV v u/\Look X.env s.heap m x u
 cell:∀x c,X.env.cells.lookup x=aa c->∃v,s.heap.IsCell c v
 free:H X.env.locals=ae
 freeC:∀x c,X.env.cells.lookup x=aa c->H c=ae
 pin:∀p∈X.pn++ag,s.heap.get? p.1=aa p.2/\H p.1=ae/\p.1≠X.env.locals/\p.1∉X.fs/\∀v,p.2.data≠.cell v
 hok:dw X.prog X.w H s.heap
 len:σ.length=X.N.length
section
variable{X:Cx}{f:List (af×Obj)}{g:List (Option V)}{H w:Hp}{s:ao}{h':aB}
theorem Cx.Ok.nofr(ok:X.Ok){b:af}{o:Obj}(e:X.base.get? b=aa o):b∉X.fs:=λa=>by
 have:=(ok.funs.mem a).1;rw[e]at this;cases this
theorem Inv.bs(I:Inv X f g H s):∀b o,X.base.get? b=aa o->s.heap.get? b=aa o/\H b=ae:=λb o e=>⟨I.base.keep b o (I.ok.bs b o e).1 (I.ok.bs b o e).2 (I.ok.nofr e) (I.ok.noex b o e),I.base.free b o (I.ok.bs b o e).1 (I.ok.bs b o e).2 (I.ok.noex b o e)⟩
theorem Inv.bk(I:Inv X f g H s):∀b o,X.base.get? b=aa o->s.heap.get? b=aa o:=λb o e=>(I.bs b o e).1
theorem Inv.mod(I:Inv X f g H s):Mod X.K X.mg X.base:=I.ok.mod
theorem Inv.kIn(I:Inv X f g H s):X.K.In s.heap:=I.ok.mod.kin.keeps I.bk
theorem Inv.lt(I:Inv X f g H s):X.env.locals<s.heap.objs.size:=let ⟨_,hn,_⟩:=I.loc;hn.lt
theorem Inv.sz(I:Inv X f g H s):X.s₀.heap.objs.size<=s.heap.objs.size:=c0 I.ok.above (kJ I.lt)
theorem Inv.nofs(I:Inv X f g H s){a:af}(h:s.heap.objs.size<=a):a∉X.fs:=λc=>by obtain⟨_,o,b,_⟩:=I.ok.funs.mem c;exact absurd (gK (bG b) (c0 I.sz h)) (gu _)
theorem Inv.cne(I:Inv X f g H s):∀x c,X.env.cells.lookup x=aa c->c≠X.env.locals:=λx c e z=>by
 obtain⟨v,o,a,b⟩:=I.cell x c e;obtain⟨m,⟨i,j,l,h,d,_⟩,_⟩:=I.loc;rw[z,h]at a;cases a;rw[d]at b;cases b
theorem Inv.tab(I:Inv X f g H s):xi X.K H:=λx a c P h=>I.base.tbls P _ (I.ok.tab x a c P h)
theorem Inv.funs(I:Inv X f g H s):s.heap.FunFrames X.base X.outer:=by
 have all:∀(l:List Env),(∀b∈gi l,b∈X.fs)->X.s₀.heap.FunFrames X.base l->s.heap.FunFrames X.base l:=by
  intro l
  induction l with
  |nil=>intro _ _;trivial
  |cons v r i=>intro h p;obtain⟨q,⟨L,o,a,n,m,u⟩,j⟩:=p;have d:L∈X.fs:=h L (by unfold gi;rw[mf,a];exact f8);obtain⟨x,e⟩:=I.base.slot L o m (I.ok.frf L d) d λz=>I.ok.exfs L z d;exact⟨q,⟨L,_,a,n,e,u⟩,i (λb c=>h b (by unfold gi;rw[mf,a];exact fj _ c)) j⟩
 exact all X.outer (λ_ c=>c) I.ok.funs
theorem Inv.stack(I:Inv X f g H s):s.heap.FunFrames X.base X.stack:=by
 rcases I.ok.stk with e|⟨e,b⟩
 .rw[e];exact I.funs
 .rw[e];obtain⟨m,a,_⟩:=I.loc;refine .cons (by rw[I.ok.kind];decide) b a ?_ I.funs;exact Iw (c0 I.ok.bsz I.ok.above)
theorem Inv.stkSub(I:Inv X f g H s):∀b∈gi X.stack,b∈X.env.locals::X.fs:=λb a=>by
 rcases I.ok.stk with e|⟨e,c⟩
 .rw[e]at a;exact fj _ a
 .rw[e]at a;unfold gi at a;rw[mf,c]at a;exact a
theorem Inv.stkFree(I:Inv X f g H s):∀b∈gi X.stack,H b=ae:=λb a=>by
 rcases br.mp (I.stkSub b a)with e|a
 .rw[e];exact I.free
 .obtain⟨_,o,c,_⟩:=I.ok.funs.mem a;exact I.base.free b o c (I.ok.frf b a) λz=>I.ok.exfs b z a
theorem Inv.step{g':Array GenState}{t':Nat}{d':Drawn}{ch:List af}(I:Inv X f g H s)(M:∀b∈ch,(b∈X.ex\/X.s₀.heap.objs.size<=b)/\b≠X.env.locals/\(∀x c,X.env.cells.lookup x=aa c->c≠b)/\∀p∈X.pn++f,p.1≠b)(keep:∀b o,b≠X.env.locals->b∉X.fs->b∉ch->s.heap.get? b=aa o->H b=ae->h'.get? b=aa o)(B:∀b o,b≠X.env.locals->b∈X.fs->b∉ch->s.heap.get? b=aa o->H b=ae->∃P,h'.get? b=aa {o with slots:=P}) (free:∀b o,b∉ch->s.heap.get? b=aa o->H b=ae->w b=ae)(C:∀b o,b∉ch->s.heap.get? b=aa o->∃K,h'.get? b=aa K)(G:∀b A,H b=aa (.tup A)->w b=aa (.tup A)) (N:∀b o u,H b=aa (.frz o u)->w b=aa (.frz o u)) (J:∀b q,H b=aa (.tbl q)->w b=aa (.tbl q))(ns:∀m,s.heap.Ns X.env.locals m->h'.Ns X.env.locals m) (Q:dw X.prog X.w w h') (hg:m8 g'):Inv X f g w {s with heap:=h',gens:=g',drawn:=d',toks:=t'}:=by
 have L:∀b o,X.s₀.heap.get? b=aa o->b≠X.env.locals:=λb o e=>df (gK (bG e) I.ok.above);have y:∀b o,X.s₀.heap.get? b=aa o->b∉X.ex->b∉ch:=λb o e a D=>by
  rcases(M b D).1 with z|z
  .exact a z
  .exact absurd (gK (bG e) z) (gu _)
 have j:∀x c,X.env.cells.lookup x=aa c->∀v,s.heap.IsCell c v->h'.IsCell c v:=λx c e v ⟨o,F,S⟩=>by
  have h:c∉ch:=λz=>(M c z).2.2.1 x c e rfl;by_cases hc:c∈X.fs
  .obtain⟨P,q⟩:=B c o (I.cne x c e) hc h F (I.freeC x c e);exact⟨_,q,S⟩
  .exact⟨o,keep c o (I.cne x c e) hc h F (I.freeC x c e),S⟩
 refine⟨I.ok,I.os,hg,⟨λb o e n D a=>?_,λb o e n D a=>?_,λb o e n a=>?_,λb o e a=>?_,λb A e=>G b A (I.base.tups b A e),λb o A e=>N b o A (I.base.frzs b o A e),λb ps e=>?_⟩,?_,λx c e=>?_,?_,λx c e=>?_,λp Z=>?_,Q,I.len⟩
 .exact keep b o (L b o e) D (y b o e a) (I.base.keep b o e n D a) (I.base.free b o e n a)
 .obtain⟨P,E⟩:=I.base.slot b o e n D a;obtain⟨O,T⟩:=B b _ (L b o e) D (y b o e a) E (I.base.free b o e n a);exact⟨O,T⟩
 .obtain⟨K,E⟩:=I.base.there b o e a;exact free b K (y b o e a) E (I.base.free b o e n a)
 .obtain⟨K,E⟩:=I.base.there b o e a;exact C b K (y b o e a) E
 .exact J b _ (I.base.tbls b ps e)
 .obtain⟨m,hn,hl⟩:=I.loc;refine⟨m,ns m hn,λi x v E T e3=>?_⟩;obtain⟨u,r,l⟩:=hl i x v E T e3;refine⟨u,r,?_⟩;rcases l with l|⟨k,c,e,z⟩
  .exact .inl l
  .exact .inr ⟨k,c,e,j x c e _ z⟩
 .obtain⟨v,z⟩:=I.cell x c e;exact⟨v,j x c e v z⟩
 .obtain⟨m,⟨o,_,_,F,_⟩,_⟩:=I.loc;exact free _ o (λz=>(M _ z).2.1 rfl) F I.free
 .obtain⟨v,o,F,S⟩:=I.cell x c e;exact free c o (λz=>(M c z).2.2.1 x c e rfl) F (I.freeC x c e)
 .obtain⟨e,n,Y,W,d⟩:=I.pin p Z;have h:p.1∉ch:=λz=>(M p.1 z).2.2.2 p Z rfl;exact⟨keep p.1 p.2 Y W h e n,free p.1 p.2 h e n,Y,W,d⟩
theorem Inv.un{t':Nat}(I:Inv X f g H s)(u:Un X.fs [] H w s.heap h')(a:dw X.prog X.w w h'):Inv X f g w {s with heap:=h',toks:=t'}:=by
 obtain⟨m,⟨o,A,B,i,r⟩,_⟩:=id I.loc;obtain⟨v,q⟩:=u.any i I.free (by simp);exact I.step (g':=s.gens) (d':=s.drawn) (ch:=[]) (λ_ z=>nomatch z) (λb o _ c _ e n=>u.keep b o e n c (by simp)) (λb o _ c _ e n=>u.slot b o e n c (by simp)) (λb o _ e n=>u.free b o e n (by simp)) (λb o _ e=>u.there b o e (by simp)) u.tups u.frzs u.tbls (λy p=>by
  obtain⟨x,d,h,j,l⟩:=p;rw[i]at j;cases j;exact⟨_,d,h,q,l⟩) a I.bare
theorem Inv.call{g':Array GenState}{t':Nat}{d':Drawn}{ch:List af}(I:Inv X f g H s)(u:Un (gi X.stack) ch H w s.heap h')(d:dw X.prog X.w w h')(B:m8 g')(l:∀b∈ch,(b∈X.ex\/X.s₀.heap.objs.size<=b)/\b≠X.env.locals/\(∀x c,X.env.cells.lookup x=aa c->c≠b)/\∀p∈X.pn++f,p.1≠b):Inv X f g w {s with heap:=h',gens:=g',drawn:=d',toks:=t'}:=by
 obtain⟨m,⟨o,G,J,q,r⟩,_⟩:=id I.loc;obtain⟨D,h⟩:=u.any q I.free λz=>(l _ z).2.1 rfl;exact I.step (ch:=ch) l (λb o h C a e n=>u.keep b o e n (λz=>(br.mp (I.stkSub b z)).elim h C) a) (λb o _ _ a e n=>u.any e n a) (λb o a e n=>u.free b o e n a) (λb o a e=>u.there b o e a) u.tups u.frzs u.tbls (λF A=>by
  obtain⟨E,i,j,v,y⟩:=A;rw[q]at v;cases v;exact⟨_,i,j,h,y⟩) d B
theorem Inv.turned{t':Nat}{it:af}(I:Inv X f g H s)(k:∀b o,b≠it->s.heap.get? b=aa o->h'.get? b=aa o)(j:H it=ae)(h:it≠X.env.locals)(C:it∈X.ex\/X.s₀.heap.objs.size<=it) (B:∀x c,X.env.cells.lookup x=aa c->c≠it) (A:∀p∈X.pn++f,p.1≠it):Inv X f g H {s with heap:=h',toks:=t'}:=by
 have d:∀b u,H b=aa u->b≠it:=λb u e z=>by rw[z,j]at e;cases e
 refine I.step (g':=s.gens) (d':=s.drawn) (ch:=[it]) (λb y=>?_) (λb o _ _ a e _=>k b o (λz=>a (by simp[z])) e) (λb o _ _ a e _=>⟨o.slots,k b o (λz=>a (by simp[z])) e⟩) (λ_ _ _ _ n=>n)
  (λb o a e=>⟨o,k b o (λz=>a (by simp[z])) e⟩) (λ_ _ e=>e) (λ_ _ _ e=>e) (λ_ _ e=>e) (λm l=>?_) (λb u e=>?_) I.bare
 .have e:b=it:=by simpa using y
  subst e;exact⟨C,h,B,A⟩
 .obtain⟨o,D,E,i,r⟩:=l;exact⟨o,D,E,k _ o (dz h) i,r⟩
 .refine(I.hok b u e).stay (λc v a q=>k c v ?_ q) (λ_ q=>q) λ_ _ q=>q;rcases a with z|z
  .rw[z];exact d b u e
  .exact d c _ z
theorem Inv.tok(I:Inv X f g H s)(t:Nat):Inv X f g H {s with toks:=t}:=I.un (h':=s.heap) (t':=t) Un.refl I.hok
theorem Inv.kept{t':Nat}(I:Inv X f g H s)(k:∀b u,s.heap.get? b=aa u->h'.get? b=aa u):Inv X f g H {s with heap:=h',toks:=t'}:=I.un (Un.kept k) (I.hok.kept k)
theorem Inv.laid{a:af}{o:HO}{t':Nat}(I:Inv X f g H s)(k:∀b u,s.heap.get? b=aa u->h'.get? b=aa u)(c:s.heap.objs.size<=a)(new:cc X.prog X.w (upd H a o) h' a o):Inv X f g (upd H a o) {s with heap:=h',toks:=t'}:=I.un (Un.laid k c (I.hok.fresh c)) (I.hok.laid k c new)
theorem Inv.write{x e:af}{o:HO}{h:Nat}(I:Inv X f g H s)(c:uL (H x))(d:e=x\/H e=aa (.own x))(k:∀b u,b≠e->s.heap.get? b=aa u->h'.get? b=aa u)(a:∃u,h'.get? e=aa u)(new:cc X.prog X.w (upd H x o) h' x o):Inv X f g (upd H x o) {s with heap:=h',toks:=h}:=I.un (Un.write c d k a) (I.hok.write c d k a new)
theorem Inv.pins_of{a:List (af×Obj)}(I:Inv X f g H s)(h:∀p∈a,s.heap.get? p.1=aa p.2/\H p.1=ae/\p.1≠X.env.locals/\p.1∉X.fs/\∀v,p.2.data≠.cell v):Inv X a g H s :=⟨I.ok,I.os,I.bare,I.base,I.loc,I.cell,I.free,I.freeC,λp b=>(gv.mp b).elim (λz=>I.pin p (qk _ z)) (h p),I.hok,I.len⟩
theorem Et{N:List Str}(c:N.Nodup){i j:Nat}{x:Str}(a:N[i]?=aa x)(b:N[j]?=aa x):i=j:=by obtain⟨l,e⟩:=cA.mp a;obtain⟨h,d⟩:=cA.mp b;exact(List.getElem_inj c).mp (e.trans d.symm)
theorem G1{M:Model}{A:aX}{E:ai->ao->Prop}{i:Nat}{x:Str}{v:V}{u:ai}{Q:Unit->ao->Prop}(I:Inv X f g H s)(hN:X.N.Nodup)(T:X.N[i]?=aa x)(F:Loc X.env.scope x)(r:RelV v u)(h:∀s',Inv X f (g.set i (aa v)) H s'->(∃a,kK a s.heap s'.heap/\(a=X.env.locals\/X.env.cells.lookup x=aa a))->Q () s') (hf:X.fn x=ah\/X.env.scope.names.lookup x=aa .local:=by first|exact .inl rfl|exact .inr rfl|assumption):aq M A (storeName X.env x u) Q E s:=by
 obtain⟨m,hn,hl⟩:=id I.loc;have Dm:(X.env.scope.kind == .class||(X.env.scope.kind == .module&&X.env.locals != X.env.globals))=ak:=by rw[I.ok.kind];rfl
 have K:i<g.length:=by rw[I.len];exact(cA.mp T).1
 have cne:=I.cne;have B:∀{a:af}{h':aB},(∃o,s.heap.get? a=aa o/\H a=ae)->kK a s.heap h'->dw X.prog X.w H h':=λ{a h'} ha l b ob e=>by
  obtain⟨_,_,wj⟩:=ha;refine(I.hok b ob e).stay (λc W D q=>(l.2 c ?_).trans q) (λ_ q=>q) λ_ _ q=>q;rintro rfl;rcases D with rfl|D
  .rw[wj]at e;cases e
  .rw[wj]at D;cases D
 rcases F with J|J
 .refine wpAny_storeName_local J hn (λh' hn' l=>?_) Dm;obtain⟨oL,_,_,kl,_⟩:=id hn;refine h _ ⟨I.ok,I.os,I.bare,⟨λb o e n O F=>?_,λb o e n O F=>?_,I.base.free,λb o e F=>?_,I.base.tups,I.base.frzs,I.base.tbls⟩,⟨_,hn',λj y v' C G e3=>?_⟩,λy c e=>?_,I.free,I.freeC,λp hp=>?_,B ⟨oL,kl,I.free⟩ l,by simpa using I.len⟩ ⟨_,l,.inl rfl⟩
  .exact(l.2 b (df (gK (bG e) I.ok.above))).trans (I.base.keep b o e n O F)
  .obtain⟨sl,C⟩:=I.base.slot b o e n O F;exact⟨sl,(l.2 b (df (gK (bG e) I.ok.above))).trans C⟩
  .obtain⟨o',C⟩:=I.base.there b o e F;exact⟨o',(l.2 b (df (gK (bG e) I.ok.above))).trans C⟩
  .by_cases L:j=i
   .subst L;rw[T]at C;cases C;rw[dY K]at G;cases G;exact⟨u,r,.inl ⟨J,by simp⟩⟩
   .rw[cS (dz L)]at G;obtain⟨u',r',q⟩:=hl j y v' C G e3;refine⟨u',r',?_⟩;rcases q with⟨k,e⟩|⟨k,c,e,z⟩
    .refine .inl ⟨k,?_⟩;have:y≠x:=λe=>L (Et hN C (e ▸ T));simp[this,e]
    .exact .inr ⟨k,c,e,z.sameBut l (cne y c e)⟩
  .obtain⟨W,z⟩:=I.cell y c e;exact⟨W,z.sameBut l (cne y c e)⟩
  .obtain⟨e,n,Y,nf,d⟩:=I.pin p hp;exact⟨(l.2 p.1 Y).trans e,n,Y,nf,d⟩
 .have N:X.fn x=ah:=by
   rcases hf with z|z
   .exact z
   .rw[z]at J;cases J
  obtain⟨c,D⟩:=I.ok.has x (.inl J);obtain⟨W,z⟩:=I.cell x c D;refine wpAny_storeName_cell I.ok.kind J D z (λh' ie l=>?_);obtain⟨oc,S,P⟩:=id z;refine h {s with heap:=h'} ⟨I.ok,I.os,I.bare,⟨λb o e n O F=>?_,λb o e n O F=>?_,I.base.free,λb o e F=>?_,I.base.tups,I.base.frzs,I.base.tbls⟩,⟨m,hn.sameBut l (dz (cne x c D)),λj y v' C G e3=>?_⟩,λy Z e=>?_,I.free,I.freeC,λp hp=>?_,B ⟨oc,S,I.freeC x c D⟩ l,by simpa using I.len⟩ ⟨c,l,.inr D⟩
  .exact(l.2 b (df (gK (bG e) (I.ok.cab x c N D)))).trans (I.base.keep b o e n O F)
  .obtain⟨sl,C⟩:=I.base.slot b o e n O F;exact⟨sl,(l.2 b (df (gK (bG e) (I.ok.cab x c N D)))).trans C⟩
  .obtain⟨o',C⟩:=I.base.there b o e F;exact⟨o',(l.2 b (df (gK (bG e) (I.ok.cab x c N D)))).trans C⟩
  .by_cases L:j=i
   .subst L;rw[T]at C;cases C;rw[dY K]at G;cases G;exact⟨u,r,.inr ⟨.inl J,c,D,ie⟩⟩
   .rw[cS (dz L)]at G;obtain⟨u',r',q⟩:=hl j y v' C G e3;refine⟨u',r',?_⟩;rcases q with q|⟨k,Z,e,z'⟩
    .exact .inl q
    .refine .inr ⟨k,Z,e,z'.sameBut l ?_⟩;rintro rfl;exact L (Et hN C (I.ok.inj _ _ _ e D ▸ T))
  .by_cases nN:Z=c
   .subst nN;exact⟨_,ie⟩
   .obtain⟨w2,z2⟩:=I.cell y Z e;exact⟨w2,z2.sameBut l nN⟩
  .obtain⟨e,n,Y,nf,d⟩:=I.pin p hp;refine⟨(l.2 p.1 ?_).trans e,n,Y,nf,d⟩;intro q;rw[q,S]at e;have q':oc=p.2:=cO e;exact d W (by rw[<-q'];exact P)
theorem GI{M:Model}{A:aX}{E:ai->ao->Prop}{i:Nat}{x:Str}{v:V}{u:ai}{Q:Unit->ao->Prop}(I:Inv X f g H s)(e:X.N.Nodup)(c:X.N[i]?=aa x)(b:Loc X.env.scope x)(r:RelV v u)(h:∀a,Inv X f (g.set i (aa v)) H a->Q () a) (d:X.fn x=ah\/X.env.scope.names.lookup x=aa .local:=by first|exact .inl rfl|exact .inr rfl|assumption):aq M A (storeName X.env x u) Q E s :=G1 I e c b r (λa j _=>h a j) d
theorem Inv.call'{s':ao}{ch:List af}(I:Inv X f g H s)(i:s'.os=s.os)(u:Un (gi X.stack) ch H w s.heap s'.heap)(a:dw X.prog X.w w s'.heap)(j:m8 s'.gens)(h:∀b∈ch,(b∈X.ex\/X.s₀.heap.objs.size<=b)/\b≠X.env.locals/\(∀x c,X.env.cells.lookup x=aa c->c≠b)/\∀p∈X.pn++f,p.1≠b):Inv X f g w s':=by obtain⟨h',g',d',t',d⟩:=s';have e:d=s.os:=i;subst e;exact I.call (g':=g') (t':=t') (d':=d') u a j h
end
abbrev XK:=ai->Option af->Hp->Prop
abbrev St:=List (Option V)
abbrev VK:=V->Hp->Prop
abbrev TE:=St->Hp->VK->Prop
abbrev TT:=St->Hp->(Bool->Hp->Prop)->Prop
abbrev TA:=St->Hp->(List V->Hp->Prop)->Prop
structure j5 where
 nx:St->Hp->Prop
 rt:VK
 bk:St->Hp->Prop:=λ_ _=>False
 ct:St->Hp->Prop:=λ_ _=>False
abbrev TS:=j5->St->Hp->Prop
def EP(X:Cx)(d:List (af×Obj))(b:St)(Q:VK)(u:ai)(c:ao):Prop:=∃v a,Inv X d b a c/\RelV v u/\Q v a
def TP(X:Cx)(e:List (af×Obj))(c:St)(Q:Bool->Hp->Prop)(b:Bool)(d:ao):Prop:=∃a,Inv X e c a d/\Q b a
def AP(X:Cx)(f:List (af×Obj))(c:St)(Q:List V->Hp->Prop)(d:List ai)(e:ao):Prop:=∃a b,Inv X f c b e/\bA a d/\Q a b
def SP(X:Cx)(c:List (af×Obj))(D:j5)(f:Flow)(s':ao):Prop :=
 match f with
 |.next=>∃a b,Inv X c a b s'/\D.nx a b
 |.brk=>∃a b,Inv X c a b s'/\D.bk a b
 |.cont=>∃a b,Inv X c a b s'/\D.ct a b
 |.ret u=>∃v a b,Inv X c a b s'/\RelV v u/\D.rt v b
def PE(X:Cx)(e:aA)(t:TE):Prop :=
 ∀(b:List (af×Obj)) (s:ao) (a:St) (H:Hp) (Q:VK),Inv X b a H s->t a H Q->aq (au X.prog X.w) X.A (bh e X.env) (EP X b a Q) X.xe s
def PT(X:Cx)(e:aA)(t:TT):Prop :=
 ∀(b:List (af×Obj)) (s:ao) (a:St) (H:Hp) (Q:Bool->Hp->Prop),Inv X b a H s->t a H Q->aq (au X.prog X.w) X.A (m_ e X.env (bh e X.env)) (TP X b a Q) X.xe s
def PW(X:Cx)(e:aA)(t:TT):Prop :=
 ∀(c:Sem ai) (b:List (af×Obj)) (s:ao) (a:St) (H:Hp) (Q:Bool->Hp->Prop),Inv X b a H s->t a H Q->aq (au X.prog X.w) X.A (m_ e X.env c) (TP X b a Q) X.xe s
def PA(X:Cx)(d:List aA)(t:TA):Prop :=
 ∀(b:Pos) (c:List (af×Obj)) (s:ao) (a:St) (H:Hp) (Q:List V->Hp->Prop),Inv X c a H s->t a H Q->aq (au X.prog X.w) X.A (spliced (ef b (a9 d X.env))) (AP X c a Q) X.xe s
def PS(X:Cx)(c:bn)(t:TS):Prop :=
 ∀(b:List (af×Obj)) (s:ao) (a:St) (H:Hp) (D:j5),Inv X b a H s->t D a H->aq (au X.prog X.w) X.A (exec c X.env) (SP X b D) X.xe s
def kG(X:Cx)(c:List bn)(t:TS):Prop :=
 ∀(b:List (af×Obj)) (s:ao) (a:St) (H:Hp) (D:j5),Inv X b a H s->t D a H->aq (au X.prog X.w) X.A (execs c X.env) (SP X b D) X.xe s
theorem aP{b:Type}{t:Sem b}{Q c:b->ao->Prop}{M:Model}{A:aX}{E:ai->ao->Prop}{s:ao}(h:aq M A t Q E s)(d:∀a s,Q a s->c a s):aq M A t c E s:=f9 h d λ_ _ x=>x
section
variable{X:Cx}
def Hu(i:Nat):TE:=λa H Q=>∃v,a[i]?=aa (aa v)/\Q v H
def tC(v:V):TE:=λ_ H Q=>Q v H
theorem fA{i:Nat}{x:Str}{f:Pos}(p:X.N[i]?=aa x)(j:eC X.env.scope x)(d:(x==("__debug__":Str))=ak:=by decide)(q:(x==("__classdict__":Str))=ak:=by decide):PE X (.Name x f) (Hu i):=by
 intro w s g H Q I h;obtain⟨v,e,h⟩:=h;obtain⟨m,n,o⟩:=I.loc;obtain⟨u,r,l⟩:=o i x v p e j;have b:EP X w g Q u s:=⟨v,H,I,r,h⟩
 rcases l with⟨a,hm⟩|⟨a,c,hc,zM⟩
 .exact wpAny_Name (wpAny_loadName_local I.ok.kind a n hm b) d
 .rcases a with a|a
  .exact wpAny_Name (wpAny_loadName_cell I.ok.kind a hc zM b) d
  .exact wpAny_Name (wpAny_loadName_free I.ok.kind a hc zM b q) d
theorem RS{i j f}:PE X (.Constant (.int i) j f) (tC (.int i)):=λ_ _ _ H _ I h=>wpAny_Constant_int ⟨.int i,H,I.tok _,⟨_,rfl⟩,h⟩
theorem O3{b j f}:PE X (.Constant (.bool b) j f) (tC (.bl b)):=λ_ _ _ H _ I h=>Constant_bool ⟨.bl b,H,I,rfl,h⟩
theorem Pj{j f}:PE X (.Constant .none j f) (tC .non):=λ_ _ _ H _ I h=>Constant_none ⟨.non,H,I,rfl,h⟩
theorem N1{x j f}:PE X (.Constant (.str x) j f) (tC (.str x)):=λ_ _ _ H _ I h=>Calls.Constant_str ⟨.str x,H,I.tok _,⟨_,rfl⟩,h⟩
def Gl(X:Cx)(x:Str):Prop:=X.env.kindOf x=aa .globalImplicit
theorem B9{E:ai->ao->Prop}{e:List (af×Obj)}{s:ao}{a:St}{H:Hp}{x:Str}{u:ai}{f:Pos}{Q:ai->ao->Prop}(I:Inv X e a H s)(c:Gl X x)(b:X.mg x=aa u)(h:Q u s)(d:(x==("__debug__":Str))=ak:=by decide):aq (au X.prog X.w) X.A (bh (.Name x f) X.env) Q E s :=Calls.Name_function_global I.ok.kind c (Calls.loadGlobal_global (by rw[I.ok.glob];exact I.mod.glob.keeps I.bk) b h) d
theorem vx{E:ai->ao->Prop}{l:List (af×Obj)}{s:ao}{a:St}{H:Hp}{x:Str}{u:ai}{f:Pos}{Q:ai->ao->Prop}(I:Inv X l a H s)(e:Gl X x)(d:X.mg x=ae)(b:fF x=aa u)(h:Q u s)(c:x≠"__name__":=by decide) (g:(x==("__debug__":Str))=ak:=by decide):aq (au X.prog X.w) X.A (bh (.Name x f) X.env) Q E s:=by obtain⟨m,j,i⟩:=I.mod.blt;exact Calls.Name_function_global I.ok.kind e (Calls.loadGlobal_builtin (by rw[I.ok.glob];exact I.mod.glob.keeps I.bk) d (by rw[I.ok.blt];exact j.keeps I.bk) ((i x c).trans b) h) g
theorem GE{x:Str}{v:V}{u:ai}{f:Pos}(b:Gl X x)(a:X.mg x=aa u)(r:RelV v u)(c:(x==("__debug__":Str))=ak:=by decide):PE X (.Name x f) (tC v) :=λ_ _ _ H _ I h=>B9 I b a ⟨v,H,I,r,h⟩ c
theorem Nu{x:Str}{v:V}{u:ai}{f:Pos}(d:Gl X x)(c:X.mg x=ae)(a:fF x=aa u)(r:RelV v u)(b:x≠"__name__":=by decide)(e:(x==("__debug__":Str))=ak:=by decide):PE X (.Name x f) (tC v) :=λ_ _ _ H _ I h=>vx I d c a ⟨v,H,I,r,h⟩ b e
variable{a b:aA}{g p:TE}{f:Pos}
def PC(X:Cx)(i:CmpOp)(a b:aA)(t:TE):Prop :=
 ∀(h:List (af×Obj)) (s:ao) (e:St) (H:Hp) (Q:VK),Inv X h e H s->t e H Q ->
  aq (au X.prog X.w) X.A (bh a X.env) (λv d=>aq (au X.prog X.w) X.A (bh b X.env) (λu c=>aq (au X.prog X.w) X.A (dZ i v u) (EP X h e Q) X.xe c) X.xe d) X.xe s
theorem Se(b:aA){c:CmpOp}(h:c≠.In)(d:c≠.NotIn):ql c b=ak:=by
 have i:(c == CmpOp.In)=ak:=by cases c <;> first|rfl|exact absurd rfl h
 have e:(c == CmpOp.NotIn)=ak:=by cases c <;> first|rfl|exact absurd rfl d
 cases b <;> simp[ql,i,e]
def tB(t:TE):TT:=λd H Q=>t d H λx e=>∃c,x=.bl c/\Q c e
theorem QW{e:CmpOp}{t:TE}(h:PC X e a b t)(i:ql e b=ak:=by first|exact Se _ (by decide) (by decide)|rfl):PT X (.Compare a [e] [b] f) (tB t):=by
 intro r s j H Q I n;refine wpAny_isTrue_Compare1 (aP (h r s j H _ I n) λv B i=>aP i λu A o=>aP o λc z ⟨x,y,w,l,m⟩=>?_) i;obtain⟨d,rfl,q⟩:=m;cases l;exact oF ⟨y,w,q⟩
theorem QB{e:aA}{t:TE}(h:PE X e t)(n:∀c,m_ e X.env c=(do let v <-c;standAt e.pos;kc [v] (truthy v)):=by intro _;rfl):PT X e (tB t):=by
 intro o s i H Q I m;refine isTrue_plain (aP (h o s i H _ I m) λv w ⟨x,u,r,j,l⟩=>?_) (n _);obtain⟨d,rfl,q⟩:=l;cases j;exact oF ⟨u,r,q⟩
variable{n o:TT}{rest:List aA}
def JV(t u:TT):TT:=λd H Q=>t d H λc e=>if c=ah then u d e Q else Q ak e
def KN(t u:TT):TT:=λd H Q=>t d H λc e=>if c=ah then Q ah e else u d e Q
def Rx(t:TT):TT:=λd H Q=>t d H λc e=>Q (!c) e
theorem O0(i:PT X a n):PW X (.BoolOp .And [a] f) n:=by
 intro l j s d H Q I h;refine isTrue_and (aP (i j s d H Q I h) λc m e=>?_);cases c with
 |true=>exact isTrue_and_nil e
 |false=>exact e
theorem NE(i:PT X a n):PW X (.BoolOp .Or [a] f) n:=by
 intro l j s d H Q I h;refine isTrue_or (aP (i j s d H Q I h) λc m e=>?_);cases c with
 |false=>exact isTrue_or_nil e
 |true=>exact e
theorem Nv(u:PT X a n)(r:PW X (.BoolOp .And (b::rest) f) o):PW X (.BoolOp .And (a::b::rest) f) (JV n o):=by
 intro m i s d H Q I h;refine isTrue_and (aP (u i s d H _ I h) λc q ζ=>?_);obtain⟨l,j,e⟩:=ζ;cases c with
 |true=>exact r m i q d l Q j e
 |false=>exact⟨l,j,e⟩
theorem Pb(u:PT X a n)(r:PW X (.BoolOp .Or (b::rest) f) o):PW X (.BoolOp .Or (a::b::rest) f) (KN n o):=by
 intro m i s d H Q I h;refine isTrue_or (aP (u i s d H _ I h) λc q ζ=>?_);obtain⟨l,j,e⟩:=ζ;cases c with
 |true=>exact⟨l,j,e⟩
 |false=>exact r m i q d l Q j e
theorem LI(e:PT X a n):PT X (.UnaryOp .Not a f) (Rx n):=by intro i s d H Q I h;exact isTrue_not (e i s d H (λc j=>Q (!c) j) I h)
def LB(g p:TE):TE:=λd H Q=>g d H λx e=>∃c,x=.bl c/\if c=ah then p d e Q else Q (.bl ak) e
def Oo(g:TE):TE:=λd H Q=>g d H λx e=>∃c,x=.bl c/\Q (.bl (!c)) e
theorem MD{op}{t:TE}(h:PE X a t):PE X (.BoolOp op [a] f) t:=λe s c H Q I d=>BoolOp_one (h e s c H Q I d)
theorem J4(u:PE X a g)(r:PE X (.BoolOp .And (b::rest) f) p):PE X (.BoolOp .And (a::b::rest) f) (LB g p):=by
 intro i s e H Q I h;refine BoolOp_and (aP (u i s e H _ I h) λv m ζ=>?_);obtain⟨x,l,j,q,d⟩:=ζ;obtain⟨c,rfl,d⟩:=d;cases q;refine oF ?_;cases c with
 |true=>exact r i m e l Q j d
 |false=>exact⟨.bl ak,l,j,rfl,d⟩
theorem QQ(j:PE X a g):PE X (.UnaryOp .Not a f) (Oo g):=by
 intro l s e H Q I h;refine UnaryOp_ (aP (j l s e H _ I h) λv r ζ=>?_);obtain⟨x,q,m,i,d⟩:=ζ;obtain⟨c,rfl,d⟩:=d;cases i;exact not_of (oF ⟨.bl (!c),q,m,rfl,d⟩)
def NP(t:TT)(g p:TE):TE:=λd H Q=>t d H λc e=>if c=ah then g d e Q else p d e Q
theorem Ny{c:aA}(r:PT X c n)(v:PE X a g)(u:PE X b p):PE X (.IfExp c a b f) (NP n g p):=by
 intro i s e H Q I h;refine wpAny_IfExp (aP (r i s e H _ I h) λd j ζ=>?_);obtain⟨q,m,l⟩:=ζ;cases d with
 |true=>exact v i j e q Q m l
 |false=>exact u i j e q Q m l
end
def cz(K:ay)(H:Hp)(a:af)(c:List V):Prop :=
 Rd H a (.lst c) \/
  ∃(o:Obj) (b:Array ai) (n:Nat),K.lookup a=aa o/\o.cls=.type "list"/\o.dict=ae/\o.data=.seq b n/\b.size<=bg/\bA c b.toList
def cp(K:ay)(H:Hp)(a:af)(c:List V):Prop :=
 Rd H a (.tup c) \/
  ∃(o:Obj) (b:Array ai) (n:Nat),K.lookup a=aa o/\o.cls=.type "tuple"/\o.data=.seq b n/\b.size<=bg/\bA c b.toList
def SN:ai->Option V
 |.none=>aa .non
 |.bool b=>aa (.bl b)
 |.int i _=>aa (.int i)
 |.str x _=>aa (.str x)
 |.bytes b _=>aa (.byt b)
 |.float b _=>aa (.flt b)
 |.ref a=>aa (.ref a)
 |.type n=>aa (.ty n)
 |_=>ae
theorem RelV.abs{x:V}{u:ai}(r:RelV x u):SN u=aa x:=by
 cases x with
 |non=>cases r;rfl
 |bl _=>cases r;rfl
 |int _=>obtain⟨t,rfl⟩:=r;rfl
 |str _=>obtain⟨t,rfl⟩:=r;rfl
 |byt _=>obtain⟨t,rfl⟩:=r;rfl
 |flt _=>obtain⟨t,rfl⟩:=r;rfl
 |ref _=>cases r;rfl
 |ty _=>cases r;rfl
theorem RelV.inj{x y:V}{u:ai}(r:RelV x u)(q:RelV y u):x=y:=cO (r.abs.symm.trans q.abs)
theorem bA.inj{b a:List V}{c:List ai}(r:bA b c)(s:bA a c):b=a:=by
 unfold bA at r s
 induction r generalizing a with
 |nil=>cases s;rfl
 |cons r _ g=>
  cases s with
  |cons q t=>rw[r.inj q,g t]
section
variable{X:Cx}{g:List (af×Obj)}{c:St}{H:Hp}{s:ao}{a:af}{b f:List V}
theorem cz.of{K:ay}(h:H a=aa (.lst b)):cz K H a b:=.inl (.inl h)
theorem cp.of{K:ay}(h:H a=aa (.tup b)):cp K H a b:=.inl (.inl h)
theorem Inv.list(I:Inv X g c H s)(h:cz X.K H a b):∃its:List ai,bA b its/\PlainL s.heap a its.toArray/\b.length<=bg:=by
 rcases h with h|⟨o,its,n,i,l,j,d,m,r⟩
 .obtain⟨z,its,n,r,e⟩:=h.ok I.hok;exact⟨its,r,⟨_,n,e,rfl,rfl,rfl⟩,z⟩
 .refine⟨its.toList,r,⟨o,n,I.kIn a o i,l,j,by simpa using d⟩,?_⟩;have e:=r.length;simp only[fk]at e;lia
theorem Inv.tuple(I:Inv X g c H s)(h:cp X.K H a b):∃d:List ai,bA b d/\IsTup s.heap a d.toArray/\b.length<=bg:=by
 rcases h with h|⟨o,d,n,j,l,i,m,r⟩
 .obtain⟨z,d,r,p,_⟩:=h.ok I.hok;exact⟨d,r,p,z⟩
 .refine⟨d.toList,r,⟨o,I.kIn a o j,l,n,by simpa using i⟩,?_⟩;have e:=r.length;simp only[fk]at e;lia
theorem Inv.list_inj(I:Inv X g c H s)(h:cz X.K H a b)(q:cz X.K H a f):b=f:=by
 obtain⟨j,r,⟨o,n,e,_,_,d⟩,_⟩:=I.list h;obtain⟨i,p,⟨u,v,l,_,_,m⟩,_⟩:=I.list q;rw[e]at l;cases l;rw[d]at m;injection m with d1 _;have:j=i:=by simpa using congrArg Array.toList d1
 subst this;exact r.inj p
theorem Inv.tuple_inj(I:Inv X g c H s)(h:cp X.K H a b)(q:cp X.K H a f):b=f:=by
 obtain⟨j,r,⟨o,e,_,n,d⟩,_⟩:=I.tuple h;obtain⟨i,p,⟨u,l,_,v,m⟩,_⟩:=I.tuple q;rw[e]at l;cases l;rw[d]at m;injection m with d1 _;have:j=i:=by simpa using congrArg Array.toList d1
 subst this;exact r.inj p
end
abbrev Cx.wish(X:Cx)(E:ai->ao->Prop):Cx:={X with xe:=E}
abbrev Cx.nox(X:Cx):Cx:=X.wish λ_ _=>False
theorem Cx.Ok.wish{X:Cx}(ok:X.Ok)(E:ai->ao->Prop):(X.wish E).Ok :=⟨ok.mod,ok.kind,ok.glob,ok.blt,ok.above,ok.inj,ok.has,ok.cab,ok.hd,ok.frames,ok.stk,ok.exf,ok.bs,ok.bsz,ok.noex,ok.exfs,ok.funs,ok.frf,ok.tab⟩
theorem Cx.Ok.unwish{X:Cx}{E:ai->ao->Prop}(ok:(X.wish E).Ok):X.Ok :=⟨ok.mod,ok.kind,ok.glob,ok.blt,ok.above,ok.inj,ok.has,ok.cab,ok.hd,ok.frames,ok.stk,ok.exf,ok.bs,ok.bsz,ok.noex,ok.exfs,ok.funs,ok.frf,ok.tab⟩
section
variable{X:Cx}{a:List (af×Obj)}{b:St}{H:Hp}{s:ao}{E:ai->ao->Prop}
theorem Inv.wish(I:Inv X a b H s)(E:ai->ao->Prop):Inv (X.wish E) a b H s:=⟨I.ok.wish E,I.os,I.bare,I.base,I.loc,I.cell,I.free,I.freeC,I.pin,I.hok,I.len⟩
theorem Inv.unwish(I:Inv (X.wish E) a b H s):Inv X a b H s:=⟨I.ok.unwish,I.os,I.bare,I.base,I.loc,I.cell,I.free,I.freeC,I.pin,I.hok,I.len⟩
theorem SP.unwish{D:j5}{f:Flow}{e:ao}(h:SP (X.wish E) a D f e):SP X a D f e:=by
 cases f with
 |next=>obtain⟨c,d,I,q⟩:=h;exact⟨c,d,I.unwish,q⟩
 |brk=>obtain⟨c,d,I,q⟩:=h;exact⟨c,d,I.unwish,q⟩
 |cont=>obtain⟨c,d,I,q⟩:=h;exact⟨c,d,I.unwish,q⟩
 |ret u=>obtain⟨v,c,d,I,r,q⟩:=h;exact⟨v,c,d,I.unwish,r,q⟩
end
section
variable{X:Cx}{j:bn}{rest:List bn}{t u:TS}{e:aA}{i:TE}{g:Pos}
def MX:TS:=λD a H=>D.nx a H
def LF(t u:TS):TS:=λD a H=>t {D with nx:=u D} a H
theorem Ll:kG X [] MX:=λ_ _ a H _ I h=>Cj ⟨a,H,I,h⟩
theorem Kg(m:PS X j t)(l:kG X rest u):kG X (j::rest) (LF t u):=by
 intro b s c H D I h;refine wpAny_execs_cons (aP (m b s c H {D with nx:=u D} I h) λf d q=>?_);cases f with
 |next=>obtain⟨a,o,n,q⟩:=q;exact l b d a o D n q
 |ret v=>exact q
 |brk=>exact q
 |cont=>exact q
theorem Lh(b:PS X j t):kG X [j] t:=by
 intro c s a H D I h;refine wpAny_execs_cons (aP (b c s a H D I h) λf d q=>?_);cases f with
 |next=>exact Cj q
 |ret v=>exact q
 |brk=>exact q
 |cont=>exact q
theorem Inv.quiet{b:List (af×Obj)}{a:St}{H:Hp}{s:ao}(I:Inv X b a H s):interactive X.env=ak:=by simp[interactive,I.ok.kind]
def OF(i:TE):TS:=λD a H=>i a H λ_ b=>D.nx a b
theorem A9(d:PE X e i)(c:ju e ae g.line X.env=pure ak:=by rfl):PS X (.Expr e g) (OF i):=by intro f s a H D I h;exact wpAny_Expr_any (aP (d f s a H _ I h) λv n ⟨x,m,l,o,b⟩=>⟨a,m,l,b⟩) I.quiet c
def Oe(i:TE):TS:=λD a H=>i a H D.rt
theorem xG(d:PE X e i):PS X (.Return (aa e) g) (Oe i):=by intro f s a H D I h;exact wpAny_Return_some (aP (d f s a H _ I h) λv n ⟨x,m,l,b,c⟩=>⟨x,a,m,l,b,c⟩)
def R5(c:TT)(t u:TS):TS:=λD a H=>c a H λb d=>if b=ah then t D a d else u D a d
theorem RL{c:aA}{a b:List bn}{m:TT}(r:PT X c m)(w:kG X a t)(v:kG X b u):PS X (.If c a b g) (R5 m t u):=by
 intro l s f H D I h;refine wpAny_If (aP (r l s f H _ I h) λd n ζ=>?_);obtain⟨q,p,o⟩:=ζ;cases d with
 |true=>exact w l n f q D p o
 |false=>exact v l n f q D p o
end
abbrev TG:=V->St->Hp->(St->Hp->Prop)->Prop
abbrev p8:=List V->St->Hp->(St->Hp->Prop)->Prop
def PG(X:Cx)(a:aA)(t:TG):Prop :=
 ∀(d:List (af×Obj)) (s:ao) (c:St) (H:Hp) (v:V) (u:ai) (Q:St->Hp->Prop),Inv X d c H s->RelV v u->t v c H Q ->
  aq (au X.prog X.w) X.A (mh a X.env u) (λ_ s'=>∃b e,Inv X d b e s'/\Q b e) X.xe s
def xE(X:Cx)(g:List aA)(t:p8):Prop :=
 ∀(e:List (af×Obj)) (s:ao) (b:St) (H:Hp) (c:List V) (d:List ai) (Q:St->Hp->Prop),Inv X e b H s->bA c d->t c b H Q ->
  aq (au X.prog X.w) X.A (assignInOrder ((qm g X.env).map (·.2)) d) (λ_ h=>∃a f,Inv X e a f h/\Q a f) X.xe s
abbrev Bs:=V->V->V->Hp->(Hp->Prop)->Prop
def GK(X:Cx)(t:Bs):Prop :=
 ∀(d:List (af×Obj)) (s:ao) (a:St) (H:Hp) (o i v:V) (b c u:ai) (Q:Hp->Prop),Inv X d a H s->RelV o b->RelV i c->RelV v u->t o i v H Q ->
  aq (au X.prog X.w) X.A (setItem b c u) (λ_ f=>∃e,Inv X d a e f/\Q e) X.xe s
section
variable{X:Cx}{d:Pos}
def Ef(i:Nat):TG:=λv a H Q=>Q (a.set i (aa v)) H
theorem qh{i:Nat}{x:Str}(e:X.N.Nodup)(b:X.N[i]?=aa x)(a:Loc X.env.scope x)(c:X.fn x=ah\/X.env.scope.names.lookup x=aa .local:=by first|exact .inl rfl|exact .inr rfl|assumption):PG X (.Name x d) (Ef i):=by intro l s g H v u Q I r h;exact wpAny_assign_Name (GI I e b a r (λj f=>⟨_,H,f,h⟩) c)
def bN:p8:=λb a H Q=>b=[]/\Q a H
def Od(t:TG)(u:p8):p8:=λc b H Q=>∃v r,c=v::r/\t v b H λa e=>u r a e Q
theorem GQ:xE X [] bN:=by
 intro f s a H b c Q I r h;obtain⟨e,h⟩:=h;subst e;cases r;exact assignInOrder_nil ⟨a,H,I,h⟩
theorem y3{e:aA}{a:List aA}{t:TG}{u:p8}(n:PG X e t)(m:xE X a u)(l:(qm (e::a) X.env).map (·.2)=mh e X.env::(qm a X.env).map (·.2):=by rfl):xE X (e::a) (Od t u):=by
 intro c s f H w y Q I r h;obtain⟨v,x,o,h⟩:=h;subst o;cases r with
 |cons r i=>rw[l];refine assignInOrder_cons (aP (n c s f H _ _ _ I r h) λ_ g ζ=>?_);obtain⟨b,q,p,j⟩:=ζ;exact m c g b q _ _ Q p i j
def Qd(K:ay)(n:Nat)(t:p8):TG:=λv c H Q=>∃a b,v=.ref a/\cp K H a b/\b.length=n/\t b c H Q
theorem GX{c:List aA}{k:Nat}{t:p8}{n:Nat}(z:X.calm=ah)(h:xE X c t)(x:(qm c X.env).length=n:=by rfl) (B:(qm c X.env).findIdx? (·.1)=ae:=by rfl):PG X (.Tuple c k d) (Qd X.K n t):=by
 intro j s g H v u Q I r f;obtain⟨a,l,C,w,y,f⟩:=f;subst C;cases r;obtain⟨m,i,q,E⟩:=I.tuple w;refine assign_Tuple_tuple (I.ok.hd z) q (by simp[x,<-y,i.length]) B λA p=>?_;have D:Inv X j g H {s with heap:=A}:=I.kept (t':=s.toks) λb o e=>p b o (df (bG e)) e;exact h j _ g H l _ Q D (by simpa using i) f
def Q8(b c:TE)(t:Bs):TG:=λv a H Q=>b a H λo g=>c a g λi f=>t o i v f λe=>Q a e
theorem Dy{o i:aA}{f g:TE}{t:Bs}(A:PE X o f)(B:PE X i g)(z:GK X t)(C:∀v,mh (.Subscript o i d) X.env v=(do
   let a <-kc [v] (bh o X.env)
   let b <-kc [v,a] (bh i X.env)
   standAt d
   kc [v,a,b] (setItem a b v)
   release [v,a,b] []):=by intro _;rfl):PG X (.Subscript o i d) (Q8 f g t):=by
 intro e s c H v u Q I r h;rw[C];refine ap (ke (aP (A e s c H _ I h) λa l ζ=>?_));obtain⟨x,K,F,n,w⟩:=ζ;refine ap (ke (aP (B e l c K _ F w) λb j ζ=>?_));obtain⟨y,J,E,m,q⟩:=ζ;refine ap (wpAny_standAt (ap (ke (aP (z e j c J x y v a b u _ E n m r q) λ_ L ζ=>?_))));obtain⟨G,D,p⟩:=ζ;exact wpAny_release ⟨c,G,D,p⟩
def EM(b:TE)(g:TG):TS:=λD a H=>b a H λx c=>g x a c D.nx
theorem AM{a e:aA}{c:TE}{g:TG}(p:PE X e c)(o:PG X a g)(n:Ck [a] e d.line X.env=pure ak:=by rfl)(m:Cm [a] e X.env=pure ae:=by rfl)(r:(qm [a] X.env).map (·.2)=[mh a X.env]:=by rfl):PS X (.Assign [a] e d) (EM c g):=by intro f s b H D I h;refine wpAny_Assign_stores (aP (p f s b H _ I h) λv i ⟨x,w,u,j,l⟩=>?_) n m;rw[r];exact aP (o f i b w x v _ u j l) λ_ y q=>q
theorem B1{i:Nat}{x:Str}{e:aA}{b:TE}{a:Pos}(p:X.N.Nodup)(m:X.N[i]?=aa x)(j:Loc X.env.scope x)(o:PE X e b)(l:ju e (aa (.Name x a)) d.line X.env=pure ak:=by rfl)(n:X.fn x=ah\/X.env.scope.names.lookup x=aa .local:=by first|exact .inl rfl|exact .inr rfl|assumption):PS X (.Assign [.Name x a] e d) (EM b (Ef i)):=by intro q s c H D I h;refine wpAny_Assign_Name (aP (o q s c H _ I h) λv A ⟨y,w,u,f,g⟩=>?_) l;exact GI u p m j f (λz r=>⟨_,w,r,g⟩) n
def L5(c:TT)(i:TS):TS:=λD a H=>∃W:Nat->St->Hp->Prop,(∃m,W m a H)/\∀m a H,W m a H ->
 c a H λb g=>if b=ah then ∃N:St->Hp->Prop,(∀e h,N e h->∃f,f<m/\W f e h)/\i {D with nx:=N,ct:=N,bk:=D.nx} a g else D.nx a g
theorem Re{c:aA}{g:List bn}{y:TT}{z:TS}(A:vL (au X.prog X.w) X.A X.env X.xe)(S:PT X c y)(T:kG X g z):PS X (.While c g [] d) (L5 y z):=by
 intro w s J H D I h;obtain⟨W,⟨Q,L⟩,j⟩:=h;refine wpAny_While (codeAny_whileLoop (λn P=>∃i G,Inv X w i G P/\W n i G) ?_ Q ⟨J,H,I,L⟩);rintro n O ⟨e,F,Y,K⟩;refine sS A (aP (S w O e F _ Y (j n e F K)) λb M ζ=>?_);obtain⟨E,C,o⟩:=ζ;cases b with
 |true=>
  obtain⟨N,B,o⟩:=o;rw[if_pos rfl];refine sS A (aP (T w M e E _ C o) λf Z m=>?_);cases f with
  |next=>obtain⟨a,l,x,q⟩:=m;obtain⟨r,u,p⟩:=B a l q;exact⟨r,u,a,l,x,p⟩
  |cont=>obtain⟨a,l,x,q⟩:=m;obtain⟨r,u,p⟩:=B a l q;exact⟨r,u,a,l,x,p⟩
  |brk=>exact m
  |ret v=>exact m
 |false=>rw[if_neg eG];exact Cj ⟨e,E,C,o⟩
end
structure It where
 go:Nat->Hp->Prop
 yld:Nat->Hp->V->Hp->Prop
 stop:Nat->Hp->Prop
def ly(X:Cx)(a:List (af×Obj))(H:Hp)(b:af):Prop :=
 H b=ae/\b≠X.env.locals/\b∉X.fs/\(b∈X.ex\/X.s₀.heap.objs.size<=b)/\(∀x c,X.env.cells.lookup x=aa c->c≠b)/\∀p∈X.pn++a,p.1≠b
theorem Inv.fpOk{X:Cx}{d:List (af×Obj)}{g:St}{H f:Hp}{s:ao}{b:af}(I:Inv X d g H s)(a:s.heap.objs.size<=b)(i:f b=ae):ly X d f b:=by
 refine⟨i,sT (gK I.lt a),I.nofs a,.inr (c0 I.sz a),λx c e z=>?_,λp h z=>?_⟩
 .obtain⟨v,q⟩:=I.cell x c e;exact absurd (gK q.lt (by rw[z];exact a)) (gu _)
 .exact absurd (gK (bG (I.pin p h).1) (by rw[z];exact a)) (gu _)
structure pK(P:aQ)(w:aI)(K:ay)(tg:aA)(J:It)(fp:List af)(it:af)(tn:Nat->aB->Prop):Prop where
 mem:it∈fp
 obj:∀i h,tn i h->∀b∈fp,∃o,h.get? b=aa o/\∀v,o.data≠.cell v
 keep:∀i h h',tn i h->(∀b∈fp,∀o,h.get? b=aa o->h'.get? b=aa o)->tn i h'
 item:∀(X:Cx),X.prog=P->X.w=w->X.K=K->X.calm=ah->∀(i:Nat) (ag:List (af×Obj)) (s:ao) (σ:St) (H:Hp) (E:ai->ao->Prop),Inv X ag σ H s->(∀b∈fp,ly X ag H b)->tn i s.heap->J.go i H ->
  aq (au P w) X.A (mi (.ref it)) (λr s1=>∃u,r=aa u /\ aq (au P w) X.A (Cn tg (.ref it) u) (λ_ s2=>∃x H',Inv X ag σ H' s2/\RelV x u/\J.yld i H x H'/\tn (i+1) s2.heap/\∀b∈fp,H' b=ae) E s1) E s
 done:∀(X:Cx),X.prog=P->X.w=w->X.K=K->X.calm=ah->∀(i:Nat) (ag:List (af×Obj)) (s:ao) (σ:St) (H:Hp) (E:ai->ao->Prop),Inv X ag σ H s->(∀b∈fp,ly X ag H b)->tn i s.heap->J.stop i H ->
  aq (au P w) X.A (mi (.ref it)) (λr s1=>r=ae/\Inv X ag σ H s1) E s
 self:∀(A:aX) (i:Nat) (s:ao) (Q:ai->ao->Prop) (E:ai->ao->Prop),tn i s.heap->Q (.ref it) s->aq (au P w) A (nc (.ref it)) Q E s
abbrev TI:=St->Hp->(It->Hp->Prop)->Prop
def xx(X:Cx)(h:List (af×Obj))(i:St)(j:aA)(R:It->Hp->Prop)(a:ai)(e:ao):Prop :=
 ∃(f:af) (g:List af) (d:Nat->aB->Prop) (J:It) (c:Hp),a=.ref f/\Inv X h i c e/\pK X.prog X.w X.K j J g f d/\d 0 e.heap/\(∀b∈g,ly X h c b)/\R J c
def PI(X:Cx)(e a:aA)(d:TI):Prop :=
 ∀(c:List (af×Obj)) (s:ao) (b:St) (H:Hp) (R:It->Hp->Prop),Inv X c b H s->d b H R ->
  aq (au X.prog X.w) X.A (bh a X.env) (λv f=>aq (au X.prog X.w) X.A (nc v) (xx X c b e R) X.xe f) X.xe s
theorem uk{M:Model}{A:aX}{E:ai->ao->Prop}{s:ao}{c:aA}{d:af}{u:ai}{o:Obj}{n:String}{b:Array ai}{Q:Unit->ao->Prop}(e:s.heap.get? d=aa o)(i:o.cls=.type n)(g:o.data=.fields b)(f:["enumerate","zip","dict_itemiterator","dict_reverseitemiterator","odict_iterator","itertools.zip_longest","itertools.pairwise"].contains n=ak) (a:Q () s):aq M A (Cn c (.ref d) u) Q E s:=by
 unfold Cn;cases c <;> first
  |exact aD a
  | (cases u <;> first
    |exact aD a
    | (refine ap (wpAny_load e ?_)
       rw[i,g];show aq M A (if(["enumerate","zip","dict_itemiterator","dict_reverseitemiterator","odict_iterator","itertools.zip_longest","itertools.pairwise"].contains n&&b[0]? == aa (dr _))=ah then _ else _) Q E s;rw[if_neg (by intro h;rw[f,Bool.false_and]at h;cases h)];exact aD a))
def Ae(K:ay)(a:af):It :=⟨λi H=>∃b x,cz K H a b/\b[i]?=aa x,λi H x c=>c=H/\∀b,cz K H a b->b[i]?=aa x,λi H=>∃b,cz K H a b/\b.length<=i⟩
def Bp(K:ay)(a:af):It :=⟨λi H=>∃b x,cp K H a b/\b[i]?=aa x,λi H x c=>c=H/\∀b,cp K H a b->b[i]?=aa x,λi H=>∃b,cp K H a b/\b.length<=i⟩
def yh(a:Int)(n:Nat):It:=⟨λi _=>i<n,λi H x b=>b=H/\x=.int (a+i),λi _=>n<=i⟩
theorem Ox{P:aQ}{w:aI}{K:ay}{S:aA}(a g:af):pK P w K S (Ae K a) [g] g (λi h=>h.IsListIter g a i) where
 mem:=by simp
 obj:=λi h f b j=>by
  have e:b=g:=by simpa using j
  subst e;obtain⟨o,e,c,d⟩:=f;exact⟨o,e,λv z=>by rw[d]at z;cases z⟩
 keep:=λi h n f k=>f.at λo e=>k g (by simp) o e
 item:=by intro X C A D M i O s L H E I m f B;subst C A D;obtain⟨Q,x,l,y⟩:=B;obtain⟨r,q,p,W⟩:=I.list l;obtain⟨u,Z,T⟩:=q.get y;obtain⟨J,G,f2,f3,f4,F⟩:=m g (by simp);refine wpAny_pyNext_list_item f p.isList (x:=u) (by simpa using Z) λn N sb=>?_;have I1:Inv X O L H {s with heap:=n}:=I.turned (t':=s.toks) (λb o j e=>(sb.2 b j).trans e) J G f3 f4 F;obtain⟨o,e,c,d⟩:=id N;exact⟨u,rfl,uk (s:={s with heap:=n}) e c d (by decide) ⟨x,H,I1,T,⟨rfl,λys Y=>by rw[I.list_inj Y l];exact y⟩,N,λb j=>(m b j).1⟩⟩
 done:=by intro X C A D M i O s L H E I m f B;subst C A D;obtain⟨Q,l,y⟩:=B;obtain⟨r,q,p,W⟩:=I.list l;obtain⟨J,G,f2,f3,f4,F⟩:=m g (by simp);have hl:=q.length;exact wpAny_pyNext_list_end (I.ok.hd M) f p.isList (by simp;lia) λn eb=>⟨rfl,I.turned (t':=s.toks) (λb o j e=>eb b o j e) J G f3 f4 F⟩
 self:=λ_ _ _ _ _ f h=>wpAny_pyIter_listiter f h
theorem QT{P:aQ}{w:aI}{K:ay}{S:aA}(a j:af):pK P w K S (Bp K a) [j] j (λi h=>h.IsTupleIter j a i) where
 mem:=by simp
 obj:=λi h f b l=>by
  have e:b=j:=by simpa using l
  subst e;obtain⟨o,e,c,d⟩:=f;exact⟨o,e,λv z=>by rw[d]at z;cases z⟩
 keep:=λi h q f k=>f.at λo e=>k j (by simp) o e
 item:=by intro X C A D M i O s L H E I n f B;subst C A D;obtain⟨Q,x,m,y⟩:=B;obtain⟨g,r,p,W⟩:=I.tuple m;obtain⟨u,Z,T⟩:=r.get y;obtain⟨J,G,f2,f3,f4,F⟩:=n j (by simp);refine wpAny_pyNext_tuple_item f (show s.heap.IsTuple a g.toArray from p) (x:=u) (by simpa using Z) λq N sb=>?_;have I1:Inv X O L H {s with heap:=q}:=I.turned (t':=s.toks) (λb o l e=>(sb.2 b l).trans e) J G f3 f4 F;obtain⟨o,e,c,d⟩:=id N;exact⟨u,rfl,uk (s:={s with heap:=q}) e c d (by decide) ⟨x,H,I1,T,⟨rfl,λys Y=>by rw[I.tuple_inj Y m];exact y⟩,N,λb l=>(n b l).1⟩⟩
 done:=by intro X C A D M i O s L H E I n f B;subst C A D;obtain⟨Q,m,y⟩:=B;obtain⟨g,r,p,W⟩:=I.tuple m;obtain⟨J,G,f2,f3,f4,F⟩:=n j (by simp);have hl:=r.length;exact wpAny_pyNext_tuple_end (I.ok.hd M) f (show s.heap.IsTuple a g.toArray from p) (by simp;lia) λq eb=>⟨rfl,I.turned (t':=s.toks) (λb o l e=>eb b o l e) J G f3 f4 F⟩
 self:=λ_ _ _ _ _ f h=>wpAny_pyIter_tupleiter f h
theorem Nl{P:aQ}{w:aI}{K:ay}{G:aA}(c:af)(f:Int)(n:Nat):pK P w K G (yh f n) [c] c (λi h=>IsRangeIter h c (f+(i:Nat)*1) ((n:Int)-(i:Nat)) 1) where
 mem:=by simp
 obj:=λi h a b d=>by
  have e:b=c:=by simpa using d
  subst e;exact⟨_,a,λv z=>by
   have F:Data.fields _=Data.cell v:=z;cases F⟩
 keep:=λi h j a k=>k c (by simp) _ a
 item:=by intro X q l r p i D s A H E I g a m;subst q l r;obtain⟨y,x,f2,f3,f4,u⟩:=g c (by simp);have W:=Walks.range (prog:=X.prog) (w:=X.w) (I.ok.hd p) c f 1 n;refine W.item i s _ _ m a λv j B L C J=>?_;obtain⟨t,rfl⟩:=L;have N:Inv X D A H {s with heap:=j,toks:=B}:=I.turned (λb o d e=>J b o (by simpa using d) e) y x f3 f4 u;refine⟨_,rfl,uk (s:={s with heap:=j,toks:=B}) (n:="range_iterator") C rfl rfl (by decide) ⟨.int (f+i),H,N,⟨t,?_⟩,⟨rfl,rfl⟩,C,λb d=>(g b d).1⟩⟩;rw[Int.mul_one]
 done:=by intro X q l r p i D s A H E I g a m;subst q l r;obtain⟨y,x,f2,f3,f4,u⟩:=g c (by simp);exact wpAny_pyNext_range_end (I.ok.hd p) a (by have:n<=i:=m;lia) λj M=>⟨rfl,I.turned (t':=s.toks) (λb o d e=>M b o d e) y x f3 f4 u⟩
 self:=λ_ _ _ _ _ a h=>wpAny_pyIter_rangeiter a h
section
variable{X:Cx}{c:aA}
theorem Ki{h:List (af×Obj)}{f:St}{H:Hp}{s:ao}{R:It->Hp->Prop}{E:ai->ao->Prop}{a d:Int}{t u v:Tok}{g:Nat}(I:Inv X h f H s)(p:-(2^62)<=a)(n:a<2^62)(m:-(2^62)<=d)(l:d<2^62)(q:R (yh a (d-a).toNat) H):aq (au X.prog X.w) X.A (nc (.ref s.heap.objs.size)) (xx X h f c R) E {s with heap:=s.heap.push {cls:=.type "range",data:=.fields #[.int a t,.int d u,.int 1 v]},toks:=g}:=by
 refine wpAny_pyIter_range (IsRange.new ..) (small_one p n m l) ?_;have i:Inv X h f H {s with heap:=s.heap.push {cls:=.type "range",data:=.fields #[.int a t,.int d u,.int 1 v]},toks:=g}:=I.kept λb o e=>bH _ e;refine⟨(s.heap.push {cls:=.type "range",data:=.fields #[.int a t,.int d u,.int 1 v]}).objs.size,[(s.heap.push {cls:=.type "range",data:=.fields #[.int a t,.int d u,.int 1 v]}).objs.size],_,_,H,rfl,i.kept (t':=g) λb o e=>bH _ e,Nl _ a (d-a).toNat,?_,λb j=>?_,q⟩
 .have w:a+((0:Nat):Int)*1=a:=by simp
  have r:(((d-a).toNat:Nat):Int)-((0:Nat):Int)=Builtin.Range.rangeSize a d 1:=by rw[rangeSize_one];split <;> lia
  show IsRangeIter _ _ (a+((0:Nat):Int)*1) ((((d-a).toNat:Nat):Int)-((0:Nat):Int)) 1;rw[w,r];exact cW _ rfl
 .have e:b=(s.heap.push {cls:=.type "range",data:=.fields #[.int a t,.int d u,.int 1 v]}).objs.size:=by simpa using j
  subst e;exact i.fpOk (aZ _) (i.hok.fresh (aZ _))
def KA(d:TA):TI:=λa H R=>d a H λb e=>∃j:Int,b=[.int j]/\-(2^62)<=j/\j<2^62/\R (yh 0 j.toNat) e
theorem Sl{a:aA}{f:TA}{p b:Pos}(u:Gl X "range")(o:X.mg "range"=ae)(v:PA X [a] f)(n:a9 [a] X.env=[(ak,bh a X.env)]:=by rfl):PI X c (.Call (.Name "range" p) [a] [] b) (KA f):=by
 intro w s g H R I h;refine Call_ (vx I u o boot_range (Ix (aP (v b w s g H _ I h) λz A ⟨y,B,x,l,d⟩=>?_) n rfl));obtain⟨j,e,d,m,q⟩:=d;subst e;cases l with
 |cons r i=>
  cases i;obtain⟨t,rfl⟩:=r;exact call_range_1 (Ki x ∅ ∅ d m (by simpa using q))
def QG(h:TI)(g:TG)(j:TS):TS:=λD a H=>h a H λJ n=>∃W:Nat->Nat->St->Hp->Prop,(∃m,W 0 m a n)/\∀i m a H,W i m a H ->
 (J.stop i H/\D.nx a H)\/(J.go i H/\∃N:St->Hp->Prop,(∀b d,N b d->∃f,f<m/\W (i+1) f b d)/\∀x d,J.yld i H x d->g x a d λe l=>j {D with nx:=N,ct:=N,bk:=D.nx} e l)
def vq(a:List af)(h:aB):List (af×Obj):=a.filterMap λb=>(h.get? b).map λo=>(b,o)
theorem yH{a:List af}{h:aB}{b:af}{o:Obj}(d:b∈a)(e:h.get? b=aa o):(b,o)∈vq a h:=Iy.mpr ⟨b,d,by rw[e];rfl⟩
theorem NA{a:List af}{h:aB}{p:af×Obj}(d:p∈vq a h):p.1∈a/\h.get? p.1=aa p.2:=by
 obtain⟨b,f,e⟩:=Iy.mp d;cases q:h.get? b with
 |none=>rw[q]at e;cases e
 |some o=>rw[q]at e;have g:(b,o)=p:=cO e;subst g;exact⟨f,q⟩
theorem Inv.pinned{f:List (af×Obj)}{g:St}{H:Hp}{s:ao}{a:List af}(I:Inv X f g H s)(m:∀b∈a,ly X f H b)(l:∀b∈a,∃o,s.heap.get? b=aa o/\∀v,o.data≠.cell v):Inv X (f++vq a s.heap) g H s :=
 I.pins_of λp j=>(gv.mp j).elim (λz=>I.pin p (i9 _ z)) λz=>by
  obtain⟨h,e⟩:=NA z;obtain⟨q,n,f2,_⟩:=m p.1 h;obtain⟨o,i,d⟩:=l p.1 h;rw[e]at i;cases i;exact⟨e,q,n,f2,d⟩
theorem Inv.unpinned{b d:List (af×Obj)}{a:St}{H:Hp}{s:ao}(I:Inv X (b++d) a H s):Inv X b a H s:=I.pins_of λp e=>I.pin p (i9 _ (qk _ e))
theorem FX{q:aA}{E:List bn}{wi:TI}{g:TG}{tb:TS}{Y:Pos}(L:vL (au X.prog X.w) X.A X.env X.xe)(hc:X.calm=ah)(hi:PI X c q wi)(hg:PG X c g)(w:kG X E tb)(hs:∀x,lz q X.env x=pure x:=by intro _;rfl):PS X (.For c q E [] Y) (QG wi g tb):=by
 intro F s σ H D I h;refine wpAny_For (aP (hi F s σ H _ I h) λv s1 h1=>aP h1 λitv s2 h2=>?_) hs;obtain⟨it,O,tn,J,H2,e,I2,T,bd,f2,W,⟨m0,w0⟩,G⟩:=h2;subst e;have p:∀{B:Hp},(∀b∈O,B b=ae)->∀b∈O,ly X F B b:=λhn b w=>⟨hn b w,(f2 b w).2⟩
 refine codeAny_forLoop_any (λn s'=>∃i l B,Inv X F l B s'/\tn i s'.heap/\(∀b∈O,B b=ae)/\W i n l B) ?_ m0 ⟨0,σ,H2,I2,bd,λb w=>(f2 b w).1,w0⟩;rintro n s3 ⟨i,j,P,I3,bJ,M,w3⟩;rcases G i n j P w3 with⟨stop,qn⟩|⟨go,N,hN,step⟩
 .refine sS L (aP (T.done X rfl rfl rfl hc i F s3 j P X.xe I3 (p M) bJ stop) λr s4 ζ=>?_);obtain⟨Z,I4⟩:=ζ;subst Z;exact Cj ⟨j,P,I4,qn⟩
 .refine sS L (aP (T.item X rfl rfl rfl hc i F s3 j P X.xe I3 (p M) bJ go) λr s4 ζ=>?_);obtain⟨u,Z,h4⟩:=ζ;subst Z;refine sS L (aP h4 λ_ s5 ζ=>?_);obtain⟨x,H5,I5,r5,y5,cq,fr5⟩:=ζ;have I5':=I5.pinned (p fr5) (T.obj _ _ cq);refine sS L (aP (hg _ s5 j H5 x u _ I5' r5 (step x H5 y5)) λ_ s6 ζ=>?_);obtain⟨Q,H6,I6,q6⟩:=ζ;refine sS L (aP (w _ s6 Q H6 _ I6 q6) λf S C=>?_);have y:∀{a:St}{A:Hp},Inv X (F++vq O s5.heap) a A S->N a A->∃m,m<n/\∃i l B,Inv X F l B S/\tn i S.heap/\(∀b∈O,B b=ae)/\W i m l B:=λ{a A} z K=>by obtain⟨m',hm,w7⟩:=hN a A K;refine⟨m',hm,i+1,a,A,z.unpinned,T.keep _ _ _ cq λb w o e=>(z.pin (b,o) (i9 _ (i9 _ (yH w e)))).1,λb w=>?_,w7⟩;obtain⟨o,e,d⟩:=T.obj _ _ cq b w;exact(z.pin (b,o) (i9 _ (i9 _ (yH w e)))).2.1
  cases f with
  |next=>obtain⟨a,A,z,K⟩:=C;exact y z K
  |cont=>obtain⟨a,A,z,K⟩:=C;exact y z K
  |brk=>obtain⟨a,A,z,C⟩:=C;exact⟨a,A,z.unpinned,C⟩
  |ret v=>obtain⟨x7,a,A,z,r7,C⟩:=C;exact⟨x7,a,A,z.unpinned,r7,C⟩
end
abbrev R2:=V->V->Hp->VK->Prop
def b8(X:Cx)(f:ai->ai->Sem ai)(r:R2):Prop :=
 ∀(b:List (af×Obj)) (s:ao) (a:St) (H:Hp) (x y:V) (v u:ai) (Q:VK),Inv X b a H s->RelV x v->RelV y u->r x y H Q ->
  aq (au X.prog X.w) X.A (f v u) (EP X b a Q) X.xe s
def y9(X:Cx)(f:ai->Sem ai)(r:V->Hp->VK->Prop):Prop :=
 ∀(b:List (af×Obj)) (s:ao) (a:St) (H:Hp) (x:V) (v:ai) (Q:VK),Inv X b a H s->RelV x v->r x H Q ->
  aq (au X.prog X.w) X.A (f v) (EP X b a Q) X.xe s
def gg(X:Cx)(f:ai)(r:List V->Hp->VK->Prop):Prop :=
 ∀(d:List (af×Obj)) (s:ao) (a:St) (H:Hp) (b:List V) (c:List ai) (Q:VK),Inv X d a H s->bA b c->r b H Q ->
  aq (au X.prog X.w) X.A (call f c) (EP X d a Q) X.xe s
def xC(r:R2)(c b:TE):TE:=λa H Q=>c a H λx e=>b a e λy d=>r x y d Q
def Qu(r:V->Hp->VK->Prop)(b:TE):TE:=λa H Q=>b a H λx c=>r x c Q
def rI(C:Int->Int->Prop)(g:Int->Int->V):R2:=λx y H Q=>∃i j,x=.int i/\y=.int j/\C i j/\Q (g i j) H
def lX(g:Int->Int->V):R2:=λx y H Q=>∃i j,x=.int i/\y=.int j/\Q (g i j) H
def rU(g:Int->V):V->Hp->VK->Prop:=λx H Q=>∃i,x=.int i/\Q (g i) H
section
variable{X:Cx}{a b c:aA}{d l m:TE}{e:Pos}
theorem BV(E:PE X a d)(D:PE X b l){p:List (af×Obj)}{s:ao}{g:St}{H:Hp}{R:V->V->Hp->Prop}(I:Inv X p g H s)(h:d g H λx q=>l g q λy i=>R x y i) {Q:ai->ao->Prop}{f:ai->ai->Sem ai}(C:∀v u o x y i,Inv X p g i o->RelV x v->RelV y u->R x y i->aq (au X.prog X.w) X.A (f v u) Q X.xe o):aq (au X.prog X.w) X.A (bh a X.env) (λv n=>aq (au X.prog X.w) X.A (bh b X.env) (λu j=>aq (au X.prog X.w) X.A (f v u) Q X.xe j) X.xe n) X.xe s:=by refine aP (E p s g H _ I h) λv r ⟨x,q,G,z,B⟩=>?_;refine aP (D p r g q _ G B) λu o ζ=>?_;obtain⟨y,i,F,w,A⟩:=ζ;exact C v u o x y i F z w A
theorem JP{f:Operator}{r:R2}(o:b8 X (i_ f) r)(w:PE X a d)(p:PE X b l):PE X (.BinOp a f b e) (xC r d l):=by intro z s g H Q I h;exact wpAny_BinOp (BV w p I h λv u i x y B A n j q=>o z i g B x y v u Q A n j q)
theorem QJ{g:UnaryOp}{r:V->Hp->VK->Prop}(p:y9 X (unaryOp g) r)(q:PE X a d):PE X (.UnaryOp g a e) (Qu r d):=by intro i s f H Q I h;exact UnaryOp_ (aP (q i s f H _ I h) λv j ⟨x,w,u,n,o⟩=>p i j f w x v Q u n o)
theorem Bq{f:ai->ai->Sem ai}{C:Int->Int->Prop}{g:Int->Int->Int}(n:∀(i j:Int) (t u:Tok) (s:ao) (Q:ai->ao->Prop) (E:ai->ao->Prop),C i j->Q (.int (g i j) s.toks) {s with toks:=s.toks+1}->aq (au X.prog X.w) X.A (f (.int i t) (.int j u)) Q E s):b8 X f (rI C λi j=>.int (g i j)):=by intro A s z H x y v u Q I r p h;obtain⟨i,j,rfl,rfl,w,q⟩:=h;obtain⟨t,rfl⟩:=r;obtain⟨o,rfl⟩:=p;exact n i j t o s _ _ w ⟨.int (g i j),H,I.tok _,⟨_,rfl⟩,q⟩
theorem FZ{f:ai->ai->Sem ai}{g:Int->Int->Int}(n:∀(i j:Int) (t u:Tok) (s:ao) (Q:ai->ao->Prop) (E:ai->ao->Prop),Q (.int (g i j) s.toks) {s with toks:=s.toks+1}->aq (au X.prog X.w) X.A (f (.int i t) (.int j u)) Q E s):b8 X f (lX λi j=>.int (g i j)):=by intro z s w H x y v u Q I r p h;obtain⟨i,j,rfl,rfl,q⟩:=h;obtain⟨t,rfl⟩:=r;obtain⟨o,rfl⟩:=p;exact n i j t o s _ _ ⟨.int (g i j),H,I.tok _,⟨_,rfl⟩,q⟩
theorem Cg{f:ai->ai->Sem ai}{g:Int->Int->Bool}(n:∀(i j:Int) (t u:Tok) (s:ao) (Q:ai->ao->Prop) (E:ai->ao->Prop),Q (.bool (g i j)) s->aq (au X.prog X.w) X.A (f (.int i t) (.int j u)) Q E s):b8 X f (lX λi j=>.bl (g i j)):=by intro z s w H x y v u Q I r p h;obtain⟨i,j,rfl,rfl,q⟩:=h;obtain⟨t,rfl⟩:=r;obtain⟨o,rfl⟩:=p;exact n i j t o s _ _ ⟨.bl (g i j),H,I,rfl,q⟩
def Fl(i j:Int):Prop:=0<=j/\j<=1000000/\i.natAbs<2^64
def Bl(i j:Int):Prop:=(-(2^64)<i/\i<2^64)\/(-(2^64)<j/\j<2^64)
theorem Bl.ok{i j:Int}(h:Bl i j):IntMulOk i j:=by
 rcases h with⟨h1,h2⟩|⟨h1,h2⟩
 .exact .of_left (intBits_le_64 h1 h2)
 .exact .of_right (intBits_le_64 h1 h2)
theorem TD:b8 X (i_ .Add) (lX λi j=>.int (i+j)):=FZ λ_ _ _ _ _ _ _ q=>add_int q
theorem xm:b8 X (i_ .Sub) (lX λi j=>.int (i-j)):=FZ λ_ _ _ _ _ _ _ q=>sub_int q
theorem Tn:b8 X (i_ .Mult) (rI Bl λi j=>.int (i*j)):=Bq λ_ _ _ _ _ _ _ f q=>mul_int q f.ok
theorem rn:b8 X (i_ .Mod) (rI (λ_ j=>0<j) λi j=>.int (i % j)):=Bq λi j _ _ _ _ _ f q=>by have g:(0:Int)<j:=f;exact mod_int' ∅ (by rw[Int.fmod_eq_emod_of_nonneg i ∅];exact q)
theorem QK:b8 X (i_ .Pow) (rI Fl λi j=>.int (i^j.toNat)):=Bq λ_ _ _ _ _ _ _ f q=>pow_int_small f.1 f.2.1 f.2.2 q
theorem Km{f:ai->Sem ai}{g:Int->Int}(j:∀(i:Int) (t:Tok) (s:ao) (Q:ai->ao->Prop) (E:ai->ao->Prop),Q (.int (g i) s.toks) {s with toks:=s.toks+1}->aq (au X.prog X.w) X.A (f (.int i t)) Q E s):y9 X f (rU λi=>.int (g i)):=by intro p s o H x v Q I n h;obtain⟨i,rfl,q⟩:=h;obtain⟨t,rfl⟩:=n;exact j i t s _ _ ⟨.int (g i),H,I.tok _,⟨_,rfl⟩,q⟩
theorem rN:y9 X (unaryOp .USub) (rU λi=>.int (-i)):=Km λ_ _ _ _ _ q=>neg_int q
end
def pZ:V->V->Bool
 |.non,.non=>ah|.non,.int _=>ah|.int _,.non=>ah|.non,.bl _=>ah|.bl _,.non=>ah|.non,.str _=>ah|.str _,.non=>ah
 |.int _,.int _=>ah|.bl _,.bl _=>ah|.str _,.str _=>ah|.byt _,.byt _=>ah
 |.int _,.str _=>ah|.str _,.int _=>ah|.bl _,.str _=>ah|.str _,.bl _=>ah
 |_,_=>ak
def Gq:R2:=λx y H Q=>pZ x y=ah/\Q (.bl (decide (x=y))) H
def Fu:R2:=λx y H Q=>pZ x y=ah/\Q (.bl (!decide (x=y))) H
theorem F9{i j:Int}:decide (V.int i=V.int j)=(i == j):=by rw[jv];simp
theorem FC{i j:Bool}:decide (V.bl i=V.bl j)=(i == j):=by rw[jv];simp
theorem EZ{i j:Str}:decide (V.str i=V.str j)=(i == j):=by rw[jv];simp
theorem Ih{i j:Array UInt8}:decide (V.byt i=V.byt j)=(i.toList == j.toList):=by
 rw[jv];cases i;cases j;simp
section
variable{X:Cx}{a b c:aA}{l g o:TE}{m:Pos}
theorem dv{h:List (af×Obj)}{d:St}{H:Hp}{s:ao}{Q:VK}{k f:Bool}(I:Inv X h d H s)(q:Q (.bl k) H)(e:k=f):EP X h d Q (.bool f) s:=by subst e;exact⟨.bl k,H,I,rfl,q⟩
theorem Tw:b8 X (dZ .Eq) Gq:=by
 intro r s p H x y v u Q I n d h;obtain⟨f,q⟩:=h;cases x with
 |non=>
  cases n;cases y with
  |non=>cases d;exact PySem.EqNone.eq_none_none (dv I q (by simp))
  |bl j=>cases d;exact PySem.EqNone.eq_none_bool (dv I q (by simp))
  |int j=>obtain⟨e,rfl⟩:=d;exact PySem.EqNone.eq_none_int (dv I q (by simp))
  |str j=>obtain⟨e,rfl⟩:=d;exact PySem.EqNone.eq_none_str (dv I q (by simp))
  |_=>exact absurd (show ak=ah from f) eG
 |bl i=>
  cases n;cases y with
  |non=>cases d;exact PySem.EqNone.eq_bool_none (dv I q (by simp))
  |bl j=>cases d;exact eq_bool (dv I q FC)
  |str j=>obtain⟨e,rfl⟩:=d;exact PySem.EqMixed.eq_bool_str (dv I q (by simp))
  |_=>exact absurd (show ak=ah from f) eG
 |int i=>
  obtain⟨t,rfl⟩:=n;cases y with
  |non=>cases d;exact PySem.EqNone.eq_int_none (dv I q (by simp))
  |int j=>obtain⟨e,rfl⟩:=d;exact eq_int (dv I q F9)
  |str j=>obtain⟨e,rfl⟩:=d;exact PySem.EqMixed.eq_int_str (dv I q (by simp))
  |_=>exact absurd (show ak=ah from f) eG
 |str i=>
  obtain⟨t,rfl⟩:=n;cases y with
  |non=>cases d;exact PySem.EqNone.eq_str_none (dv I q (by simp))
  |bl j=>cases d;exact PySem.EqMixed.eq_str_bool (dv I q (by simp))
  |int j=>obtain⟨e,rfl⟩:=d;exact PySem.EqMixed.eq_str_int (dv I q (by simp))
  |str j=>obtain⟨e,rfl⟩:=d;exact eq_str (dv I q EZ)
  |_=>exact absurd (show ak=ah from f) eG
 |byt i=>
  obtain⟨t,rfl⟩:=n;cases y with
  |byt j=>obtain⟨e,rfl⟩:=d;exact PySem.W.eq_bytes (dv I q Ih)
  |_=>exact absurd (show ak=ah from f) eG
 |_=>cases y <;> exact absurd (show ak=ah from f) eG
theorem TR:b8 X (dZ .NotEq) Fu:=by
 intro r s p H x y v u Q I n d h;obtain⟨f,q⟩:=h;cases x with
 |non=>
  cases n;cases y with
  |non=>cases d;exact PySem.EqNone.ne_none_none (dv I q (by simp))
  |bl j=>cases d;exact PySem.EqNone.ne_none_bool (dv I q (by simp))
  |int j=>obtain⟨e,rfl⟩:=d;exact PySem.EqNone.ne_none_int (dv I q (by simp))
  |str j=>obtain⟨e,rfl⟩:=d;exact PySem.EqNone.ne_none_str (dv I q (by simp))
  |_=>exact absurd (show ak=ah from f) eG
 |bl i=>
  cases n;cases y with
  |non=>cases d;exact PySem.EqNone.ne_bool_none (dv I q (by simp))
  |bl j=>cases d;exact ne_bool (dv I q (congrArg not FC))
  |str j=>obtain⟨e,rfl⟩:=d;exact PySem.EqMixed.ne_bool_str (dv I q (by simp))
  |_=>exact absurd (show ak=ah from f) eG
 |int i=>
  obtain⟨t,rfl⟩:=n;cases y with
  |non=>cases d;exact PySem.EqNone.ne_int_none (dv I q (by simp))
  |int j=>obtain⟨e,rfl⟩:=d;exact ne_int (dv I q (congrArg not F9))
  |str j=>obtain⟨e,rfl⟩:=d;exact PySem.EqMixed.ne_int_str (dv I q (by simp))
  |_=>exact absurd (show ak=ah from f) eG
 |str i=>
  obtain⟨t,rfl⟩:=n;cases y with
  |non=>cases d;exact PySem.EqNone.ne_str_none (dv I q (by simp))
  |bl j=>cases d;exact PySem.EqMixed.ne_str_bool (dv I q (by simp))
  |int j=>obtain⟨e,rfl⟩:=d;exact PySem.EqMixed.ne_str_int (dv I q (by simp))
  |str j=>obtain⟨e,rfl⟩:=d;exact ne_str (dv I q (congrArg not EZ))
  |_=>exact absurd (show ak=ah from f) eG
 |byt i=>
  obtain⟨t,rfl⟩:=n;cases y with
  |byt j=>obtain⟨e,rfl⟩:=d;exact PySem.W.ne_bytes (dv I q (congrArg not Ih))
  |_=>exact absurd (show ak=ah from f) eG
 |_=>cases y <;> exact absurd (show ak=ah from f) eG
theorem BN:b8 X (dZ .Lt) (lX λi j=>.bl (decide (i<j))):=Cg λ_ _ _ _ _ _ _ q=>lt_int q
theorem pe:b8 X (dZ .LtE) (lX λi j=>.bl (decide (i<=j))):=Cg λ_ _ _ _ _ _ _ q=>le_int q
theorem AI:b8 X (dZ .Gt) (lX λi j=>.bl (decide (j<i))):=Cg λ_ _ _ _ _ _ _ q=>gt_int q
theorem Tr:b8 X (dZ .In) (λx y H Q=>∃i j,x=.str i/\y=.str j/\Q (.bl (!(Iz j i 0 j.length 1).isEmpty)) H):=by intro p s f H x y v u Q I e d h;obtain⟨i,j,rfl,rfl,q⟩:=h;obtain⟨t,rfl⟩:=e;obtain⟨n,rfl⟩:=d;exact in_str (dv I q rfl)
theorem JS:b8 X (dZ .Is) (λx y H Q=>y=.non/\Q (.bl (decide (x=.non))) H):=by
 intro i s f H x y v u Q I d e h;obtain⟨rfl,q⟩:=h;cases e;refine is_none_gen (dv I q ?_);cases x <;> first
  | (cases d;rfl)
  | (obtain⟨t,rfl⟩:=d;rfl)
theorem b8.or{f:ai->ai->Sem ai}{r j:R2}(h:b8 X f r)(p:b8 X f j):b8 X f (λx y H Q=>r x y H Q\/j x y H Q):=by
 intro n s d H x y v u Q I i e q;rcases q with q|q
 .exact h n s d H x y v u Q I i e q
 .exact p n s d H x y v u Q I i e q
theorem Qr{d:CmpOp}{r:R2}(n:b8 X (dZ d) r)(z:PE X a l)(w:PE X b g)(p:ql d b=ak):PE X (.Compare a [d] [b] m) (xC r l g):=by intro A s e H Q I h;exact wpAny_Compare1 (BV z w I h λv u f x y C B j i q=>n A f e C x y v u Q B j i q) p
def FH(t:TE):TT:=λd H Q=>t d H λx e=>∃k,x=.bl k/\Q k e
theorem MP{f:CmpOp}{r:R2}(D:b8 X (dZ f) r)(G:PE X a l)(F:PE X b g)(E:ql f b=ak):PT X (.Compare a [f] [b] m) (FH (xC r l g)):=by
 intro i s d H Q I h;refine wpAny_isTrue_Compare1 (aP (G i s d H _ I h) λv n ⟨x,O,L,w,C⟩=>aP (F i n d O _ L C) λu j ⟨y,N,K,q,B⟩=>aP (D i j d N x y v u _ K w q B) λc P ⟨z,M,J,p,k,e,A⟩=>?_) E;subst e;cases p;exact oF ⟨M,J,A⟩
def Am(r h:R2)(l g o:TE):TE:=λd H Q=>l d H λx n=>g d n λy j=>r x y j λz e=>∃k,z=.bl k /\
 (if k=ah then o d e λf i=>h y f i Q else Q (.bl ak) e)
theorem Pd{n f:CmpOp}{r q:R2}(S:b8 X (dZ n) r)(fH:b8 X (dZ f) q)(Z:PE X a l)(Y:PE X b g)(W:PE X c o)(T:lastMarks [n,f] [b,c]=ak:=by with_unfolding_all rfl):PE X (.Compare a [n,f] [b,c] m) (Am r q l g o):=by
 intro j s i H Q I h;refine Compare_chain (aP (Z j s i H _ I h) λv J ⟨x,H1,I1,M,P⟩=>chain_link (aP (Y j J i H1 _ I1 P) λu G ⟨y,H2,I2,p,O⟩=>aP (S j G i H2 x y v u _ I2 M p O) λd F ⟨z,B,A,L,k,e,w⟩=>?_)) T;subst e;cases L;refine oF ?_;cases k with
 |false=>exact ite_ff ⟨.bl ak,B,A,rfl,w⟩
 |true=>exact ite_tt (chain_last (aP (W j F i B _ A w) λD E ⟨C,H4,I4,K,N⟩=>fH j E i H4 y C u D Q I4 p K N))
theorem PP{n f:CmpOp}{r q:R2}(Y:b8 X (dZ n) r)(fH:b8 X (dZ f) q)(ha:PE X a l)(hb:PE X b g)(hc:PE X c o)(Z:lastMarks [n,f] [b,c]=ak:=by with_unfolding_all rfl):PT X (.Compare a [n,f] [b,c] m) (FH (Am r q l g o)):=by
 intro j s i H Q I h;refine isTrue_chain (aP (ha j s i H _ I h) λv J ⟨x,H1,I1,N,T⟩=>test_link (aP (hb j J i H1 _ I1 T) λu G ⟨y,H2,I2,p,S⟩=>aP (Y j G i H2 x y v u _ I2 N p S) λd F ⟨z,B,A,M,k,e,w⟩=>?_)) Z;subst e;cases M;refine oF ?_;cases k with
 |false=>
  obtain⟨k',e',W⟩:=w;cases e';exact ite_ff ⟨B,A,W⟩
 |true=>
  refine ite_tt (test_last (aP (hc j F i B _ A w) λD E ⟨C,H4,I4,L,P⟩=>aP (fH j E i H4 y C u D _ I4 p L P) λd' s5 ζ=>?_));obtain⟨z2,H5,I5,K,k2,e2,O⟩:=ζ;subst e2;cases K;exact oF ⟨H5,I5,O⟩
theorem uO:(bg:Nat)<2^63:=by rw[sU];decide
theorem Mh:b8 X (i_ .Add) (λx y H Q=>∃i j,x=.str i/\y=.str j/\i.length+j.length<=bg/\Q (.str (i++j)) H):=by intro w s p H x y v u Q I f e h;obtain⟨i,j,rfl,rfl,n,q⟩:=h;obtain⟨t,rfl⟩:=f;obtain⟨d,rfl⟩:=e;exact add_str (λd r=>⟨.str (i++j),H,I.tok _,⟨_,rfl⟩,q⟩) n
theorem vals1{x:V}{d:List ai}(r:bA [x] d):∃u,d=[u]/\RelV x u:=by
 cases r with
 |cons f e=>cases e;exact⟨_,rfl,f⟩
theorem vals2{x y:V}{e:List ai}(r:bA [x,y] e):∃u d,e=[u,d]/\RelV x u/\RelV y d:=by
 cases r with
 |cons j i=>
  cases i with
  |cons h f=>cases f;exact⟨_,_,rfl,j,h⟩
def EV(K:ay)(x:V)(H:Hp)(n:Nat):Prop :=
 match x with
 |.str y=>y.length<=bg/\n=y.length
 |.byt y=>y.size<=bg/\n=y.size
 |.ref p=>(∃d,cz K H p d/\n=d.length)\/∃d,cp K H p d/\n=d.length
 |_=>False
theorem iU:gg X (.builtin "len") (λd H Q=>∃x n,d=[x]/\EV X.K x H n/\Q (.int n) H):=by
 intro G s C H d D Q I r h;obtain⟨x,n,rfl,e,q⟩:=h;obtain⟨u,rfl,i⟩:=vals1 r;have F:=uO;have E:bg=16777216:=sU;cases x with
 |str y=>obtain⟨t,rfl⟩:=i;obtain⟨B,f⟩:y.length<=bg/\n=y.length:=e;subst f;exact len_str ∅ ⟨.int _,H,I.tok _,⟨_,rfl⟩,q⟩
 |byt y=>obtain⟨t,rfl⟩:=i;obtain⟨B,f⟩:y.size<=bg/\n=y.size:=e;subst f;exact PySem.W.len_bytes ∅ ⟨.int _,H,I.tok _,⟨_,rfl⟩,q⟩
 |ref p=>
  cases i;have f:(∃d,cz X.K H p d/\n=d.length)\/∃d,cp X.K H p d/\n=d.length:=e;rcases f with⟨d,hx,f⟩|⟨d,hx,f⟩
  .subst f;obtain⟨w,j,v,A⟩:=I.list hx;have z:=j.length;exact Calls.call_len_list v.isList (by simp only[cX];lia) ⟨.int d.length,H,I.tok _,⟨_,by simp only[cX];rw[z]⟩,q⟩
  .subst f;obtain⟨w,j,v,A⟩:=I.tuple hx;have z:=j.length;exact len_tuple v (by simp only[cX];lia) ⟨.int d.length,H,I.tok _,⟨_,by simp only[cX];rw[z]⟩,q⟩
 |_=>exact(show False from e).elim
end
structure Ib(h:aB)(x dx C:af)(mA:Str->Option ai):Prop where
 obj:h.get? x=aa (PySem.W.instObj C dx)
 ns:h.Ns1 dx mA
 ne:dx≠x
theorem Qf{h:aB}{g:af}{d:Str->Option ai}(n:h.Ns1 g d):∃c,h.get? g=aa c/\∀b,PySem.W.lookIn b c=aa (d b):=by
 obtain⟨o,f,u,l,r,p,_,m⟩:=n;refine⟨o,l,λb=>?_⟩;have e:=m b;unfold nsFind findBy at e;rw[<-Array.find?_toList]at e;unfold PySem.W.lookIn;rw[r];dsimp only;split
 .rename_i y q;rw[q]at e;exact congrArg aa e
 .rename_i q;rw[q]at e;have a:f.toList.any (·.refKey)=ak:=by rw[List.any_eq_false];intro y j;obtain⟨z,t,i⟩:=p y (Array.mem_toList_iff.mp j);simp[DictEntry.refKey,i]
  have s:¬f.toList.any (·.refKey)=ah:=by rw[a];exact eG
  rw[if_neg s];exact congrArg aa e
theorem Ib.look{h:aB}{x d C:af}{c:Str->Option ai}(I:Ib h x d C c):∃b,PySem.W.InstAt h x (PySem.W.instObj C d) C (aa b)/\∀a,PySem.W.lookIn a b=aa (c a) :=
 let ⟨b,ho,hl⟩:=Qf I.ns
 ⟨b,⟨I.obj,rfl,rfl,ho⟩,hl⟩
theorem oC.some_of{v:V}{o:Option ai}(r:oC (aa v) o):∃u,o=aa u/\RelV v u:=by
 cases o with
 |none=>exact(show False from r).elim
 |some u=>exact⟨u,rfl,r⟩
section
variable{P:aQ}{w:aI}{H i:Hp}{h g:aB}{a C b:af}{fs c:List (Str×V)}
theorem N8(l:dw P w H h)(e:H a=aa (.ins C b fs)):∃j,Ib h a b C j/\(∀f,oC (fs.lookup f) (j f))/\PySem.Within j (fs.map (·.1))/\fs.length<=1000/\H b=aa (.own a):=by
 obtain⟨d,z,o,m,j,n,r,q⟩:=(show cc P w H h a (.ins C b fs)from l a _ e)
 exact⟨j,⟨m,n,o⟩,r,q,z,d⟩
end
structure Gn(K:ay)(C:af):Prop where
 pg:PySem.W.plainGet K C zb=ah
 hd:PySem.W.hasDictIn K C=ah
 po:PySem.W.plainOver K C=ah
 sa:zc K (.ref C) "__setattr__"=aa (aa (.builtin "object.__setattr__"))
theorem Gn.get{K:ay}{C:af}(c:Gn K C)(f:Str):PySem.W.plainGet K C f=ah:=c.pg
section
variable{X:Cx}{f:List (af×Obj)}{d:St}{H:Hp}{s:ao}{A:aX}{E:ai->ao->Prop}{Q:ai->ao->Prop}{c:ai}{b:Bool}
inductive jt(K:ay)(H:Hp):V->ai->Prop where
 |non:jt K H .non (.type "NoneType")
 |bl (x:Bool):jt K H (.bl x) (.type "bool")
 |int (i:Int):jt K H (.int i) (.type "int")
 |str (x:Str):jt K H (.str x) (.type "str")
 |flt (x:UInt64):jt K H (.flt x) (.type "float")
 |lst {a:af}{xs:List V} (e:H a=aa (.lst xs)):jt K H (.ref a) (.type "list")
 |frz {a:af}{o:Obj}{xs:List V} (e:H a=aa (.frz o (.lst xs))):jt K H (.ref a) (.type "list")
 |tup {a:af}{xs:List V} (e:H a=aa (.tup xs)):jt K H (.ref a) (.type "tuple")
 |dK {a:af}{kvs:List (aF×V)} (e:H a=aa (.dK kvs)):jt K H (.ref a) (.type "dict")
 |dT {a:af}{kvs:List (List aF×V)} (e:H a=aa (.dT kvs)):jt K H (.ref a) (.type "dict")
 |ins {a C dx:af}{fs:List (Str×V)} (e:H a=aa (.ins C dx fs)) (cl:Gn K C) (ha:zc K (.ref C) "__class__"=aa (aa (.builtin "object.__class__")))
   (hn:PySem.W.specialIn K (.builtin "object.__class__") "__get__"=aa (aa (.builtin "getset_descriptor.__get__"))) (qM:PySem.W.takesIn K (.builtin "object.__class__")=aa ah)
   (hm:PySem.W.mroIn K C (.type "object")=aa ah):jt K H (.ref a) (.ref C)
theorem MU{x:V}{u t:ai}(I:Inv X f d H s)(g:RelV x u)(ty:jt X.K H x t)(e:jM X.K t c=aa b)(h:∀r,Q (.bool b) {s with toks:=r}):aq (au X.prog X.w) A (call (.builtin "isinstance") [u,c]) Q E s:=by
 cases ty with
 |non=>cases (show u=Value.none from g);exact mj PySem.W.kitx_none I.kIn True.intro e (λz=>nomatch z) h
 |bl y=>cases (show u=Value.bool y from g);exact mj PySem.W.kitx_bool I.kIn True.intro e (λz=>nomatch z) h
 |int i=>obtain⟨t,q⟩:=(show ∃t,u=Value.int i t from g);cases q;exact mj PySem.W.kitx_int I.kIn True.intro e (λz=>nomatch z) h
 |str y=>obtain⟨t,q⟩:=(show ∃t,u=Value.str y t from g);cases q;exact mj PySem.W.kitx_str I.kIn True.intro e (λz=>nomatch z) h
 |flt y=>obtain⟨t,q⟩:=(show ∃t,u=Value.float y t from g);cases q;exact mj PySem.W.kitx_float I.kIn True.intro e (λz=>nomatch z) h
 |@lst a l ea=>
  cases (show u=Value.ref a from g);obtain⟨_,_,n,_,j⟩:=(show cc X.prog X.w H s.heap a (.lst l)from I.hok a _ ea)
  exact mj PySem.W.kitx_list I.kIn ⟨_,j,rfl⟩ e (λz=>nomatch z) h
 |@frz a ob l ea=>
  cases (show u=Value.ref a from g);obtain⟨_,_,_,n,_,j⟩:=(show cc X.prog X.w H s.heap a (.frz ob (.lst l))from I.hok a _ ea)
  exact mj PySem.W.kitx_list I.kIn ⟨_,j,rfl⟩ e (λz=>nomatch z) h
 |@tup a l ea=>
  cases (show u=Value.ref a from g);obtain⟨_,_,_,p,_⟩:=(show cc X.prog X.w H s.heap a (.tup l)from I.hok a _ ea)
  obtain⟨o,j,m,_⟩:=p;exact mj PySem.W.kitx_tuple I.kIn ⟨o,j,m⟩ e (λz=>nomatch z) h
 |@dK a kvs ea=>
  cases (show u=Value.ref a from g);obtain⟨_,_,B,_,p⟩:=(show cc X.prog X.w H s.heap a (.dK kvs)from I.hok a _ ea)
  obtain⟨o,v,w,j,m,_⟩:=p;exact mj PySem.W.kitx_dict I.kIn ⟨o,j,m.1⟩ e (λz=>nomatch z) h
 |@dT a kvs ea=>
  cases (show u=Value.ref a from g);obtain⟨_,_,l,_,o,v,w,j,m,_⟩:=(show cc X.prog X.w H s.heap a (.dT kvs)from I.hok a _ ea)
  exact mj PySem.W.kitx_dict I.kIn ⟨o,j,m.1⟩ e (λz=>nomatch z) h
 |@ins a C dx fs ea cl ha hn qM hm=>
  cases (show u=Value.ref a from g);obtain⟨F,O,_⟩:=N8 I.hok ea;obtain⟨D,J,_⟩:=O.look;exact mj (PySem.W.kitx_own (cl.get _) cl.hd ha hn qM hm) I.kIn J e (λz=>nomatch z) h
end
structure g7(k:Nat)(A:aX):Prop where
 hd:A.handled=ae
 dp:A.depth+3*k+5<recursionLimit
 un:A.units+16*k+200<cLine
theorem g7.mono{j k:Nat}{A:aX}(r:g7 k A)(h:j<=k):g7 j A:=⟨r.hd,by have:=r.dp;lia,by have:=r.un;lia⟩
theorem g7.deeper{k:Nat}{A:aX}(r:g7 (k+1) A)(a:Env):g7 k (A.deeper a) :=⟨r.hd,by have:=r.dp;show A.depth+1+3*k+5<_;lia,by have:=r.un;show A.units+3+16*k+200<_;lia⟩
theorem g7.depth{k:Nat}{A:aX}(r:g7 k A):A.depth<recursionLimit:=by have:=r.dp;lia
theorem g7.units{k:Nat}{A:aX}(r:g7 k A):A.units+64<cLine:=by have:=r.un;lia
def MF:TA:=λ_ H Q=>Q [] H
def Mm(d:TE)(c:TA):TA:=λa H Q=>d a H λx f=>c a f λb e=>Q (x::b) e
section
variable{X:Cx}{e:aA}{es:List aA}{c:TE}{t:TA}{a:Pos}
theorem kA:PA X [] MF:=λ_ _ _ _ H Q I h=>IA ⟨[],H,I,.nil,h⟩
theorem j7(p:PE X e c)(o:PA X es t)(n:a9 (e::es) X.env=(ak,bh e X.env)::a9 es X.env:=by rfl):PA X (e::es) (Mm c t):=by intro a d s b H Q I h;rw[n];show aq _ _ (spliced ((ak,bh e X.env)::ef a (a9 es X.env))) _ _ s;refine Co (aP (p d s b H _ I h) λu g ζ=>?_);obtain⟨x,w,r,j,m⟩:=ζ;exact aP (o a d g b w _ r m) λy z ⟨f,v,q,i,l⟩=>⟨x::f,v,q,.cons j i,l⟩
def Oi(t:TA):TE:=λf H Q=>t f H λb d=>b.length<=bg/\∀p,d p=ae->Q (.ref p) (upd d p (.tup b))
def Kx(t:TA):TE:=λf H Q=>t f H λb d=>b.length<=bg/\∀p,d p=ae->Q (.ref p) (upd d p (.lst b))
theorem LA{x1}(h:PA X es t):PE X (.Tuple es x1 a) (Oi t):=by intro o s i H Q I m;refine wpAny_Tuple_spliced (aP (h a o s i H _ I m) λl d ⟨j,g,f,r,z,q⟩=>⟨by rw[<-r.length];exact z,?_⟩);have n:g d.heap.objs.size=ae:=f.hok.fresh (aZ _);refine⟨.ref d.heap.objs.size,upd g d.heap.objs.size (.tup j),f.laid (t':=d.toks) (λb u e=>bH _ e) (aZ _) ?_,rfl,q _ n⟩;exact⟨z,l,r,⟨⟨_,cW _ rfl,rfl,_,rfl⟩,_,cW _ rfl,rfl⟩⟩
theorem Ry(h:PA X es t):PE X (.List es a) (Kx t):=by intro o s i H Q I m;refine wpAny_List_spliced (aP (h a o s i H _ I m) λl d ⟨j,g,f,r,z,q⟩=>⟨by rw[<-r.length];exact z,?_⟩);have n:g d.heap.objs.size=ae:=f.hok.fresh (aZ _);refine⟨.ref d.heap.objs.size,upd g d.heap.objs.size (.lst j),f.laid (t':=d.toks) (λb u e=>bH _ e) (aZ _) ?_,rfl,q _ n⟩;exact⟨z,l,0,r,cW _ rfl⟩
end
abbrev Sp:=List V->Hp->VK->XK->Prop
abbrev ip:=List Env->Hp->ao->XK->ai->ao->Prop
structure xO(P:aQ)(w:aI)(K:ay)(mg:Str->Option ai)(base:aB)(A:aX)(outer:List Env)(s:ao)(H:Hp):Prop where
 frames:A.frames=aa outer
 mod:Mod K mg base
 bs:∀b o,base.get? b=aa o->s.heap.get? b=aa o/\H b=ae
 bsz:base.objs.size<=s.heap.objs.size
 funs:s.heap.FunFrames base outer
 frf:∀b∈gi outer,H b=ae
 hok:dw P w H s.heap
 bare:m8 s.gens
 tab:xi K H
def CE(a:List Env)(P:aQ)(w:aI)(H:Hp)(s:ao)(Q:VK)(u:ai)(b:ao):Prop :=
 ∃v c,b.os=s.os/\m8 b.gens/\Un (gi a) [] H c s.heap b.heap/\dw P w c b.heap/\RelV v u/\Q v c
def CR(c:ip)(a:List Env)(P:aQ)(w:aI)(H:Hp)(s:ao)(Q:VK)(E:XK)(r:Result)(b:ao):Prop :=
 match r with
 |.ok (.ret u)=>CE a P w H s Q u b
 |.ok _=>False
 |.error e=>c a H s E e b
structure lg(P:aQ)(w:aI)(K:ay)(mg:Str->Option ai)(base:aB)(CX:ip)(k:Nat)(f:af)(fd:ja)(ps:List Str)(sp:Sp):Prop where
 len:∀vs H Q E,sp vs H Q E->vs.length=ps.length
 run:∀(A:aX) (outer:List Env) (s:ao) (H:Hp) (args:Args) (us:List ai) (vs:List V) (Q:VK) (E:XK),g7 k A->xO P w K mg base A outer s H->BindsTo s fd args (ps.zip us)->bA vs us->sp vs H Q E ->
  qo (au P w) A (.call (.ref f) args) (CR CX outer P w H s Q E) s
section
variable{X:Cx}{e:List (af×Obj)}{a:St}{H:Hp}{s c:ao}
theorem Inv.env0(I:Inv X e a H s):xO X.prog X.w X.K X.mg X.base X.A X.stack s H :=⟨I.ok.frames,I.ok.mod,I.bs,c0 I.ok.bsz I.sz,I.stack,I.stkFree,I.hok,I.bare,I.tab⟩
theorem Inv.after{Q:VK}{u:ai}(I:Inv X e a H s)(h:CE X.stack X.prog X.w H s Q u c):EP X e a Q u c:=by obtain⟨v,n,l,f,un,j,r,q⟩:=h;obtain⟨m,g,d,t,i⟩:=c;obtain rfl:i=s.os:=l;exact⟨v,n,I.call (h':=m) (g':=g) (d':=d) (t':=t) (ch:=[]) un j f (λb z=>absurd z (by simp)),r,q⟩
end
def LU(d:Sp)(a:List V)(E:XK)(t:TA):TE:=λb H Q=>t b H λc e=>d (c++a) e Q E
def Binds(K:ay)(d:ja)(b:List Str)(c:List ai):Prop :=
 ∀(s:ao) (a:List ai),K.In s.heap->(a++c).length=b.length->BindsTo s d ⟨a,[]⟩ (b.zip (a++c))
theorem Binds.all{K:ay}{d:ja}{b:List Str}(h:∀a:List ai,a.length=b.length->hZ d ⟨a,[]⟩=pure (b.zip a)):Binds K d b []:=λs a _ c=>by rw[jb]at c ⊢;exact .of_eq (h a c)
def u9(c:ip)(X:Cx)(E:XK):Prop:=∀(b:List (af×Obj)) (a:St) (H:Hp) (s:ao) (e:ai) (s':ao),Inv X b a H s->c X.stack H s E e s'->X.xe e s'
section
variable{X:Cx}{l:ip}{k:Nat}{f C:af}{j:ja}{d:List Str}{i:Sp}{a:List V}{c:List ai}{E:XK}{x m:Str}{p b n:Pos}{e o:aA}{g:List aA}{v:TE}{t:TA}
theorem SK{A:List (af×Obj)}{z:St}{H:Hp}{s:ao}{Q:VK}{q:List ai}{y:List V}(F:lg X.prog X.w X.K X.mg X.base l k f j d i)(J:g7 k X.A)(M:Binds X.K j d c)(L:bA a c)(G:u9 l X E)(I:Inv X A z H s) (r:bA y q) (h:i (y++a) H Q E):aq (au X.prog X.w) X.A (call (.ref f) q) (EP X A z Q) X.xe s:=by
 have B:bA (y++a) (q++c):=r.append L;have K:(q++c).length=d.length:=by rw[<-B.length];exact F.len _ _ _ _ h
 refine wpAny_call (zd (F.run X.A X.stack s H ⟨q,[]⟩ (q++c) (y++a) Q E J I.env0 (M s q I.kIn K) B h) λr D w=>?_);cases r with
 |error e=>exact G A z H s e D I w
 |ok N=>
  cases N with
  |ret u=>exact I.after w
  |next=>exact ml w
  |brk=>exact ml w
  |cont=>exact ml w
theorem L4(F:lg X.prog X.w X.K X.mg X.base l k f j d i)(A:g7 k X.A)(G:Gl X x)(B:X.mg x=aa (.ref f))(D:vM X.K (.ref f)=ah)(L:Binds X.K j d c)(K:bA a c)(z:u9 l X E)(M:PA X (e::g) t) (y:(x==("__debug__":Str))=ak:=by decide) (J:a9 (e::g) X.env=(ak,bh e X.env)::a9 g X.env:=by rfl) (N:(ef b (a9 g X.env)).any (·.1)=ak:=by rfl):PE X (.Call (.Name x p) (e::g) [] b) (LU i a E t):=by intro O s w H Q I h;refine IB (B9 I G B ?_ y);refine PySem.W.callWith_K (h₀:=X.base) I.ok.mod.kin D (aP (M b O s w H _ I h) λS T ⟨P,W,u,r,q⟩=>⟨u.kIn,?_⟩) J N;exact SK F A L K z u r q
end
structure cJ(N P:List Str)(sc:eF):Prop where
 kind:sc.kind=.function
 co:sc.isCoroutine=ak
 gen:sc.isGenerator=ak
 nd:N.Nodup
 pre:N.take P.length=P
 par:∀x∈P,sc.names.lookup x=aa .local\/sc.names.lookup x=aa .cell
 nofree:∀y∈sc.names,y.2≠.free
theorem Gu{a:Str->Option gL}{x:Str}:∀{binds:List (Str×ai)}{m:Str->Option ai},(∀v,(x,v)∉binds)->bindL a binds m x=m x
 |[],_,_=>rfl
 | (n,v)::r,m,h=>by
  unfold bindL;rw[Gu λw b=>h w (fj _ b)];split
  .have:x≠n:=by rintro rfl;exact h v f8
   simp[this]
  .rfl
theorem Ii{a:Str->Option gL}{x:Str}:∀{binds:List (Str×ai)}{m:Str->Option ai},(∀v,(x,v)∉binds)->bindC a binds m x=m x
 |[],_,_=>rfl
 | (n,v)::r,m,h=>by
  unfold bindC;rw[Ii λw b=>h w (fj _ b)];split
  .rfl
  .have:x≠n:=by rintro rfl;exact h v f8
   simp[this]
theorem ET{a:Str->Option gL}{x:Str}{v:ai}:∀{P:List Str}{b:List ai}{i:Nat}{m:Str->Option ai},P.Nodup->P[i]?=aa x->b[i]?=aa v->a x=aa .local -> bindL a (P.zip b) m x=aa v
 |[],_,_,_,_,h,_,_=>by simp at h
 |_::_,[],_,_,_,_,h,_=>by simp at h
 |p::P,w::b,0,m,nd,h1,h2,hk=>by simp at h1 h2;subst h1;subst h2;show bindL a ((p,w)::P.zip b) m p=_;unfold bindL;rw[Gu λv c=>(kf.mp nd).1 (ze c).1,if_pos hk];simp
 |p::P,w::b,i+1,m,nd,h1,h2,hk=>by show bindL a ((p,w)::P.zip b) m x=_;unfold bindL;exact ET (i:=i) (kf.mp nd).2 (by simpa using h1) (by simpa using h2) hk
theorem HY{a:Str->Option gL}{x:Str}{v:ai}:∀{P:List Str}{b:List ai}{i:Nat}{m:Str->Option ai},P.Nodup->P[i]?=aa x->b[i]?=aa v->a x≠aa .local -> bindC a (P.zip b) m x=aa v
 |[],_,_,_,_,h,_,_=>by simp at h
 |_::_,[],_,_,_,_,h,_=>by simp at h
 |p::P,w::b,0,m,nd,h1,h2,hk=>by simp at h1 h2;subst h1;subst h2;show bindC a ((p,w)::P.zip b) m p=_;unfold bindC;rw[Ii λv c=>(kf.mp nd).1 (ze c).1,if_neg hk];simp
 |p::P,w::b,i+1,m,nd,h1,h2,hk=>by show bindC a ((p,w)::P.zip b) m x=_;unfold bindC;exact HY (i:=i) (kf.mp nd).2 (by simpa using h1) (by simpa using h2) hk
def start(N:List Str)(a:List V):St:=a.map aa++dO (N.length-a.length) ae
def j3(g:ip)(P:aQ)(w:aI)(K:ay)(mg:Str->Option ai)(base:aB)(N:List Str)(b:Str)(a:eF)(f:af)(d:ai)(A:aX)(outer:List Env)(s:ao)(H:Hp)(E:XK):Cx where
 prog:=P
 w:=w
 K:=K
 mg:=mg
 base:=base
 A:=A.deeper (kL b a s.heap.objs.size f d)
 N:=N
 s₀:=s
 H₀:=H
 env:=kL b a s.heap.objs.size f d
 outer:=outer
 stack:=kL b a s.heap.objs.size f d::outer
 ex:=[]
 calm:=ah
 fn:=λ_=>ah
 pn:=[]
 xe:=λe s'=>aq (au P w) (A.deeper (kL b a s.heap.objs.size f d)) (leaving (kL b a s.heap.objs.size f d) e) (λ_ c=>g outer H s E e c) (λh c=>g outer H s E h c) s'
theorem EI{a:eF}{n:Nat}{x:Str}(h:a.names.lookup x=aa .cell):∃c,(f_ n a.names []).lookup x=aa c:=by have q:=PySem.W.cellsFrom_some a.names n [] (.inl h);exact Option.isSome_iff_exists.mp q
theorem NT{Y:ip}{P:aQ}{w:aI}{K:ay}{Q:Str->Option ai}{o:aB}{N C:List Str}{j:Str}{d:eF}{f:af}{M:ai}{A:aX}{g:List Env}{s T:ao}{H:Hp}{E:XK}{O:List ai}{B:List V}(S:cJ N C d) (hd:A.handled=ae) (m:xO P w K Q o A g s H) (hl:B.length=C.length) (r:bA B O)(x:InCallC s s.heap.objs.size (bindL (kL j d s.heap.objs.size f M).kindOf (C.zip O) λ_=>ae) (f_ (s.heap.objs.size+1) d.names []) (bindC (kL j d s.heap.objs.size f M).kindOf (C.zip O) λ_=>ae) T):Inv (j3 Y P w K Q o N j d f M A g s H E) [] (start N B) H T:=by
 have dH:C.length<=N.length:=by have:=congrArg ng S.pre;rw[nh]at this;lia
 obtain⟨L,tk,rfl,X⟩:=x.done;have D:∀b:af,b∉(j3 Y P w K Q o N j d f M A g s H E).ex:=λb z=>absurd (show b∈([]:List af)from z) (by simp);refine⟨⟨m.mod,S.kind,rfl,rfl,aZ _,λy z c L l=>?_,λy F=>?_,λy c _ h=>?_,λ_=>hd,Around.frames_deeper m.frames,.inr ⟨rfl,rfl⟩,λb z=>absurd z (D b),m.bs,m.bsz,λb _ _=>D b,λb z=>absurd z (D b),m.funs,m.frf,m.tab⟩,rfl,m.bare,Un.kept X,⟨_,x.toInCall.ns,λi y v L l h3=>?_⟩,λy c h=>⟨_,x.cell y c h⟩,m.hok.fresh (aZ _),λy c h=>?_,λp I=>absurd (show p∈([]:List (af×Obj))from I) (by simp),m.hok.kept X,?_⟩
 .exact name_of_addr x.apart (lA L) (lA l)
 .have F:d.names.lookup y=aa .cell\/d.names.lookup y=aa .free:=F;rcases F with F|F
  .exact EI F
  .exact absurd rfl (S.nofree _ (lA F))
 .exact kJ (x.above y c (lA h))
 .have J:i<B.length:=by
   unfold start at l;by_cases J:i<B.length
   .exact J
   .rw[Cp (by simpa using J)]at l;rw[List.getElem?_replicate]at l;split at l <;> cases l
  have ha:B[i]?=aa v:=by
   unfold start at l;rw[sV (by simpa using J),d7]at l;cases e:B[i]? with
   |none=>rw[e]at l;cases l
   |some a=>rw[e]at l;cases l;rfl
  obtain⟨u,W,Z⟩:=r.get ha;have I:C[i]?=aa y:=by rw[<-S.pre,List.getElem?_take_of_lt ∅];exact L
  have G:C.Nodup:=by rw[<-S.pre];exact S.nd.sublist (List.take_sublist _ _)
  refine⟨u,Z,?_⟩;rcases S.par y (jw I)with k|k
  .exact .inl ⟨k,ET G I W k⟩
  .obtain⟨c,e⟩:=EI (n:=s.heap.objs.size+1) k;refine .inr ⟨.inl k,c,e,?_⟩;have q:=x.cell y c e;rw[HY G I W (by show d.names.lookup y≠_;rw[k];decide)]at q;exact q
 .exact m.hok.fresh (kJ (x.above y c (lA h)))
 .unfold start;show _=N.length;rw[eY,bZ,List.length_replicate];lia
theorem J7{M:ip}{P:aQ}{w:aI}{K:ay}{L:Str->Option ai}{h:aB}{k:Nat}{f:af}{m d:Str}{g:Arguments}{i:List bn}{a:eF}{dV kV F pm z ct oc:ai}{an od:Option af}{X:Array (Option ai)}{N G:List Str}{O:Sp} (lk:K.lookup f=aa ⟨oc,od,.func (kM m d g i a dV kV F pm an z ct),X⟩) (bD:zf K z d=ah) (S:cJ N G a)(len:∀l H Q E,O l H Q E->l.length=G.length)(lK:∀(A:aX) (c:List Env) (s:ao) (H:Hp) (l:List V) (Q:VK) (E:XK),g7 k (A.deeper (kL d a s.heap.objs.size f z))->O l H Q E -> ∃t,kG (j3 M P w K L h N d a f z A c s H E) i t/\t {nx:=λ_ p=>Q .non p,rt:=Q} (start N l) H):lg P w K L h M (k+1) f (kM m d g i a dV kV F pm an z ct) G O:=by
 refine⟨len,λA c s H args us l Q E Z D hb r kY=>?_⟩;have hl:=len _ _ _ _ kY;have KX:K.In s.heap:=D.mod.kin.keeps λb o e=>(D.bs b o e).1;have Y:s.heap.NoLimit:=D.mod.nolimit.keeps λb o e=>(D.bs b o e).1;have S8:∀y∈G.zip us,a.names.lookup y.1=aa .local\/(a.names.lookup y.1=aa .cell/\((f_ (s.heap.objs.size+1) a.names []).lookup y.1).isSome=ah):=λ⟨n,v⟩ hy=>by
  rcases S.par n (ze hy).1 with q|q
  .exact .inl q
  .exact .inr ⟨q,PySem.W.cellsFrom_some _ _ _ (.inl q)⟩
 refine codeAny_call_function Z.depth (KX _ _ lk) rfl S.co S.gen rfl (PySem.W.codeRec_of KX bD) (hb _ _ _ _ ?_);refine wpAny_newFunctionEnv_cells S.kind S8 λenv he s1 x=>?_;subst he;refine⟨Y.keeps x.toInCall.keep,codeAny_func ?_⟩;obtain⟨t,ht,hq⟩:=lK A c s H l Q E (Z.deeper _) kY;have I:Inv (j3 M P w K L h N d a f z A c s H E) [] (start N l) H s1:=NT S Z.hd D hl r x;refine f9 (ht [] s1 (start N l) H _ I hq) (λfl T B=>?_) λe T B=>B;have C:∀{j:St}{p:Hp}{v:V}{u:ai},Inv (j3 M P w K L h N d a f z A c s H E) [] j p T->RelV v u->Q v p->CE c P w H s Q u T :=λ{j p v u} J W q=>⟨v,p,J.os,J.bare,J.base,J.hok,W,q⟩
 cases fl with
 |ret u=>obtain⟨v,j,p,J,W,q⟩:=B;exact C J W q
 |next=>obtain⟨j,p,J,q⟩:=B;exact C (v:=V.non) (u:=Value.none) J rfl q
 |brk=>obtain⟨_,_,_,q⟩:=B;exact ml q
 |cont=>obtain⟨_,_,_,q⟩:=B;exact ml q
section
variable{X:Cx}{x:Str}{p a:Pos}{e:aA}{b:List aA}{t:TA}{c T:String}{r:List V->Hp->VK->Prop}
def G8(r:List V->Hp->VK->Prop)(t:TA):TE:=λd H Q=>t d H λf g=>r f g Q
theorem mY(y:gg X (.builtin c) r)(v:Gl X x)(u:X.mg x=ae)(o:fF x=aa (.builtin c))(z:PA X (e::b) t)(q:x≠"__name__":=by decide)(n:(x==("__debug__":Str))=ak:=by decide)(w:a9 (e::b) X.env=(ak,bh e X.env)::a9 b X.env:=by rfl) (A:(ef a (a9 b X.env)).any (·.1)=ak:=by rfl):PE X (.Call (.Name x p) (e::b) [] a) (G8 r t):=by intro f s d H Q I h;refine IB (vx I v u o ?_ q n);exact PyProof.Rows.callWith_builtin1 (aP (z a f s d H _ I h) λi j ⟨g,C,B,l,m⟩=>y f j d C g i Q B l m) w A
theorem BF(y:gg X (.type T) r)(v:Gl X x)(u:X.mg x=ae)(o:fF x=aa (.type T))(z:PA X (e::b) t)(q:x≠"__name__":=by decide)(n:(x==("__debug__":Str))=ak:=by decide)(w:a9 (e::b) X.env=(ak,bh e X.env)::a9 b X.env:=by rfl) (A:(ef a (a9 b X.env)).any (·.1)=ak:=by rfl):PE X (.Call (.Name x p) (e::b) [] a) (G8 r t):=by intro f s d H Q I h;refine IB (vx I v u o ?_ q n);exact Ix (aP (z a f s d H _ I h) λi j ⟨g,C,B,l,m⟩=>y f j d C g i Q B l m) w A
end
end L2
namespace HT
section
open PySem.SeqAt
open PySem.AutoSeq1 (wpAny_loadPart')
open PySem.MeetsSeq PySem.MeetsSeq2 PySem.MeetsSeq3
end
section
variable{a:aQ}{w:aI}{A:aX}{E:ai->ao->Prop}{s:ao}
theorem cat_tup{t b:af}{d c:List ai}{Q:ai->ao->Prop}(B:IsTup s.heap t d.toArray)(C:IsTup s.heap b c.toArray)(u:d≠[])(F:c=[]->Q (.ref t) s) (D:c≠[]->Q (.ref s.heap.objs.size) {s with heap:=s.heap.push {cls:=.type "tuple",data:=.seq (d++c).toArray}})(l:d.length+c.length<=bg):aq (au a w) A (i_ .Add (.ref t) (.ref b)) Q E s:=by
 obtain⟨⟨cls,y,data,o⟩,j,x,n,v⟩:=id B;obtain⟨⟨z,g,m,f⟩,h,r,q,p⟩:=id C;simp only at x v r p;subst x v r p;have e:d.toArray++c.toArray=(d++c).toArray:=by simp
 by_cases i:c=[]
 .exact concat_meets ⟨_,j,rfl⟩ ⟨_,h,rfl⟩ IC seq_tuple_add ID IE (IF _ _)
   (tuple_addW1 t b d.toArray c.toArray n q y g o f (by simpa using u) (by simp[i])) ⟨j,h,F i⟩
 .refine concat_meets ⟨_,j,rfl⟩ ⟨_,h,rfl⟩ IC seq_tuple_add ID IE (IF _ _)
   (tuple_addW2 t b d.toArray c.toArray n q y g o f (by simpa using u) (by simpa using i) (by rw[cX,cX];exact l)) ⟨j,h,?_⟩
  rw[e];exact D i
def sIx(n d:Nat):Option Int->Nat
 |none=>d
 |some v=>if v<0 then(v+(n:Int)).toNat else min v.toNat n
theorem sIx_nat(n d k:Nat):sIx n d (aa (k:Int))=min k n:=by show(if(k:Int)<0 then((k:Int)+(n:Int)).toNat else min (k:Int).toNat n)=min k n;rw[if_neg ∅,kN]
theorem sIx_le(n d:Nat)(c:d<=n)(o:Option Int):sIx n d o<=n:=by
 cases o with
 |none=>exact c
 |some v=>
  show(if v<0 then(v+(n:Int)).toNat else min v.toNat n)<=n;by_cases b:v<0
  .rw[if_pos b];lia
  .rw[if_neg b];exact Nat.min_le_right _ _
theorem Ew(v:Int)(n d:Nat):(if v<0 then max (v+(n:Int)) 0 else min v (n:Int))=((sIx n d (aa v):Nat):Int):=by
 show(if v<0 then max (v+(n:Int)) 0 else min v (n:Int))=(((if v<0 then(v+(n:Int)).toNat else min v.toNat n):Nat):Int)
 by_cases b:v<0
 .simp only[if_pos b];lia
 .simp only[if_neg b];lia
theorem MA(b c:Option Int)(n:Nat):IG b c 1 (n:Int)=(((sIx n 0 b:Nat):Int),((sIx n n c:Nat):Int)):=by
 have d:¬((1:Int)<0):=∅
 unfold IG;simp only[d,if_false];refine Prod.ext ?_ ?_
 .cases b with
  |none=>rfl
  |some v=>exact Ew v n 0
 .cases c with
  |none=>rfl
  |some v=>exact Ew v n n
theorem PH(i j:Nat):Cq (i:Int) (j:Int) 1=j-i:=by
 unfold Cq;have b:(1:Int) > 0:=∅
 simp only[b,if_true,Int.ediv_one];split <;> lia
theorem Hz{v:ai}{o:Option Int}{Q:Option Int->ao->Prop}(p:ni v o)(h:Q o s):aq (au a w) A (Builtin.Slice.slicePartIndex v) Q E s:=by
 cases p with
 |none=>exact slicePart_none h
 |int i t=>exact slicePart_int h
theorem QD{i:af}{g f:ai}{b c:Option Int}{n:Nat}{Q:Int×Int×Nat->ao->Prop}(m:s.heap.IsSliceOf i g f .none)(l:ni g b)(j:ni f c)(h:Q (((sIx n 0 b:Nat):Int),1,sIx n n c-sIx n 0 b) s):aq (au a w) A (Builtin.Slice.sliceApplied (.ref i) (pure (n:Int))) Q E s:=by
 obtain⟨o,e,p,d⟩:=id m;unfold Builtin.Slice.sliceApplied Builtin.Slice.sliceFields;refine ap (ap (mn e d (x:=g) rfl (ap (mn e d (x:=f) rfl (ap (mn e d (x:=.none) rfl (aD ?_)))))));refine ap (slicePart_none ?_);show aq _ _ (if((1:Int) == 0)=ah then _ else _) _ _ s;rw[if_neg (by decide)];refine ap (Hz l (ap (Hz j (ap (aD ?_)))));show aq _ _ (match IG b c 1 (n:Int)with | (b,c)=>pure (b,(1:Int),Cq b c 1)) _ _ s;rw[MA b c n];show aq _ _ (pure (((sIx n 0 b:Nat):Int),(1:Int),Cq ((sIx n 0 b:Nat):Int) ((sIx n n c:Nat):Int) 1)) _ _ s;rw[PH];exact aD h
theorem ON(b:Array ai)(i k:Nat):((cG k).filterMap λ(m:Nat)=>b[((i:Int)+(m:Int)*1).toNat]?).toArray=((b.toList.drop i).take k).toArray:=by
 have e:(λ(m:Nat)=>b[((i:Int)+(m:Int)*1).toNat]?)=λm=>b[i+m]?:=by
  funext m;have:((i:Int)+(m:Int)*1).toNat=i+m:=∅
  rw[this]
 rw[e];have:=pick_run b i k;rw[zg]at this;have c:((λx=>b[x]?) ∘ λx=>i+x)=λm=>b[i+m]?:=rfl;rw[c]at this;rw[this]
theorem getItem_tuple_cut{t g:af}{b:Array ai}{n l:ai}{c d:Option Int}{Q:ai->ao->Prop}(f:IsTup s.heap t b)(o:s.heap.IsSliceOf g n l .none)(u:ni n c)(r:ni l d)(y:¬(sIx b.size 0 c=0/\sIx b.size b.size d=b.size))(h:Q (.ref s.heap.objs.size) {s with heap:=s.heap.push {cls:=.type "tuple",data:=.seq ((b.toList.drop (sIx b.size 0 c)).take (sIx b.size b.size d-sIx b.size 0 c)).toArray}})(z:b.size<=bg):aq (au a w) A (qp (.ref t) (.ref g)) Q E s:=by
 have e:sizeOk (.seq ((b.toList.drop (sIx b.size 0 c)).take (sIx b.size b.size d-sIx b.size 0 c)).toArray):=by show((b.toList.drop (sIx b.size 0 c)).take (sIx b.size b.size d-sIx b.size 0 c)).toArray.size<=bg;rw[cX,nh,mo,fk];lia
 have F:sIx b.size b.size d<=b.size:=sIx_le _ _ (aZ _) d;obtain⟨v,p,x,B⟩:=id o;have j:s.TypeIs (.ref g) "slice":=⟨v,p,x⟩
 unfold qp
 try with_reducible refine ke ?_
 first|refine ap (aD ?_)|skip
 refine ap (wpAny_sequenceKey f.typeIs (by decide) ?_);refine ap (vN (name:=sW "__getitem__") f.typeIs SO (kP SO f.typeIs entry_tuple_getitem ?_ (args_tuple_getitem _ _)));show aq _ _ (Builtin.Tuple.tupleItemsOf (.ref t) >>= _) _ _ s;refine ap (tupleItemsOf_ f ?_);refine ap (Cr j ?_);rw[if_pos (by decide)];refine ap (QD o u r ?_);have i:¬((((sIx b.size 0 c:Nat):Int) == 0&&(1:Int) == 1&&(sIx b.size b.size d-sIx b.size 0 c) == b.size)=ah):=by intro q;rw[h_,h_]at q;have D:((sIx b.size 0 c:Nat):Int)=0:=eq_of_beq q.1.1;have C:sIx b.size b.size d-sIx b.size 0 c=b.size:=eq_of_beq q.2;exact y ⟨∅,∅⟩
 show aq _ _ (if(((sIx b.size 0 c:Nat):Int) == 0&&(1:Int) == 1&&(sIx b.size b.size d-sIx b.size 0 c) == b.size)=ah then _ else _) _ _ s;rw[if_neg i,ON]
 first
  |exact ap (m:=Cs _) (jN (aD ⟨_,rfl,aD h⟩) e)
  |exact ap (m:=Cs _) (jN (ap (aD (aD ⟨_,rfl,aD h⟩))) e)
  |exact ap (ap (m:=Cs _) (jN (aD (aD ⟨_,rfl,aD h⟩)) e))
  |exact ap (ap (m:=Cs _) (jN (aD ⟨_,rfl,aD h⟩) e))
end
end HT
namespace L2
abbrev TO:=St->Hp->(Option Int->Hp->Prop)->Prop
def PO(X:Cx)(e:Option aA)(t:TO):Prop :=
 ∀(b:List (af×Obj)) (s:ao) (a:St) (H:Hp) (Q:Option Int->Hp->Prop),Inv X b a H s->t a H Q ->
  aq (au X.prog X.w) X.A (evalPart e X.env) (λu d=>∃o c,Inv X b a c d/\ni u o/\Q o c) X.xe s
def QV:TO:=λ_ H Q=>Q ae H
def L0(t:TE):TO:=λa H Q=>t a H λx b=>∃i,x=.int i/\Q (aa i) b
section
variable{X:Cx}{e:aA}{f:TE}{c d:Option aA}{g j:TO}{n m:Pos}
theorem Nb:PO X ae QV:=by intro b s a H Q I h;rw[evalPart_none];exact aD ⟨ae,H,I,.none,h⟩
theorem OU(h:PE X e f):PO X (aa e) (L0 f):=by intro p s a H Q I o;rw[evalPart_some];refine aP (h p s a H _ I o) λu w ζ=>?_;obtain⟨x,v,r,b,l⟩:=ζ;obtain⟨i,rfl,q⟩:=l;obtain⟨t,rfl⟩:=b;exact⟨aa i,v,r,.int i t,q⟩
def mM(X:Cx)(r:V->Option Int->Option Int->Hp->VK->Prop):Prop :=
 ∀(l:List (af×Obj)) (s:ao) (a:St) (H:Hp) (x:V) (v h b:ai) (c d:Option Int) (i:af) (Q:VK),Inv X l a H s->RelV x v->s.heap.IsSliceOf i h b .none->ni h c->ni b d->r x c d H Q ->
  ∃T o,typeLookup (.type T) "__getitem__"=pure (aa (.builtin o))/\s.TypeIs v T/\aq (au X.prog X.w) X.A (qp v (.ref i)) (EP X l a Q) X.xe s
theorem mM.or{r p:V->Option Int->Option Int->Hp->VK->Prop}(h:mM X r)(A:mM X p):mM X (λx c d H Q=>r x c d H Q\/p x c d H Q):=by
 intro z s a H x v i b c d l Q I o y w u q;rcases q with q|q
 .exact h z s a H x v i b c d l Q I o y w u q
 .exact A z s a H x v i b c d l Q I o y w u q
def Qa(r:V->Option Int->Option Int->Hp->VK->Prop)(f:TE)(g j:TO):TE:=λa H Q=>f a H λx i=>g a i λl h=>j a h λu b=>r x l u b Q
theorem N_{r:V->Option Int->Option Int->Hp->VK->Prop}(L:mM X r)(O:PE X e f)(M:PO X c g)(J:PO X d j):PE X (.Subscript e (.Slice c d ae m) n) (Qa r f g j):=by intro o s i H Q I h;refine Subscript_ (aP (O o s i H _ I h) λv A ζ=>?_);obtain⟨x,H1,Z,B,E⟩:=ζ;refine wpAny_Slice (aP (M o A i H1 _ Z E) λw z ⟨l,H2,Y,G,D⟩=>aP (J o z i H2 _ Y D) λp a ζ=>?_);obtain⟨u,y,W,F,C⟩:=ζ;rw[evalPart_none];refine aD ?_;have S:Inv X o i y {a with heap:=a.heap.push {cls:=.type "slice",data:=.fields #[w,p,.none]}}:=W.kept (t':=a.toks) λb ob q=>bH _ q;obtain⟨T,id,P,K,N⟩:=L o {a with heap:=a.heap.push {cls:=.type "slice",data:=.fields #[w,p,.none]}} i y x v w p l u a.heap.objs.size Q S B (Heap.IsSliceOf.new ..) G F C;show aq (au X.prog X.w) X.A (subscriptTail e (.Slice c d ae m) v (.ref a.heap.objs.size)) (EP X o i Q) X.xe {a with heap:=a.heap.push {cls:=.type "slice",data:=.fields #[w,p,.none]}};exact tail_any (ops:=[.ref a.heap.objs.size,v]) K P N (by with_unfolding_all rfl)
def n4(a:List V)(c d:Option Int):List V:=(a.drop (HT.sIx a.length 0 c)).take (HT.sIx a.length a.length d-HT.sIx a.length 0 c)
theorem Eu(a:List V)(c d:Option Int):(n4 a c d).length<=a.length:=by unfold n4;rw[nh,mo];lia
def GP(K:ay):V->Option Int->Option Int->Hp->VK->Prop:=λx c d H Q=>∃a b,x=.ref a/\cp K H a b /\
 ¬(HT.sIx b.length 0 c=0/\HT.sIx b.length b.length d=b.length)/\∀p,H p=ae->Q (.ref p) (upd H p (.tup (n4 b c d)))
theorem MO:mM X (GP X.K):=by
 intro L s E H x v G F c d J Q I y D A z h;obtain⟨a,i,rfl,B,C,q⟩:=h;cases y;obtain⟨l,r,w,u⟩:=I.tuple B;have p:l.toArray.size=i.length:=by rw[cX];exact r.length.symm
 refine⟨"tuple",_,PyProof.Rows.slot_tuple_getitem.lookup,w.typeIs,?_⟩;refine HT.getItem_tuple_cut w D A z (by rw[p];exact C) ?_ (by rw[p];exact u);rw[p];refine⟨.ref s.heap.objs.size,_,I.laid (t':=s.toks) (o:=.tup (n4 i c d)) (λb K q=>bH _ q) (aZ _) ?_,rfl,q _ (I.hok.fresh (aZ _))⟩;exact⟨c0 (Eu i c d) u,_,(r.drop (HT.sIx i.length 0 c)).take (HT.sIx i.length i.length d-HT.sIx i.length 0 c),Ir.new _ _⟩
def E7(K:ay):R2:=λx y H Q=>∃a b i h,x=.ref a/\y=.ref b/\cp K H a i/\cp K H b h/\i≠[]/\i.length+h.length<=bg /\
 (h=[]->Q (.ref a) H)/\(h≠[]->∀p,H p=ae->Q (.ref p) (upd H p (.tup (i++h))))
theorem bA.nil_iff{a:List V}{b:List ai}(r:bA a b):b=[]↔a=[]:=by
 cases r with
 |nil=>simp
 |cons _ _=>simp
theorem Tt:b8 X (i_ .Add) (E7 X.K):=by
 intro P s N H x y v u Q I D C h;obtain⟨a,b,B,A,rfl,rfl,M,L,K,r,F,E⟩:=h;cases D;cases C;obtain⟨J,l,G,_⟩:=I.tuple M;obtain⟨p,i,m,_⟩:=I.tuple L;refine HT.cat_tup G m (λz=>K (l.nil_iff.mp z)) (λz=>⟨.ref a,H,I,rfl,F (i.nil_iff.mp z)⟩) (λz=>?_) (by rw[<-l.length,<-i.length];exact r);refine⟨.ref s.heap.objs.size,_,I.laid (t':=s.toks) (o:=.tup (B++A)) (λb O q=>bH _ q) (aZ _) ?_,rfl,E (λw=>z (i.nil_iff.mpr w)) _ (I.hok.fresh (aZ _))⟩;exact⟨by rw[eY];exact r,_,l.append i,Ir.new _ _⟩
end
def gZ(n:Nat)(i:Int):Option Nat:=if 0<=i then(if i<n then aa i.toNat else ae)else if -(n:Int)<=i then aa (i+n).toNat else ae
def fV{a:Type}(xs:List a)(i:Int):Option a:=(gZ xs.length i).bind λj=>xs[j]?
theorem As{n:Nat}{i:Int}{j:Nat}(h:gZ n i=aa j):seqIndex? i n=aa j/\j<n/\-(n:Int)<=i/\i<n:=by
 unfold gZ at h;by_cases b:0<=i
 .rw[if_pos b]at h;by_cases a:i<n
  .rw[if_pos a]at h;have e:i.toNat=j:=cO h;exact⟨by rw[seqIndex_of b a,e],∅,∅,a⟩
  .rw[if_neg a]at h;cases h
 .rw[if_neg b]at h;by_cases a:-(n:Int)<=i
  .rw[if_pos a]at h;have e:(i+n).toNat=j:=cO h;exact⟨by rw[seqIndex_neg ∅ a,e],∅,a,∅⟩
  .rw[if_neg a]at h;cases h
theorem Ac{b:Type}{a:List b}{i:Int}{v:b}(h:fV a i=aa v):∃j,seqIndex? i a.length=aa j/\a[j]?=aa v/\j<a.length/\-(a.length:Int)<=i/\i<a.length:=by
 unfold fV at h;cases e:gZ a.length i with
 |none=>rw[e]at h;cases h
 |some j=>rw[e]at h;obtain⟨g,f,d,c⟩:=As e;exact⟨j,g,h,f,d,c⟩
theorem Ql{a:Type}{xs:List a}{j:Nat}{v:a}(h:xs[j]?=aa v):fV xs (j:Int)=aa v:=by
 have b:j<xs.length:=(cA.mp h).1;have e:gZ xs.length (j:Int)=aa j:=by unfold gZ;rw[if_pos ∅,if_pos ∅];simp
 unfold fV;rw[e];exact h
def A8(b:aA):Prop:=∀o i,Ct b ak o i=operate [o,i] (qp o i)
def mD(X:Cx)(r:R2):Prop :=
 ∀(b a:aA) (d:List (af×Obj)) (s:ao) (c:St) (H:Hp) (x y:V) (v u:ai) (Q:VK),Inv X d c H s->RelV x v->RelV y u->r x y H Q ->
  Ct a ak v u=operate [v,u] (qp v u)->aq (au X.prog X.w) X.A (subscriptTail b a v u) (EP X d c Q) X.xe s
def vK(X:Cx)(e:String)(r:V->List V->Hp->VK->Prop):Prop :=
 ∀(d:List (af×Obj)) (s:ao) (a:St) (H:Hp) (x:V) (b:List V) (v:ai) (c:List ai) (Q:VK),Inv X d a H s->RelV x v->bA b c->r x b H Q ->
  aq (au X.prog X.w) X.A (call (.builtin e) (v::c)) (EP X d a Q) X.xe s
section
variable{X:Cx}{a b:aA}{F E:TE}{D:Pos}
theorem mD.or{r i:R2}(h:mD X r)(m:mD X i):mD X (λx y H Q=>r x y H Q\/i x y H Q):=by
 intro c d l s e H x y v u Q I g f q j;rcases q with q|q
 .exact h c d l s e H x y v u Q I g f q j
 .exact m c d l s e H x y v u Q I g f q j
theorem FD{r:R2}(i:mD X r)(l:PE X a F)(j:PE X b E)(g:A8 b):PE X (.Subscript a b D) (xC r F E):=by intro m s c H Q I h;exact Subscript_ (BV l j I h λv u d x y o n f e q=>i a b m d c o x y v u Q n f e q (g _ _))
def GF(K:ay):R2:=λx y H Q=>∃p c i v,x=.ref p/\y=.int i/\cz K H p c/\fV c i=aa v/\Q v H
def DQ(K:ay):R2:=λx y H Q=>∃p c i v,x=.ref p/\y=.int i/\cp K H p c/\fV c i=aa v/\Q v H
def Ed:R2:=λx y H Q=>∃z i c,x=.str z/\y=.int i/\z.length<=bg/\fV z.cps.toList i=aa c/\Q (.str ⟨#[c]⟩) H
theorem Tz:mD X (GF X.K):=by
 intro e f G s o H x y v u Q I L K h A;obtain⟨p,W,i,z,rfl,rfl,M,O,q⟩:=h;cases L;obtain⟨t,rfl⟩:=K;obtain⟨m,r,l,Y⟩:=I.list M;obtain⟨j,d,T,h3,S,P⟩:=Ac O;obtain⟨w,C,g⟩:=r.get T;have N:=r.length;have Z:=uO;have c:EP X G o Q w s:=⟨z,H,I,g,q⟩
 by_cases B:0<=i
 .have n:i.toNat=j:=by
   rw[seqIndex_of B P]at d;exact cO d
  exact item_listR l.isList B ∅ (by rw[n];simpa using C) c A
 .have n:(i+(m.toArray.size:Int)).toNat=j:=by
   rw[seqIndex_neg ∅ S]at d;rw[cX,<-N];exact cO d
  exact subscriptTail_builtinR (x:=w) l.isList.typeIs slot_list_getitem.lookup
   (wpAny_getItem_list_neg (Q:=λr J=>r=w/\EP X G o Q r J) l.isList ∅ (by rw[cX] <;> lia) ∅ (by rw[n];simpa using C) ⟨rfl,c⟩) A
theorem TH:mD X (DQ X.K):=by
 intro c d m s g H x y v u Q I A o h C;obtain⟨p,O,i,z,rfl,rfl,G,K,q⟩:=h;cases A;obtain⟨t,rfl⟩:=o;obtain⟨B,r,l,P⟩:=I.tuple G;obtain⟨j,M,L,Y,W,T⟩:=Ac K;obtain⟨w,N,e⟩:=r.get L;have J:=r.length;have S:=uO;have f:EP X m g Q w s:=⟨z,H,I,e,q⟩
 exact subscriptTail_builtinR (x:=w) l.typeIs slot_tuple_getitem.lookup
  (getItem_tuple (j:=j) (Q:=λr n=>r=w/\EP X m g Q r n) l ∅ ∅ (by rw[cX,<-J];exact M) (by simpa using N) ⟨rfl,f⟩) C
theorem N4:mD X Ed:=by
 intro d e M s C H x y v u Q I l g h m;obtain⟨z,i,c,rfl,rfl,J,o,q⟩:=h;obtain⟨t,rfl⟩:=l;obtain⟨G,rfl⟩:=g;obtain⟨j,f,w,L,r,p⟩:=Ac o;have n:z.cps.toList.length=z.length:=by simp[Str.length]
 rw[n]at f r p;have K:=uO;exact tail_any (typeIs_str s z t) slot_str_getitem.lookup (getItem_str (c:=c) (by have B:decide (i < -(2^63:Int))=ak:=decide_eq_false ∅;have A:decide (i ≥ 2^63)=ak:=decide_eq_false ∅;rw[B,A,Bool.or_false]) (by rw[f];simpa using w) ⟨.str ⟨#[c]⟩,H,I.tok _,⟨_,rfl⟩,q⟩) m
def Hg(K:ay):R2:=λx y H Q=>GF K x y H Q\/DQ K x y H Q\/Ed x y H Q
theorem fP:mD X (Hg X.K):=Tz.or (TH.or N4)
theorem LM(c:List ai)(n j:Nat)(u:ai):kg (·.setIfInBounds j u) {cls:=.type "list",data:=.seq c.toArray n}={cls:=.type "list",data:=.seq (c.set j u).toArray n}:=by simp[kg]
theorem Inv.lst{f:List (af×Obj)}{d:St}{H:Hp}{s:ao}{p:af}{c:List V}(I:Inv X f d H s)(h:H p=aa (.lst c)):∃(its:List ai) (n:Nat),bA c its/\s.heap.get? p=aa {cls:=.type "list",data:=.seq its.toArray n}/\c.length<=bg:=by obtain⟨z,its,n,r,e⟩:=I.hok p _ h;exact⟨its,n,r,e,z⟩
theorem Inv.lstUpd{m:List (af×Obj)}{j:St}{H:Hp}{s:ao}{p:af}{o g:List V}{d c:List ai}{n i:Nat}{f:Obj->Obj}(I:Inv X m j H s)(h:H p=aa (.lst o))(w:s.heap.get? p=aa {cls:=.type "list",data:=.seq d.toArray n}) (l:f {cls:=.type "list",data:=.seq d.toArray n}={cls:=.type "list",data:=.seq c.toArray i}) (r:bA g c) (v:g.length<=bg) (t:Nat):Inv X m j (upd H p (.lst g)) {s with heap:=s.heap.update p f,toks:=t}:=by
 have e:(s.heap.update p f).get? p=aa {cls:=.type "list",data:=.seq c.toArray i}:=by rw[nj f w (by rw[l] <;> rfl),l]
 refine I.write (x:=p) (e:=p) (by rw[h];trivial) (.inl rfl) (λb u y q=>(qr _ _ (dz y)).trans q) ⟨_,e⟩ ?_;exact⟨v,c,i,r,e⟩
def KR:V->V->V->Hp->(Hp->Prop)->Prop:=λo i v H Q=>∃p c k j,o=.ref p/\i=.int k/\H p=aa (.lst c)/\gZ c.length k=aa j/\Q (upd H p (.lst (c.set j v)))
theorem HI:GK X KR:=by
 intro L s z H o i v M N u Q I C G B h;obtain⟨p,A,k,j,rfl,rfl,l,K,q⟩:=h;cases C;obtain⟨t,rfl⟩:=G;obtain⟨c,n,r,e,J⟩:=I.lst l;obtain⟨d,P,w,m⟩:=As K;have f:=r.length;have O:=uO;have y:Inv X L z (upd H p (.lst (A.set j v))) {s with heap:=s.heap.update p (kg (·.setIfInBounds j u))} :=I.lstUpd l e (LM c n j u) (r.set B j) (by rw[gb];exact J) s.toks;by_cases x:0<=k
 .have g:k.toNat=j:=by
   rw[seqIndex_of x m]at d;exact cO d
  exact PySem.W.ki_setAt e x ∅ (by rw[cX,<-f];exact m) (by rw[g];exact⟨_,y,q⟩)
 .have g:(k+(c.toArray.size:Int)).toNat=j:=by
   rw[seqIndex_neg ∅ w]at d;rw[cX,<-f];exact cO d
  exact PySem.W.ki_setBack e ∅ (by rw[cX,<-f];exact w) ∅ (by rw[g];exact⟨_,y,q⟩)
theorem O6(c d:Option Int)(n:Nat):(sX c d ae n).1=((HT.sIx n 0 c:Nat):Int)/\(sX c d ae n).2.1=((HT.sIx n n d:Nat):Int)/\(sX c d ae n).2.2=1:=by
 refine⟨?_,?_,rfl⟩
 .cases c with
  |none=>simp[sX,HT.sIx]
  |some i=>
   simp only[sX,HT.sIx,IH,show(1:Int) > 0 by decide,if_true];by_cases h:i<0
   .simp only[h,if_true] <;> lia
   .simp only[h,if_false] <;> lia
 .cases d with
  |none=>simp[sX,HT.sIx]
  |some i=>
   simp only[sX,HT.sIx,IH,show(1:Int) > 0 by decide,if_true];by_cases h:i<0
   .simp only[h,if_true] <;> lia
   .simp only[h,if_false] <;> lia
theorem KU(c:List ai)(d e:Option Int):slicePick c.toArray d e ae=((c.drop (HT.sIx c.length 0 d)).take (HT.sIx c.length c.length e-HT.sIx c.length 0 d)).toArray:=by obtain⟨h,g,f⟩:=O6 d e c.toArray.size;unfold slicePick;rw[h,g,f];simp only[sliceRange_one,pick_run,cX] <;> rfl
def Fy(K:ay):V->Option Int->Option Int->Hp->VK->Prop:=λx d e H Q=>∃a c,x=.ref a/\cz K H a c/\∀p,H p=ae->Q (.ref p) (upd H p (.lst (n4 c d e)))
theorem Tp:mM X (Fy X.K):=by
 intro C s w H x v z y d e A Q I g p j i h;obtain⟨a,c,rfl,n,q⟩:=h;cases g;obtain⟨l,r,f,m⟩:=I.list n;have u:=r.length;refine⟨"list",_,slot_list_getitem.lookup,f.isList.typeIs,?_⟩;refine wpAny_getItem_list_slice f.isList p j i .none (by simp) ?_ (by rw[cX] <;> lia);rw[KU,<-u];refine⟨.ref s.heap.objs.size,_,I.laid (t':=s.toks) (o:=.lst (n4 c d e)) (λb B q=>bH _ q) (aZ _) ?_,rfl,q _ (I.hok.fresh (aZ _))⟩;exact⟨c0 (Eu c d e) m,_,0,(r.drop (HT.sIx c.length 0 d)).take (HT.sIx c.length c.length e-HT.sIx c.length 0 d),cW _ rfl⟩
def iT:V->Bool
 |.non=>ah
 |.bl _=>ah
 |.int _=>ah
 |.str _=>ah
 |_=>ak
def fL:V->V->Bool
 |.non,.non=>ah
 |.bl a,.bl b=>a == b
 |.bl a,.int b=>(if a then 1 else 0) == b
 |.int a,.bl b=>a == (if b then 1 else 0)
 |.int a,.int b=>a == b
 |.str a,.str b=>a == b
 |_,_=>ak
theorem FA{A:aX}{s:ao}{y x:V}{u v:ai}(e:RelV y u)(c:RelV x v)(g:iT y=ah)(f:iT x=ah):sY A s u v (fL y x):=by
 cases y with
 |non=>
  cases e;cases x with
  |non=>cases c;exact SeqAt.EqAt.same _
  |bl b=>cases c;exact SeqAt.EqAt.none_bool b
  |int b=>obtain⟨t,rfl⟩:=c;exact SeqAt.EqAt.none_int b t
  |str b=>obtain⟨t,rfl⟩:=c;exact SeqAt.EqAt.none_str b t
  |_=>exact absurd (show ak=ah from f) eG
 |bl a=>
  cases e;cases x with
  |non=>cases c;exact SeqAt.EqAt.bool_none a
  |bl b=>cases c;exact SeqAt.EqAt.bool_bool a b
  |int b=>obtain⟨t,rfl⟩:=c;exact SeqAt.EqAt.bool_int a b t
  |str b=>obtain⟨t,rfl⟩:=c;exact SeqAt.EqAt.bool_str a b t
  |_=>exact absurd (show ak=ah from f) eG
 |int a=>
  obtain⟨d,rfl⟩:=e;cases x with
  |non=>cases c;exact SeqAt.EqAt.int_none a d
  |bl b=>cases c;exact SeqAt.EqAt.int_bool a d b
  |int b=>obtain⟨t,rfl⟩:=c;exact II a d b t
  |str b=>obtain⟨t,rfl⟩:=c;exact SeqAt.EqAt.int_str a d b t
  |_=>exact absurd (show ak=ah from f) eG
 |str a=>
  obtain⟨d,rfl⟩:=e;cases x with
  |non=>cases c;exact SeqAt.EqAt.str_none a d
  |bl b=>cases c;exact SeqAt.EqAt.str_bool a d b
  |int b=>obtain⟨t,rfl⟩:=c;exact SeqAt.EqAt.str_int a d b t
  |str b=>obtain⟨t,rfl⟩:=c;exact IJ a d b t
  |_=>exact absurd (show ak=ah from f) eG
 |_=>exact absurd (show ak=ah from g) eG
def lj(x:V)(u:ai):Bool:=match u with
 |.none=>fL .non x
 |.bool b=>fL (.bl b) x
 |.int i _=>fL (.int i) x
 |.str z _=>fL (.str z) x
 |_=>ak
theorem Aq{x y:V}{u:ai}(r:RelV y u)(f:iT y=ah):lj x u=fL y x:=by
 cases y with
 |non=>cases r;rfl
 |bl b=>cases r;rfl
 |int i=>obtain⟨t,rfl⟩:=r;rfl
 |str z=>obtain⟨t,rfl⟩:=r;rfl
 |_=>exact absurd (show ak=ah from f) eG
theorem AW{x:V}:∀{c:List V}{d:List ai},bA c d->c.all iT=ah->d.any (lj x)=c.any λy=>fL y x
 |_,_,.nil,_=>rfl
 |y::c,u::d,.cons r t,f=>by rw[qt,h_]at f;rw[oH,oH,Aq r f.1,AW t f.2]
theorem xz{A:aX}{s:ao}{x:V}{v:ai}(g:RelV x v)(h:iT x=ah):∀{d:List V}{e:List ai},bA d e->d.all iT=ah->∀u∈e,sY A s u v (lj x u)
 |_,_,.nil,_=>λu c=>by cases c
 |y::d,u::e,.cons r t,f=>λi c=>by
  rw[qt,h_]at f;rcases br.mp c with rfl|c
  .rw[Aq r f.1];exact FA r g f.1 h
  .exact xz g h t f.2 i c
def uS(x:V)(c:List V):Bool:=c.any λy=>fL y x
def AU(K:ay)(d:Bool):R2:=λx y H Q=>∃p c,y=.ref p/\(cz K H p c\/cp K H p c)/\iT x=ah/\c.all iT=ah/\Q (.bl (if d then !uS x c else uS x c)) H
theorem Q1:b8 X (dZ .In) (AU X.K ak):=by
 intro o s m H x y v u Q I g j h;obtain⟨p,n,rfl,d,i,fs,q⟩:=h;cases j;rcases d with d|d
 .obtain⟨c,r,e,l⟩:=I.list d;refine SeqAt.in_listAt (lj x) e.isList (λw f=>xz g i r fs w (by simpa using f)) ⟨.bl _,H,I,rfl,?_⟩;rw[show c.toArray.any (lj x)=c.any (lj x) by simp,AW r fs];exact q
 .obtain⟨c,r,e,l⟩:=I.tuple d;refine SeqAt.in_tupleAt (lj x) e (λw f=>xz g i r fs w (by simpa using f)) ⟨.bl _,H,I,rfl,?_⟩;rw[show c.toArray.any (lj x)=c.any (lj x) by simp,AW r fs];exact q
theorem Ig:gg X (.type "list") (λB H Q=>∃p f,B=[.ref p]/\(cz X.K H p f\/cp X.K H p f)/\∀l,H l=ae->Q (.ref l) (upd H l (.lst f))):=by
 intro L s G H B M Q I r h;obtain⟨p,f,rfl,v,q⟩:=h;obtain⟨u,rfl,J⟩:=vals1 r;cases J;have w:∀(c:List ai),bA f c->f.length<=bg->∀(d:aB) (i:Nat),(∀b C,s.heap.get? b=aa C->d.get? b=aa C) ->
   d.get? s.heap.objs.size=aa {cls:=.type "list",dict:=ae,data:=.seq c.toArray i,slots:=#[]}->EP X L G Q (.ref s.heap.objs.size) {s with heap:=d}:=λc g m d i j e=>
  ⟨.ref s.heap.objs.size,_,I.laid (t':=s.toks) j (aZ _) (show cc X.prog X.w _ d _ (.lst f)from⟨m,c,i,g,e⟩),rfl,q _ (I.hok.fresh (aZ _))⟩
 rcases v with v|v
 .obtain⟨c,g,x,m⟩:=I.list v;have K:=g.length;obtain⟨o,y,A,n,z⟩:=x.isList;exact call_list_seq p (.inl rfl) y A z (λd i j e=>w c g m d i j e) (by simp only[cX] <;> lia)
 .obtain⟨c,g,x,m⟩:=I.tuple v;have K:=g.length;obtain⟨o,y,A,n,z⟩:=x;exact call_list_seq p (.inr rfl) y A z (λd i j e=>w c g m d i j e) (by simp only[cX] <;> lia)
theorem sD:gg X (.type "tuple") (λm H Q=>∃p d,m=[.ref p]/\((cz X.K H p d/\∀l,H l=ae->Q (.ref l) (upd H l (.tup d)))\/(cp X.K H p d/\Q (.ref p) H))):=by
 intro v s j H m A Q I r h;obtain⟨p,d,rfl,h⟩:=h;obtain⟨u,rfl,x⟩:=vals1 r;cases x;rcases h with⟨hq,q⟩|⟨hq,q⟩
 .obtain⟨c,g,i,n⟩:=I.list hq;have B:=g.length;refine call_tuple_list i.isList (λf y=>?_) (by simp only[cX] <;> lia);have w:Inv X v j H {s with heap:=f}:=I.kept (t':=s.toks) y;have z:Inv X v j (upd H f.objs.size (.tup d)) {s with heap:=f.push {cls:=.type "tuple",data:=.seq c.toArray}} :=w.laid (t':=s.toks) (λb o e=>bH _ e) (aZ _) (show cc X.prog X.w _ _ _ (.tup d)from⟨n,c,g,Ir.new _ _⟩);exact⟨.ref f.objs.size,_,z,rfl,q _ (w.hok.fresh (aZ _))⟩
 .obtain⟨c,g,i,n⟩:=I.tuple hq;exact call_tuple_same i ⟨.ref p,H,I,rfl,q⟩
def HW(K:ay)(T:String)(x:V)(H:Hp):Prop:=match x with
 |.str _=>T = "str"
 |.int _=>T = "int"
 |.ref p=>(T = "list"/\∃d,cz K H p d)\/(T = "tuple"/\∃o,K.lookup p=aa o/\o.cls=.type "tuple"/\o.dict=ae) \/
   (T = "dict"/\((∃c,H p=aa (.dK c))\/∃c,H p=aa (.dT c)))\/(T = "set"/\∃S n,H p=aa (.set S n))
 |_=>False
theorem Mc{q:List (af×Obj)}{l:St}{H:Hp}{s:ao}{T:String}{x:V}{v:ai}(I:Inv X q l H s)(r:RelV x v)(ty:HW X.K T x H):s.TypeIs v T/\∀a,v=.ref a->∃j,s.heap.get? a=aa j/\j.dict=ae:=by
 cases x with
 |str z=>
  obtain⟨t,rfl⟩:=r;cases (show T = "str" from ty);exact⟨typeIs_str s z t,λ_ e=>nomatch e⟩
 |int i=>
  obtain⟨t,rfl⟩:=r;cases (show T = "int" from ty);exact⟨typeIs_int s i t,λ_ e=>nomatch e⟩
 |ref p=>
  cases r;rcases ty with⟨rfl,xs,hq⟩|⟨rfl,o,hk,hc,f⟩|⟨rfl,hk⟩|⟨rfl,S,n,hk⟩
  .obtain⟨m,_,h,_⟩:=I.list hq;refine⟨h.isList.typeIs,λa e=>?_⟩;cases e;obtain⟨o,n,e,c,f,_⟩:=h;exact⟨o,e,f⟩
  .refine⟨⟨o,I.kIn p o hk,hc⟩,λa e=>?_⟩;cases e;exact⟨o,I.kIn _ o hk,f⟩
  .have z:∃o,s.heap.get? p=aa o/\o.ExactDict:=by
    rcases hk with⟨kvs,hk⟩|⟨kvs,hk⟩
    .obtain⟨_,_,_,_,o,_,_,e,d,_⟩:=I.hok p _ hk;exact⟨o,e,d⟩
    .obtain⟨_,_,_,_,o,_,_,e,d,_⟩:=I.hok p _ hk;exact⟨o,e,d⟩
   obtain⟨o,e,d⟩:=z;refine⟨⟨o,e,d.1⟩,λa g=>?_⟩;cases g;exact⟨o,e,d.2.1⟩
  .obtain⟨o,_,_,_,e,d,_⟩:=I.hok p _ hk;refine⟨⟨o,e,d.1⟩,λa g=>?_⟩;cases g;exact⟨o,e,d.2.1⟩
 |_=>exact ml ty
def LV(K:ay)(T:String)(r:V->List V->Hp->VK->Prop)(B:TE)(t:TA):TE:=λc H Q=>B c H λx d=>HW K T x d/\t c d λe f=>r x e f Q
variable{o e:aA}{es:List aA}{B:TE}{t:TA}{g:Str}{m d:Pos}{T C:String}{r:V->List V->Hp->VK->Prop}
theorem BO(M:PlainAttrs T)(c:Slot T g C)(N:typeOf (.builtin C)=pure (.type "method_descriptor"))(S:vK X C r)(P:PE X o B)(W:PA X (e::es) t)(J:qu o g X.env (bh o X.env)=bh o X.env:=by rfl)(w:((ef d (a9 (e::es) X.env)).all (λx=>!x.1)&&(vO d (vP [] X.env)).all (λx=>x.1.isSome)&&decide ((e::es).length+([]:List lB).length+(if([]:List lB).isEmpty then 0 else 1)<30))=ah:=by rfl)(G:(m.endLine == d.line)=ah:=by rfl) (O:a9 (e::es) X.env=(ak,bh e X.env)::a9 es X.env:=by rfl) (p:(ef d (a9 es X.env)).any (·.1)=ak:=by rfl):PE X (.Call (.Attribute o g m) (e::es) [] d) (LV X.K T r B t):=by intro i s f H Q I h;refine wpAny_Call_method_late J w G rfl (aP (P i s f H _ I h) λv z ζ=>?_);obtain⟨x,H1,n,j,ty,L⟩:=ζ;obtain⟨Z,Y⟩:=Mc n j ty;refine⟨T,C,M,c,N,Z,Y,?_⟩;have l:=W d i z f H1 _ n L;rw[O]at l ⊢;refine IK (by show(ak||(ef d (a9 es X.env)).any (·.1))=ak;rw[p] <;> rfl) (Cu ?_);exact aP l λu y ⟨q,H2,I2,A,K⟩=>S i y f H2 x q v u Q I2 j A K
end
def Cc(X:Cx)(e:String)(r:V->List V->Hp->VK->Prop):Prop :=
 ∀(d:List (af×Obj)) (s:ao) (a:St) (H:Hp) (x:V) (b:List V) (v:ai) (c:List ai) (Q:VK),Inv X d a H s->RelV x v->bA b c->r x b H Q ->
  aq (au X.prog X.w) X.A (call (.builtin e) (v::c)) (EP X d a Q) X.xe s
theorem bA.one{x:V}{a:List ai}(h:bA [x] a):∃u,a=[u]/\RelV x u:=by
 cases h with
 |cons r t=>cases t;exact⟨_,rfl,r⟩
section
variable{X:Cx}{d:List (af×Obj)}{a:St}{H:Hp}{s:ao}{l b:af}{g c i:List V}
theorem Inv.lset{h its':List ai}{n:Nat}{f:Array ai->Array ai}{j:Nat}(I:Inv X d a H s)(w:H l=aa (.lst g))(e:s.heap.get? l=aa {cls:=.type "list",data:=.seq h.toArray n}) (r:f h.toArray=its'.toArray) (o:bA c its') (m:c.length<=bg):Inv X d a (upd H l (.lst c)) {s with heap:=s.heap.update l (kg f),toks:=j}:=by have q:=PySem.IsL.update e f;rw[r]at q;refine I.write (x:=l) (e:=l) (by rw[w];exact trivial) (.inl rfl) (λy u v p=>(qr s.heap (kg f) (dz v)).trans p) ⟨_,q⟩ ?_;exact⟨m,its',_,o,q⟩
theorem Inv.lnew{its:List ai}{t':Nat}(I:Inv X d a H s)(f:bA c its)(e:c.length<=bg):Inv X d a (upd H s.heap.objs.size (.lst c)) {s with heap:=s.heap.push {cls:=.type "list",data:=.seq its.toArray},toks:=t'} :=I.laid (λ_ _ q=>bH _ q) (aZ _) ⟨e,its,0,f,cW _ rfl⟩
theorem Inv.fresh(I:Inv X d a H s):H s.heap.objs.size=ae:=I.hok.fresh (aZ _)
theorem Inv.lstM(I:Inv X d a H s)(h:H l=aa (.lst g)):g.length<=bg/\∃(f:List ai) (n:Nat),bA g f/\g.length=f.length/\s.heap.get? l=aa {cls:=.type "list",data:=.seq f.toArray n}:=by obtain⟨z,f,n,r,e⟩:=I.hok l _ h;exact⟨z,f,n,r,r.length,e⟩
theorem QA{n:Nat}(h:n<=bg):IL n=ak:=by unfold IL;exact decide_eq_false ∅
end
section
variable{X:Cx}
def OI:V->List V->Hp->VK->Prop:=λx b H Q=>∃l a y,x=.ref l/\b=[y]/\H l=aa (.lst a)/\a.length<bg/\Q .non (upd H l (.lst (a++[y])))
theorem Gi:Cc X "list.append" OI:=by
 intro p s f H x i v j Q I b c h;obtain⟨l,g,y,rfl,rfl,a,m,q⟩:=h;cases b;obtain⟨u,rfl,d⟩:=c.one;obtain⟨z,its,n,r,o,e⟩:=I.lstM a;refine call_meets F.slot_list_append ⟨_,e,rfl⟩ F.entry_list_append (F.args_list_append_2 _ _) (PySem.list_append l its.toArray n u (by rw[cX];lia)) ⟨e,?_⟩;refine⟨.non,_,I.lset (its':=its++[u]) a e (by simp) (r.append (.cons d .nil)) ?_,rfl,q⟩;rw[eY,Cv];lia
theorem Oc{b:Type}(a:List b)(k:Nat):(dO k a).flatten.length=k*a.length:=by
 induction k with
 |zero=>simp
 |succ k c=>rw[IM,List.flatten_cons,eY,c,Nat.succ_mul,zh]
end
section
variable{κ:Type}[DecidableEq κ]
def jH(a:List (κ×V))(k:κ):Option V:=(a.find? λb=>decide (b.1=k)).map (·.2)
def fQ(a:List (κ×V))(k:κ)(v:V):List (κ×V) :=if(a.any λb=>decide (b.1=k))=ah then a.map (λb=>if b.1=k then(b.1,v)else b)else a++[(k,v)]
theorem yF{p:κ×V}{r:List (κ×V)}{k:κ}(e:p.1=k):jH (p::r) k=aa p.2:=by simp[jH,lC,e]
theorem xX{p:κ×V}{r:List (κ×V)}{k:κ}(e:¬p.1=k):jH (p::r) k=jH r k:=by simp[jH,lC,e]
theorem EY(k:κ):∀a:List (κ×V),(a.any λb=>decide (b.1=k))=(jH a k).isSome
 |[]=>rfl
 |p::r=>by
  rw[oH];by_cases e:p.1=k
  .simp only[yF e,decide_eq_true e,Bool.true_or,Option.isSome_some]
  .rw[xX e,decide_eq_false e,Bool.false_or];exact EY k r
theorem B7(a:List (κ×V))(k:κ)(v:V):(fQ a k v).length<=a.length+1:=by
 unfold fQ;split
 .rw[bZ];lia
 .rw[eY,d8,nk];lia
theorem oC.isSome_eq{o:Option V}{u:Option ai}(r:oC o u):o.isSome=u.isSome:=by
 cases o with
 |none=>cases u with
  |none=>rfl
  |some _=>exact(show False from r).elim
 |some _=>cases u with
  |none=>exact(show False from r).elim
  |some _=>rfl
theorem oC.getD{o:Option V}{u:Option ai}{d:V}{a:ai}(r:oC o u)(rd:RelV d a):RelV (o.getD d) (u.getD a):=by
 cases o with
 |none=>cases u with
  |none=>exact rd
  |some _=>exact(show False from r).elim
 |some _=>cases u with
  |none=>exact(show False from r).elim
  |some _=>exact r
theorem KV.val{a:List (κ×V)}{d:List (κ×ai)}(r:KV a d)(k:κ):oC (jH a k) (sZ d k):=by
 unfold KV at r
 induction r with
 |nil=>exact True.intro
 |@cons p q ps qs h t ih=>
  obtain⟨f,g⟩:=h;by_cases e:p.1=k
  .have c:q.1=k:=f.symm.trans e;have b:sZ (q::qs) k=aa q.2:=by simp[sZ,lC,c]
   rw[yF e,b];exact g
  .have c:¬q.1=k:=λz=>e (f.trans z);have b:sZ (q::qs) k=sZ qs k:=by simp[sZ,lC,c]
   rw[xX e,b];exact ih
theorem KV.any{a:List (κ×V)}{c:List (κ×ai)}(r:KV a c)(k:κ):(a.any λb=>decide (b.1=k))=c.any λb=>decide (b.1=k):=by
 unfold KV at r
 induction r with
 |nil=>rfl
 |cons h t d=>rw[oH,oH,d,h.1]
theorem KV.repl{b:List (κ×V)}{d:List (κ×ai)}(r:KV b d)(k:κ){y:V}{u:ai}(f:RelV y u):KV (b.map λa=>if a.1=k then(a.1,y)else a) (d.map λa=>if a.1=k then(a.1,u)else a):=by
 unfold KV at r ⊢
 induction r with
 |nil=>exact .nil
 |@cons p q ps qs h t ih=>
  rw[bE,bE];refine .cons ?_ ih;obtain⟨c,g⟩:=h;by_cases e:p.1=k
  .rw[if_pos e,if_pos (c.symm.trans e)];exact⟨c,f⟩
  .rw[if_neg e,if_neg (λz=>e (c.trans z))];exact⟨c,g⟩
theorem KV.put{a:List (κ×V)}{b:List (κ×ai)}(r:KV a b)(k:κ){y:V}{u:ai}(c:RelV y u):KV (fQ a k y) (stored b k u):=by
 unfold fQ stored;rw[r.any k];by_cases e:(b.any λd=>decide (d.1=k))=ah
 .rw[if_pos e,if_pos e];exact r.repl k c
 .rw[if_neg e,if_neg e];exact zi r ⟨rfl,c⟩
theorem KV.length{kvs:List (κ×V)}{a:List (κ×ai)}(r:KV kvs a):kvs.length=a.length:=oE r
end
theorem sP{P:aQ}{w:aI}{k:aF}{u:ai}(r:RelV (kV k) u):(gF P w).is k u=ah:=by
 cases k with
 |inl i=>obtain⟨t,e⟩:=(show ∃t,u=Value.int i t from r);subst e;exact Ke P w i t
 |inr x=>obtain⟨t,e⟩:=(show ∃t,u=Value.str x t from r);subst e;exact Mb P w x t
theorem EN{P:aQ}{w:aI}:∀{ks:List aF}{a:List ai},bA (ks.map kV) a->ItemsAre (gF P w) ks a
 |[],_,r=>by rw[zj]at r;cases r;exact .nil
 |k::ks,_,r=>by
  rw[bE]at r;cases r with
  |cons h t=>exact .cons (sP h) (EN t)
abbrev KT(H:Hp):List (List aF×V)->List (List aF×af×ai)->Prop:=fi λp q=>p.1=q.1/\H q.2.1=aa (.tup (p.1.map kV))/\RelV p.2 q.2.2
theorem KT.val{H:Hp}{a:List (List aF×V)}{d:List (List aF×af×ai)}(r:KT H a d)(k:List aF):oC (jH a k) ((atKey d k).map (·.2)):=by
 induction r with
 |nil=>exact True.intro
 |@cons p q ps qs h t ih=>
  obtain⟨f,_,g⟩:=h;by_cases e:p.1=k
  .have c:q.1=k:=f.symm.trans e;have b:atKey (q::qs) k=aa q.2:=by simp[atKey,lC,c]
   rw[yF e,b];exact g
  .have c:¬q.1=k:=λz=>e (f.trans z);have b:atKey (q::qs) k=atKey qs k:=by simp[atKey,lC,c]
   rw[xX e,b];exact ih
theorem KT.repl{H:Hp}{a:List (List aF×V)}{d:List (List aF×af×ai)}(r:KT H a d)(k:List aF){y:V}{u:ai}(g:RelV y u):KT H (a.map λc=>if c.1=k then(c.1,y)else c) (d.map (putAt k u)):=by
 induction r with
 |nil=>exact .nil
 |@cons p q ps qs h t ih=>
  rw[bE,bE];refine .cons ?_ ih;obtain⟨b,f,i⟩:=h;unfold putAt;by_cases e:p.1=k
  .rw[if_pos e,if_pos (b.symm.trans e)];exact⟨b,f,g⟩
  .rw[if_neg e,if_neg (λz=>e (b.trans z))];exact⟨b,f,i⟩
theorem KT.put{H:Hp}{a:List (List aF×V)}{c:List (List aF×af×ai)}(r:KT H a c)(k:List aF){b:af}{y:V}{u:ai}(g:H b=aa (.tup (k.map kV)))(d:RelV y u):KT H (fQ a k y) (storedH c k b u):=by
 have e:(a.any λf=>decide (f.1=k))=(atKey c k).isSome:=by rw[EY,(r.val k).isSome_eq,IN]
 unfold fQ storedH;rw[e];by_cases q:(atKey c k).isSome=ah
 .rw[if_pos q,if_pos q];exact r.repl k d
 .rw[if_neg q,if_neg q];exact zi r ⟨rfl,g,d⟩
theorem KT.keeps{H e:Hp}{a:List (List aF×V)}{d:List (List aF×af×ai)}(r:KT H a d)(f:∀b c,H b=aa (.tup c)->e b=aa (.tup c)):KT e a d :=Paired.mapP r λ_ _ z=>⟨z.1,f _ _ z.2.1,z.2.2⟩
section
variable{P:aQ}{w:aI}{H:Hp}{h:aB}{a:af}
theorem G0{u:HO}(ok:dw P w H h)(e:Rd H a u):cc P w H h a u:=e.ok ok
theorem qg{b:List (aF×V)}(ok:dw P w H h)(e:Rd H a (.dK b)):b.length<=bg/\(a == jL)=ak/\∃c,KV b c/\h.DictOf (gF P w) a c :=show cc P w H h a (.dK b)from G0 ok e
theorem Bj{kvs:List (aF×V)}(ok:dw P w H h)(e:H a=aa (.dK kvs)):kvs.length<=bg/\(a == jL)=ak/\∃b,KV kvs b/\h.DictOf (gF P w) a b:=qg ok (.inl e)
theorem sw{ks:List aF}(ok:dw P w H h)(e:H a=aa (.tup (ks.map kV))):(sR (gF P w)).is h ks a:=by
 obtain⟨_,b,r,⟨o,f,d,n,c⟩,_⟩:=(show cc P w H h a (.tup (ks.map kV))from ok a _ e)
 exact⟨o,b.toArray,n,f,d,c,by simpa using EN r⟩
theorem sH{b:List (List aF×V)}(ok:dw P w H h)(e:Rd H a (.dT b)):b.length<=bg/\(a == jL)=ak /\ ∃d,KT H b d/\h.DictOfH (sR (gF P w)) a d:=by
 obtain⟨z,y,d,r,o,s,u,n,j,i,g,f⟩:=(show cc P w H h a (.dT b)from G0 ok e)
 refine⟨z,y,d,r,o,s,u,n,j,i,g,λx c=>?_,f⟩;have all:∀{l:List (List aF×V)}{m:List (List aF×af×ai)},KT H l m->∀x∈m,(sR (gF P w)).is h x.1 x.2.1:=by
  intro l m q
  induction q with
  |nil=>intro x c;exact nomatch c
  |@cons p q ps qs hq t ih=>
   intro x c;rcases br.mp c with e|c
   .subst e;exact sw ok (by rw[<-hq.1];exact hq.2.1)
   .exact ih x c
 exact all r x c
theorem Eh{b:List (List aF×V)}(ok:dw P w H h)(e:H a=aa (.dT b)):b.length<=bg/\(a == jL)=ak /\ ∃c,KT H b c/\h.DictOfH (sR (gF P w)) a c:=sH ok (.inl e)
end
def mI(H:Hp)(a:af)(y:V)(r:Option V):Prop :=(∃c k,Rd H a (.dK c)/\y=kV k/\r=jH c k)\/∃c k b,Rd H a (.dT c)/\y=.ref b/\H b=aa (.tup (k.map kV))/\r=jH c k
def za(H:Hp)(a:af)(y v:V)(d:Hp):Prop :=
 (∃c k,H a=aa (.dK c)/\y=kV k/\c.length<bg/\d=upd H a (.dK (fQ c k v))) \/
 ∃c k b,H a=aa (.dT c)/\y=.ref b/\H b=aa (.tup (k.map kV))/\c.length<bg/\d=upd H a (.dT (fQ c k v))
theorem mI.k{H:Hp}{a:af}{kvs:List (aF×V)}{k:aF}(e:H a=aa (.dK kvs)):mI H a (kV k) (jH kvs k):=.inl ⟨kvs,k,.inl e,rfl,rfl⟩
theorem za.k{H:Hp}{a:af}{kvs:List (aF×V)}{k:aF}{v:V}(e:H a=aa (.dK kvs))(b:kvs.length<bg):za H a (kV k) v (upd H a (.dK (fQ kvs k v))):=.inl ⟨kvs,k,e,rfl,b,rfl⟩
theorem za.t{H:Hp}{a b:af}{c:List (List aF×V)}{k:List aF}{v:V}(e:H a=aa (.dT c))(f:H b=aa (.tup (k.map kV)))(d:c.length<bg):za H a (.ref b) v (upd H a (.dT (fQ c k v))):=.inr ⟨c,k,b,e,rfl,f,d,rfl⟩
section
variable{X:Cx}{f:List (af×Obj)}{d:St}{H:Hp}{s:ao}{a:af}{y v:V}{u r:ai}{o:Option V}{A:aX}{E:ai->ao->Prop}
theorem Inv.big(I:Inv X f d H s):jL<s.heap.objs.size:=by have h:cZ<s.heap.objs.size:=(I.mod.glob.keeps I.bk).lt;exact Cw (by decide) h
theorem NW{Q:ai->ao->Prop}(D:A.units+1<cLine)(I:Inv X f d H s)(g:mI H a y (aa v))(w:RelV y u)(h:∀j q,Inv X f d H q->RelV v j->Q j q):aq (au X.prog X.w) A (qp (.ref a) u) Q E s:=by
 rcases g with⟨kvs,k,e,ey,l⟩|⟨kvs,k,b,e,ey,eb,l⟩
 .subst ey;obtain⟨z,G,B,i,n⟩:=qg I.hok e;obtain⟨j,m,c⟩:=oC.some_of (v:=v) (o:=sZ B k) (by rw[l];exact i.val k);exact wpAny_getItem_of (sP w) n.mapOf m (h j _ (I.tok _) c)
 .subst ey;cases (show u=Value.ref b from w);obtain⟨z,G,x,i,n⟩:=sH I.hok e;obtain⟨j,m,c⟩:=oC.some_of (v:=v) (o:=(atKey x k).map (·.2)) (by rw[l];exact i.val k);obtain⟨p,F,C⟩:=kQ.mp m;refine wpAny_getItem_heap (Cy D) (sw I.hok eb) n F ?_;rw[C];exact h j _ (I.tok _) c
theorem So{Q:ai->ao->Prop}(p:A.units+1<cLine)(I:Inv X f d H s)(g:mI H a y o)(n:RelV y u)(h:∀m,Inv X f d H m->Q (.bool o.isSome) m):aq (au X.prog X.w) A (dZ .In u (.ref a)) Q E s:=by
 rcases g with⟨kvs,k,e,ey,l⟩|⟨kvs,k,b,e,ey,eb,l⟩
 .subst ey;obtain⟨z,i,x,c,j⟩:=qg I.hok e;refine wpAny_in_of (sP n) i j.mapOf ?_;rw[<-(c.val k).isSome_eq,<-l];exact h _ (I.tok _)
 .subst ey;cases (show u=Value.ref b from n);obtain⟨z,i,w,c,j⟩:=sH I.hok e;refine wpAny_in_heap (Cy p) (sw I.hok eb) i j ?_;have q:=(c.val k).isSome_eq;rw[IN]at q;rw[<-q,<-l];exact h _ (I.tok _)
theorem xt{h':aB}{t':Nat}{c:HO}(I:Inv X f d H s)(g:uL (H a))(h:kK a s.heap h')(i:∃q,h'.get? a=aa q)(new:cc X.prog X.w (upd H a c) h' a c):Inv X f d (upd H a c) {s with heap:=h',toks:=t'} :=I.write (x:=a) (e:=a) g (.inl rfl) (λb q j z=>(h.2 b j).trans z) i new
theorem Ei{P:aQ}{w:aI}{i:Hp}{h':aB}{b:List (aF×V)}{c:List (aF×ai)}(z:b.length<=bg)(g:(a == jL)=ak)(e:KV b c)(h:h'.DictOf (gF P w) a c):cc P w i h' a (.dK b):=⟨z,g,c,e,h⟩
theorem Ml{K:Hp}{Q:Unit->ao->Prop}(N:A.units+1<cLine)(I:Inv X f d H s)(g:za H a y v K)(D:RelV y u)(F:RelV v r)(h:∀C,Inv X f d K C->Q () C):aq (au X.prog X.w) A (setItem (.ref a) u r) Q E s:=by
 rcases g with⟨kvs,k,e,ey,l,eH⟩|⟨kvs,k,b,e,ey,eb,l,eH⟩
 .subst ey eH;obtain⟨z,x,M,i,B⟩:=Bj I.hok e;have n:M.length<=bg:=by rw[<-i.length];exact z
  have w:(fQ kvs k v).length<=bg:=by have:=B7 kvs k v;lia
  refine wpAny_setItem_pairs (hsz:=n) (sP D) B λG j p=>h _ ?_;have O:∃q,G.get? a=aa q:=let ⟨q,_,_,m,_⟩:=j;⟨q,m⟩
  exact xt I (by rw[e];exact True.intro) p O (Ei w x (i.put k F) j)
 .subst ey eH;cases (show u=Value.ref b from D);obtain⟨z,x,L,i,B⟩:=Eh I.hok e;have n:L.length<=bg:=by rw[<-oE i];exact z
  have w:(fQ kvs k v).length<=bg:=by have:=B7 kvs k v;lia
  refine wpAny_setItem_heap (hsz:=n) (Cy N) (sw I.hok eb) B λG j p=>h _ ?_;obtain⟨q,Y,Z,m,W,T,S,_,P⟩:=j;refine xt I (by rw[e];exact True.intro) p ⟨q,m⟩ ⟨w,x,_,(i.put k eb F).keeps λc ys J=>?_,q,Y,Z,m,W,T,S,P⟩;rw[bf (xo J e (λz=>nomatch z))];exact J
end
section
variable{X:Cx}{d:List (af×Obj)}{c:St}{H:Hp}{s:ao}{a:af}{b:List (aF×V)}{k:aF}{u:ai}{A:aX}{E:ai->ao->Prop}
theorem Q5{Q:ai->ao->Prop}(I:Inv X d c H s)(e:Rd H a (.dK b))(h:∀t g,Inv X d c H g->Q (.int b.length t) g):aq (au X.prog X.w) A (call (.builtin "len") [.ref a]) Q E s:=by obtain⟨z,i,l,f,j⟩:=qg I.hok e;refine call_len_dict i j (by rw[<-f.length];rw[sU]at z;lia) ?_;rw[<-f.length];exact h _ _ (I.tok _)
end
def A2(i:aA):Prop:=∀a b,Ct i ak a b=operate [a,b] (qp a b)
theorem RQ{a:aQ}{w:aI}{A:aX}{E:ai->ao->Prop}{s:ao}{l:Env}{c b:aA}{p:Pos}{T u:String}{Q:ai->ao->Prop}(y:typeLookup (.type T) "__getitem__"=pure (aa (.builtin u))) (v:A2 b)(h:aq (au a w) A (bh c l) (λo g=>aq (au a w) A (bh b l) (λi d=>d.TypeIs o T/\aq (au a w) A (qp o i) Q E d) E g) E s):aq (au a w) A (bh (.Subscript c b p) l) Q E s:=by
 refine Subscript_ (f9 h (λo g n=>f9 n (λi d e=>?_) λ_ _ x=>x) λ_ _ x=>x);obtain⟨q,e⟩:=e;unfold subscriptTail;refine ap ?_;rw[getitemInPython_of_ne q.not_modules];refine ap (vQ q y ?_);have j:aq (au a w) A (Ct b ak o i) (λr f=>aq (au a w) A (letTemporaryGo c o r >>= λ_=>pure r) Q E f) E d:=by rw[v o i];exact wpAny_operating (f9 e (λr f m=>ap (wpAny_letTemporaryGo (aD m))) λ_ _ x=>x)
 first
  |exact aD (ap j)
  |exact ap (aD (ap j))
  |exact ap j
theorem NK{X:Cx}{f:List (af×Obj)}{d:St}{H:Hp}{s:ao}{a:af}{y:V}{o:Option V}(I:Inv X f d H s)(g:mI H a y o):s.TypeIs (.ref a) "dict":=by
 rcases g with⟨kvs,k,e,_,_⟩|⟨kvs,k,b,e,_,_,_⟩
 .obtain⟨_,_,i,_,c⟩:=qg I.hok e;exact c.typeIs
 .obtain⟨_,_,h,_,c⟩:=sH I.hok e;exact c.typeIs
def LW(d ty:TE):TE:=λb H Q=>d b H λx e=>ty b e λy c=>∃a v,x=.ref a/\mI c a y (aa v)/\Q v c
def RK(ty d:TE):TE:=λb H Q=>ty b H λy e=>d b e λx c=>∃a o,x=.ref a/\mI c a y o/\Q (.bl o.isSome) c
def LO(e ty d:TE):TS:=λD b H=>d b H λv h=>e b h λx g=>ty b g λy f=>∃a c,x=.ref a/\za f a y v c/\D.nx b c
section
variable{X:Cx}{o i e b:aA}{d c l:Pos}{f ty j:TE}
theorem JW(C:X.A.units+1<cLine)(E:PE X o f)(F:PE X i ty)(D:A2 i):PE X (.Subscript o i d) (LW f ty):=by intro p s n H Q I h;refine RQ PySem.F.slot_dict_getitem.lookup D (aP (E p s n H _ I h) λu r ⟨x,M,K,z,B⟩=>aP (F p r n M _ K B) λS P ζ=>?_);obtain⟨y,L,q,w,a,v,G,g,A⟩:=ζ;subst G;obtain rfl:u=Value.ref a:=z;exact⟨NK q g,NW C q g w λN O J m=>⟨v,L,J,m,A⟩⟩
theorem N6(A:X.A.units+1<cLine)(C:PE X i ty)(B:PE X o f):PC X .In i o (RK ty f):=by intro n s m H Q I h;refine aP (C n s m H _ I h) λN p ⟨y,K,G,q,w⟩=>aP (B n p m K _ G w) λu M ζ=>?_;obtain⟨x,J,F,r,a,z,D,g,v⟩:=ζ;subst D;obtain rfl:u=Value.ref a:=r;exact So A F g q λL E=>⟨.bl z.isSome,J,E,rfl,v⟩
theorem EG(G:X.A.units+1<cLine)(K:PE X o f)(L:PE X i ty)(F:PE X b j)(J:ju b (aa (.Subscript o i c)) d.line X.env=pure ak):PS X (.Assign [.Subscript o i c] b d) (LO f ty j):=by intro n s m H D I h;refine wpAny_Assign_Subscript (aP (F n s m H _ I h) λr q ⟨v,W,Q,A,E⟩=>aP (K n q m W _ Q E) λu p ⟨x,T,P,z,C⟩=>aP (L n p m T _ P C) λiv Z ⟨y,H3,O,w,a,S,M,g,B⟩=>?_) J;subst M;obtain rfl:u=Value.ref a:=z;exact Ml G O g w A λY N=>⟨m,S,N,B⟩
end
theorem Fe{P:aQ}{w:aI}{H:Hp}(h:aB)(a:jL<h.objs.size):cc P w H (h.push {cls:=.type "dict",data:=.dict #[]}) h.objs.size (.dK []) :=⟨jO _,beq_eq_false_iff_ne.mpr (dz (df a)),[],.nil,Heap.DictOf.new h⟩
theorem Ga{P:aQ}{w:aI}{H:Hp}(h:aB)(a:jL<h.objs.size):cc P w H (h.push {cls:=.type "dict",data:=.dict #[]}) h.objs.size (.dT []) :=⟨jO _,beq_eq_false_iff_ne.mpr (dz (df a)),[],.nil,_,#[],0,cW _ rfl,⟨rfl,rfl,rfl⟩,rfl,rfl,vR⟩
def Ps:TE:=λ_ H Q=>∀p,H p=ae->Q (.ref p) (upd H p (.dK []))
def Nn:TE:=λ_ H Q=>∀p,H p=ae->Q (.ref p) (upd H p (.dT []))
section
variable{X:Cx}{b:Pos}
theorem Md:PE X (.Dict [] [] b) Ps:=λd s c H Q I h=>wpAny_Dict_empty ⟨.ref s.heap.objs.size,_,I.laid (a:=s.heap.objs.size) (o:=.dK []) (t':=s.toks) (λ_ _ q=>bH _ q) (aZ _) (Fe s.heap I.big),rfl,h _ (I.hok.fresh (aZ _))⟩
theorem Rt:PE X (.Dict [] [] b) Nn:=λd s c H Q I h=>wpAny_Dict_empty ⟨.ref s.heap.objs.size,_,I.laid (a:=s.heap.objs.size) (o:=.dT []) (t':=s.toks) (λ_ _ q=>bH _ q) (aZ _) (Ga s.heap I.big),rfl,h _ (I.hok.fresh (aZ _))⟩
end
def yb:List (TE×TE)->St->Hp->(List (V×V)->Hp->Prop)->Prop
 |[],_,H,Q=>Q [] H
 | (c,b)::r,a,H,Q=>c a H λx g=>b a g λy f=>yb r a f λd e=>Q ((x,y)::d) e
abbrev VV:List (V×V)->List (ai×ai)->Prop:=fi λp q=>RelV p.1 q.1/\RelV p.2 q.2
def sx(X:Cx)(d:Pos)(keys:List (Option aA))(a:List aA)(c:List (TE×TE)):Prop :=
 ∀(f:List (af×Obj)) (s:ao) (b:St) (H:Hp) (Q:List (V×V)->Hp->Prop),Inv X f b H s->yb c b H Q ->
  aq (au X.prog X.w) X.A (evalPairs (pairTrees keys a X.env d)) (λh i=>∃e g,Inv X f b g i/\VV e h/\Q e g) X.xe s
theorem Hw{X:Cx}{a:Pos}:sx X a [] [] []:=λc s b H Q I h=>pairTrees_nil_walk ⟨[],H,I,.nil,h⟩
theorem Gc{X:Cx}{b:Pos}{k v:aA}{ks:List (Option aA)}{f:List aA}{i g:TE}{a:List (TE×TE)}(A:PE X k i)(w:PE X v g)(z:sx X b ks f a):sx X b (aa k::ks) (v::f) ((i,g)::a):=λe s c H Q I h=>pairTrees_cons_walk (aP (A e s c H _ I h) λu l ⟨x,G,D,n,q⟩=>aP (w e l c G _ D q) λK j ⟨y,F,C,m,p⟩=>aP (z e j c F _ C p) λJ L ⟨r,E,B,d,o⟩=>⟨(x,y)::r,E,B,.cons ⟨n,m⟩ d,o⟩)
def sO(a more:List (aF×V)):List (aF×V):=more.foldl (λc b=>fQ c b.1 b.2) a
theorem KV.merge:∀{more:List (aF×V)}{c:List (aF×ai)}{a:List (aF×V)}{b:List (aF×ai)},KV more c->KV a b->KV (sO a more) (merged b c):=by
 intro more c a b r;unfold KV at r
 induction r generalizing a b with
 |nil=>intro q;exact q
 |@cons p q ps qs h t ih=>
  intro d;have e:KV (fQ a p.1 p.2) (stored b q.1 q.2):=by have:=d.put p.1 h.2;rw[<-h.1];exact this
  exact ih e
theorem GZ:∀(more a:List (aF×V)),(sO a more).length<=a.length+more.length
 |[],a=>by show a.length<=a.length+0;lia
 |p::r,a=>by have c:=GZ r (fQ a p.1 p.2);have b:=B7 a p.1 p.2;show(sO (fQ a p.1 p.2) r).length<=_;rw[d8];lia
theorem Er{P:aQ}{w:aI}:∀{d:List (aF×V)}{f:List (ai×ai)},VV (d.map λg=>(kV g.1,g.2)) f->∃e,Carries (gF P w) f e/\KV d e
 |[],_,r=>by rw[zj]at r;cases r;exact⟨[],True.intro,.nil⟩
 |p::d,_,r=>by
  rw[bE]at r;cases r with
  |@cons a b as bs h t=>obtain⟨e,c,q⟩:=Er (P:=P) (w:=w) t;obtain⟨b1,b2⟩:=b;exact⟨(p.1,b2)::e,⟨sP h.1,rfl,c⟩,.cons ⟨rfl,h.2⟩ q⟩
def Sf(b:List (TE×TE)):TE:=λe H Q=>∀p,H p=ae->yb b e (upd H p (.dK [])) λf d=>d p=aa (.dK [])/\∃a:List (aF×V),f=a.map (λc=>(kV c.1,c.2))/\a.length<=15/\Q (.ref p) (upd d p (.dK (sO [] a)))
theorem K3{X:Cx}{f:Pos}{keys:List (Option aA)}{b:List aA}{d:List (TE×TE)}(h:sx X f keys b d)(L:keys.all (·.isSome)=ah)(C:keys.length=b.length)(G:keys≠[])(l:keys.length<=15):PE X (.Dict keys b f) (Sf d):=by
 intro M s n H Q I q;have B:=I.hok.fresh (aZ s.heap.objs.size);have N:=I.laid (a:=s.heap.objs.size) (o:=.dK []) (h':=s.heap.push {cls:=.type "dict",data:=.dict #[]}) (t':=s.toks) (λ_ _ q=>bH _ q) (aZ _) (Fe s.heap I.big);refine wpAny_Dict_walk (knd:=gF X.prog X.w) L C G l (aP (h M _ n _ _ N (q _ B)) λO S ζ=>?_);obtain⟨T,Y,m,j,e,g,J,W,x⟩:=ζ;subst J;obtain⟨r,c,u⟩:=Er (P:=X.prog) (w:=X.w) j;obtain⟨z,E,p,v,K⟩:=Bj m.hok e;cases v;refine⟨r,c,K,λh' i A=>⟨.ref s.heap.objs.size,_,?_,rfl,x⟩⟩;have y:(sO [] g).length<=bg:=by have F:=GZ g [];rw[nk]at F;rw[sU];lia
 have D:∃q,h'.get? s.heap.objs.size=aa q:=let ⟨q,_,_,hq,_⟩:=i;⟨q,hq⟩
 exact xt m (by rw[e];exact True.intro) A D (Ei y E (u.merge .nil) i)
structure M2(X:Cx)(o:aA)(m:Str)(apos:Pos)(e f:aA)(cpos:Pos):Prop where
 base:qu o m X.env (bh o X.env)=bh o X.env
 few:((ef cpos (a9 [e,f] X.env)).all (λx=>!x.1)&&(vO cpos (vP [] X.env)).all (λx=>x.1.isSome)&&decide (([e,f]:List aA).length+([]:List lB).length+(if([]:List lB).isEmpty then 0 else 1)<30))=ah
 line:(apos.endLine == cpos.line)=ah
 trees:ef cpos (a9 [e,f] X.env)=[(ak,bh e X.env),(ak,bh f X.env)]
def EK(H:Hp)(a:af):Prop:=(∃b,Rd H a (.dK b))\/∃b,Rd H a (.dT b)
theorem OX{X:Cx}{l:List (af×Obj)}{j:St}{H:Hp}{s:ao}{a:af}(I:Inv X l j H s)(d:EK H a):s.TypeIs (.ref a) "dict"/\(∀b,Value.ref a=.ref b->∃c,s.heap.get? b=aa c/\c.dict=ae)/\(a == jL)=ak:=by
 rcases d with⟨kvs,e⟩|⟨kvs,e⟩
 .obtain⟨_,g,n,_,f⟩:=qg I.hok e;refine⟨f.typeIs,λb q=>?_,g⟩;cases q;obtain⟨c,_,_,i,h,_⟩:=f;exact⟨c,i,h.2.1⟩
 .obtain⟨_,g,m,_,f⟩:=sH I.hok e;refine⟨f.typeIs,λb q=>?_,g⟩;cases q;obtain⟨c,_,_,i,h,_⟩:=f;exact⟨c,i,h.2.1⟩
section
variable{X:Cx}{f:List (af×Obj)}{c:St}{H:Hp}{s:ao}{a:af}{y d:V}{u r:ai}{o:Option V}{A:aX}{E:ai->ao->Prop}
theorem LH{Q:ai->ao->Prop}(w:A.units+1<cLine)(I:Inv X f c H s)(g:mI H a y o)(q:RelV y u)(rd:RelV d r)(h:∀n p,Inv X f c H p->RelV (o.getD d) n->Q n p):aq (au X.prog X.w) A (call (.builtin "dict.get") [.ref a,u,r]) Q E s:=by
 rcases g with⟨kvs,k,e,ey,l⟩|⟨kvs,k,b,e,ey,eb,l⟩
 .subst ey;obtain⟨z,m,x,i,j⟩:=qg I.hok e;refine call_meetsIn IP j.typeIs PySem.F.entry_dict_get (PySem.F.args_dict_get_3 _ _ _) (meets_dict_get_default (gF X.prog X.w) a (sP q) m r) ⟨_,j.mapOf,h _ _ (I.tok _) ?_⟩;rw[l];exact(i.val k).getD rd
 .subst ey;cases (show u=Value.ref b from q);obtain⟨z,m,v,i,j⟩:=sH I.hok e;refine call_meetsIn IP j.typeIs PySem.F.entry_dict_get (PySem.F.args_dict_get_3 _ _ _) (meetsH_dict_get_default (sR (gF X.prog X.w)) a b m r) ⟨Cy w,k,v,sw I.hok eb,j,h _ _ (I.tok _) ?_⟩;rw[l];exact(i.val k).getD rd
end
def Qm(f ty e:TE):TE:=λb H Q=>f b H λx d=>∃a,x=.ref a/\EK d a/\ty b d λy g=>e b g λz c=>∃o,mI c a y o/\Q (o.getD z) c
section
variable{X:Cx}{o e f:aA}{c b:Pos}{j ty i:TE}
theorem Mj(J:X.A.units+1<cLine)(K:PE X o j)(M:PE X e ty)(L:PE X f i)(m:M2 X o "get" c e f b):PE X (.Call (.Attribute o "get" c) [e,f] [] b) (Qm j ty i):=by intro p s l H Q I h;refine wpAny_Call_method m.base m.few m.line PySem.F.plainAttrs_dict IP PySem.F.type_dict_get (aP (K p s l H _ I h) λu A ζ=>?_);obtain⟨x,Y,q,D,a,N,d,G⟩:=ζ;subst N;obtain rfl:u=Value.ref a:=D;obtain⟨v,r,_⟩:=OX q d;refine⟨v,r,?_⟩;rw[m.trees];refine IK rfl (Cu (Co (aP (M p A l Y _ q G) λiv w ⟨y,W,S,C,F⟩=>Co (aP (L p w l W _ S F) λfv s3 ⟨z,T,P,B,ov,g,E⟩=>IA ?_))));exact LH J P g C B λZ s4 O n=>⟨_,T,O,n,E⟩
end
end L2
namespace Att
open PySem PySem.W PySem.Calls PyProof.Rows
theorem Q6{P:Params}{h:aB}:∀(c:List Int) (d:List ai),WellAll P h d (c.map WData.int)->IntsAre d c:=by
 intro c
 induction c with
 |nil=>
  intro d w;rw[zj]at w;cases w;exact .nil
 |cons n c e=>
  intro d w;rw[bE]at w;cases w with
  |cons a b=>
   cases a;exact .cons _ _ (e _ b)
theorem Sk{l:OpenLaw}{n:Nat}(w:l.most=aa n){P:Params}{h:aB}{args:List WData}{c:List ai}(j:l.row.toRowW.claim.pre args=ah) (g:WellAll P h c args):∃a m b,c=[Value.ref a]/\args=[WData.list (b.map WData.int)]/\h.get? a=aa {cls:=.type "list",data:=.seq m.toArray}/\IntsAre m b/\b.length<=n:=by
 have i:WShape.hasAll [] args [.list .int]=ah:=(pre_splitW j).1;have o:l.pre.holds [] {args:=args}=ah:=(pre_splitW j).2;obtain⟨d,r,rfl,z,y⟩:=hasAllW_cons i;obtain rfl:=hasAllW_nil y;obtain⟨C,rfl,x⟩:=hasW_list z;obtain⟨b,rfl⟩:=items_int x;have B:b.length<=n:=by
  unfold OpenLaw.pre at o;have f:(WTm.not (.lt (.lit (.int (n:Int))) (.len (.arg 0)))).holds [] {args:=[.list (b.map .int)]}=ah:=by have f:=(holds_andW o).1;rw[w]at f;exact f
  have e:=condW_of f (w_not (w_lt w_lit (w_len_list (w_arg rfl))));rw[bZ]at e;refine Nat.le_of_not_lt λq=>?_;have u:(n:Int)<((b.length:Nat):Int):=∅
  first
   | (rw[decide_eq_true u]at e;exact absurd e (by decide))
   | (simp at e;lia)
 cases g with
 |cons s p=>
  cases p;cases s with
  |list v A=>exact⟨_,_,b,rfl,rfl,v,Q6 b _ A,B⟩
theorem OL(l:OpenLaw)(args:List WData):l.row.toRowW.claim.post args (.bool ah) args=ah :=
 postW_of (r:=l.row.toRowW) (X:=(ah == ah))
  (show WShape.has [] (.bool ah) .bool=ah by first|rfl|decide|simp[WShape.has,WShape.arms,WShape.armsAll])
  (show(WTm.eq .res (.lit (.bool ah))).value [] {args:=args,res:=aa (.bool ah),after:=args}=aa (.bool (ah == ah))from w_eq_bool (w_res rfl) w_lit) rfl
theorem attach_call{l:OpenLaw}{n:Nat}{q:aQ}{e:List Str}{XP:(Str->Option ai)->aB->Prop}{C:aI->aB->Prop}{d:DefRec}(K:l.most=aa n) (F:d.params.defaults=[])(call:∀(w:aI) (c b:ao) (p v:Str->Option ai) (i:af) (o:Obj) (u s g:ai) (a:af) (h:List ai) (m:List Int),Ground q e [] XP w c p v b.heap->C w b.heap -> b.heap.get? i=aa o->o.data=.func (docDef d.name d.params d.body d.scope u s g)->b.heap.CodeRec s d.name->p d.name=aa (.ref i) -> b.heap.get? a=aa {cls:=.type "list",data:=.seq h.toArray}->IntsAre h m->m.length<=n->b.gens=#[] -> qo (au l.prog w) s_ (.call (.ref i) ⟨[.ref a],[]⟩) (λr j=>r=.ok (.ret (.bool ah))/\OldK b.heap j.heap/\j.os=b.os/\m8 j.gens) b):WalkO q e XP C l.row.toRowW d [] (λf h=>PySem.call f h):=by intro w c b p v G Y i o u s g dV kV J O W A D N B y as E z H x M;obtain rfl:dV=.none:=Dflts.none A F;obtain rfl:kV=.none:=Dflts.noKw A;obtain⟨a,h,m,rfl,rfl,X,Z,T⟩:=Sk K E x;refine enter_call (zd (call w c b p v i o u s g a h m G Y J (fd_plain O) W D X Z T N) λr j I=>?_);obtain⟨rfl,S,Q,P⟩:=I;exact⟨.inl ⟨.bool ah,.bool ah,[],rfl,λ_=>rfl,.bool ah,OL l _,λ_=>⟨List.Pairwise.nil,λ_ L=>(nomatch L)⟩⟩,S,Q,P⟩
end Att
namespace L2
theorem D6:∀{a:List ai}{b:List Int},IntsAre a b->bA (b.map V.int) a
 |_,_,.nil=>.nil
 |_,_,.cons n t h=>.cons ⟨t,rfl⟩ (D6 h)
def BH(H:Hp):Prop:=∀b,H b=ae\/(∃o a,H b=aa (.frz o (.lst a)))\/∃q,H b=aa (.tbl q)
def jY(K:ay):Hp:=λb=>match qj K "road" with
 |some (_,P)=>if b=P then aa (.tbl "road.<locals>.<lambda>")else ae
 |none=>ae
theorem pV{K:ay}{b:af}{u:HO}(h:jY K b=aa u):u=.tbl "road.<locals>.<lambda>"/\∃c,qj K "road"=aa (c,b):=by
 unfold jY at h;split at h
 .rename_i c P e;split at h
  .rename_i a;subst a;cases h;exact⟨rfl,c,e⟩
  .cases h
 .cases h
theorem EQ{K:ay}{c P:af}(h:qj K "road"=aa (c,P)):jY K P=aa (.tbl "road.<locals>.<lambda>"):=by unfold jY;rw[h];exact if_pos rfl
def En(K:ay)(h:aB):Prop:=∀c P,qj K "road"=aa (c,P)->PySem.W.codeHdIn K c P=ah/\K.lookup P=ae/\h.get? P=aa {cls:=.none,data:=.fields #[]}
theorem OB{P:aQ}{w:aI}{K:ay}{L mb:Str->Option ai}{CX:ip}{k:Nat}{fa a:af}{fd:ja}{x:Str}{sp:Sp}{f:ao}{G:List ai}{M:List Int}(KX:K.In f.heap) (tT:f.heap.Ns cZ L) (j:f.heap.Ns qi mb) (qO:∀x:Str,x≠"__name__"->mb x=fF x) (O:f.heap.NoLimit) (kZ:∃E B,L "__builtins__"=aa (.ref E)/\E≠qi/\f.heap.get? E=aa B/\B.cls=.type "module"/\B.dict=aa qi/\B.data=.plain) (C:En K f.heap) (hg:f.gens=#[])(y:f.heap.get? a=aa {cls:=.type "list",data:=.seq G.toArray}) (hi:IntsAre G M) (hl:M.length<=bg) (hr:g7 k s_)(F:∀p:aB,K.In p->p.Ns cZ L->lg P w K L p CX k fa fd [x] sp) (S9:∀(s:ao) (u:ai),BindsTo s fd ⟨[u],[]⟩ [(x,u)])(kY:∀H:Hp,BH H->cz K H a (M.map V.int)->sp [.ref a] H (λv _=>v=.bl ah) λ_ _ _=>False)(hCX:∀H e l,CX [] H f (λ_ _ _=>False) e l->False):qo (au P w) s_ (.call (.ref fa) ⟨[.ref a],[]⟩) (λr l=>r=.ok (.ret (.bool ah))/\OldK f.heap l.heap/\l.os=f.os/\m8 l.gens) f:=by
 have rv:=D6 hi;have N:=hi.length;have D:∀H:Hp,BH H->cz K H a (M.map V.int)->dw P w H f.heap->(∀b,H b≠ae->b=a\/∃c,qj K "road"=aa (c,b))->(H a≠ae->K.lookup a=ae)->xi K H ->
   qo (au P w) s_ (.call (.ref fa) ⟨[.ref a],[]⟩) (λr l=>r=.ok (.ret (.bool ah))/\OldK f.heap l.heap/\l.os=f.os/\m8 l.gens) f:=by
  intro H hO hS I Y hK hTH;have g:∀{b:af}{o:Obj},f.heap.get? b=aa o->H b=ae->(mO f.heap H).get? b=aa o:=λe n=>NM e n;have noA:∀{b:af}{o:Obj}{S:Array tf}{T:Nat},f.heap.get? b=aa o->o.data=.dict S T->H b=ae:=λ{b o S T} e d=>by
   cases q:H b with
   |none=>rfl
   |some u=>
    rcases Y b (by rw[q];simp)with i|⟨c,i⟩
    .subst i;rw[y]at e;cases e;have d':Data.seq G.toArray _=Data.dict S T:=d;cases d'
    .rw[(C c b i).2.2]at e;cases e;cases d
  have A:∀{b:af}{m:Str->Option ai},f.heap.Ns b m->(mO f.heap H).Ns b m:=λ{b m} ⟨o,S,T,e,d,r⟩=>⟨o,S,T,g e (noA e d),d,r⟩
  have Q:K.In (mO f.heap H):=λb o e=>g (KX b o e) (by
   cases q:H b with
   |none=>rfl
   |some u=>
    rcases Y b (by rw[q];simp)with i|⟨c,i⟩
    .subst i;rw[hK (by rw[q];simp)]at e;cases e
    .rw[(C c b i).2.1]at e;cases e)
  have hM:Mod K L (mO f.heap H):=⟨Q,A tT,⟨mb,A j,qO⟩,(let ⟨mc,h1,h2⟩:=O;⟨mc,A h1,h2⟩),by
   obtain⟨E,B,b1,b2,X,b4,b5,b6⟩:=kZ;refine⟨E,B,b1,b2,g X ?_,b4,b5,b6⟩;cases q:H E with
   |none=>rfl
   |some u=>
    rcases Y E (by rw[q];simp)with i|⟨c,i⟩
    .subst i;rw[y]at X;cases X;simp at b4
    .rw[(C c E i).2.2]at X;cases X;simp at b4⟩
  have e0:xO P w K L (mO f.heap H) s_ [] f H:=⟨rfl,hM,λb o e=>SL e,nq (JQ _ _),trivial,λb j=>absurd (show b∈([]:List af)from j) (by simp),I,.of_eq hg,hTH⟩
  refine zd ((F _ Q (A tT)).run s_ [] f H ⟨[.ref a],[]⟩ [.ref a] [.ref a] _ _ hr e0 (S9 f (.ref a)) (.cons rfl .nil) (kY H hO hS)) λr l h=>?_;cases r with
  |error e=>exact(hCX H e l h).elim
  |ok fl=>
   cases fl with
   |next=>exact ml h
   |brk=>exact ml h
   |cont=>exact ml h
   |ret u=>
    obtain⟨v,H',os,W,un,JE,r',q⟩:=h;have q':v=.bl ah:=q;subst q';obtain rfl:u=Value.bool ah:=r';refine⟨rfl,⟨λb o e=>?_,λb o e=>un.there b o e (by simp)⟩,os,W⟩;cases q:H b with
    |none=>exact .inl (un.keep b o e q (by intro z;exact absurd (show b∈([]:List af)from z) (by simp)) (by simp))
    |some u=>
     rcases hO b with z|⟨B,xs,z⟩|⟨qn,z⟩
     .rw[q]at z;cases z
     .have z2:=un.frzs b B _ z;obtain⟨J,_⟩:=I b _ z;obtain⟨e2,_⟩:=JE b _ z2;rw[e]at J;cases J;exact .inl e2
     .rcases Y b (by rw[q];simp)with i|⟨c,i⟩
      .subst i;obtain⟨ps,J,_⟩:=I b _ z;rw[y]at J;cases J
      .obtain⟨k1,k2,k3⟩:=C c b i;rw[k3]at e;cases e;obtain⟨oc,Z,_,_,_,_,_,_,_,f1,f2,f3,f4,_⟩:=PySem.W.codeHd_of_K KX k1;obtain⟨ps,J,_⟩:=JE b _ (un.tbls b _ z);exact .inr (.inl ⟨⟨c,oc,Z,f1,f2,f3,f4⟩,rfl,#[],ps,rfl,by rw[J];simp⟩)
 cases hk:K.lookup a with
 |some o=>
  have e:=KX a o hk;rw[y]at e;cases e;have tH:∀b u,jY K b=aa u->cc P w (jY K) f.heap b u:=λb u z=>by
   obtain⟨rfl,c,e⟩:=pV z;exact⟨#[],(C c b e).2.2,trivial,λpos cv h=>by cases h⟩
  refine D (jY K) (λb=>?_) (.inr ⟨_,G.toArray,_,hk,rfl,rfl,rfl,by rw[cX,N];exact hl,by simpa using rv⟩) tH (λb z=>?_) (λz=>?_) λx hx c P e=>?_
  .cases q:jY K b with
   |none=>exact .inl rfl
   |some u=>exact .inr (.inr ⟨_,congrArg aa (pV q).1⟩)
  .cases q:jY K b with
   |none=>exact absurd q z
   |some u=>exact .inr (pV q).2
  .cases q:jY K a with
   |none=>exact absurd q z
   |some u=>
    obtain⟨_,c,i⟩:=pV q;rw[(C c a i).2.2]at y;cases y
  .obtain rfl:x = "road":=by simpa[B3]using hx
   exact EQ e
 |none=>
  have ta:∀c P,qj K "road"=aa (c,P)->P≠a:=λc P e z=>by subst z;rw[(C c P e).2.2]at y;cases y
  refine D (λb=>if b=a then aa (.frz {cls:=.type "list",data:=.seq G.toArray} (.lst (M.map V.int)))else jY K b) (λb=>?_) (.inl (.inr ⟨{cls:=.type "list",data:=.seq G.toArray},if_pos rfl⟩)) (λb u z=>?_) (λb z=>?_) (λ_=>hk) λx hx c P e=>?_
  .by_cases j:b=a
   .exact .inr (.inl ⟨_,_,if_pos j⟩)
   .cases q:jY K b with
    |none=>exact .inl ((if_neg j).trans q)
    |some u=>exact .inr (.inr ⟨_,(if_neg j).trans (q.trans (congrArg aa (pV q).1))⟩)
  .by_cases j:b=a
   .have z':=(if_pos j).symm.trans z;cases z';subst j;exact⟨y,by rw[bZ];exact hl,G,_,rv,y⟩
   .obtain⟨rfl,c,e⟩:=pV ((if_neg j).symm.trans z);exact⟨#[],(C c b e).2.2,trivial,λpos cv h=>by cases h⟩
  .by_cases j:b=a
   .exact .inl j
   .cases q:jY K b with
    |none=>exact absurd ((if_neg j).trans q) z
    |some u=>exact .inr (pV q).2
  .obtain rfl:x = "road":=by simpa[B3]using hx
   exact(if_neg (ta c P e)).trans (EQ e)
theorem TU{l:Cz}{n k:Nat}{q:aQ}{c:List Str}{XP:(Str->Option ai)->aB->Prop}{E:aI->aB->Prop}{d:DefRec}{K:Params->ay}{CX:aI->ip}{sp:aI->Sp}{x:Str}(O:l.most=aa n) (r:n<=bg) (L:d.params.defaults=[]) (N:g7 k s_)(C:∀(w:aI) (h:aB),E w h->(K w.params).In h/\En (K w.params) h)(F:∀(w:aI) (g:Str->Option ai) (m:af) (h:aB),(K w.params).In h->h.Ns cZ g->g d.name=aa (.ref m) -> ∃z:ja,(∀(s:ao) (u:ai),BindsTo s z ⟨[u],[]⟩ [(x,u)]) /\ ∀b:aB,(K w.params).In b->b.Ns cZ g->lg l.prog w (K w.params) g b (CX w) k m z [x] (sp w))(M:∀(w:aI) (H:Hp) (a:af) (j:List Int),j.length<=n->BH H->cz (K w.params) H a (j.map V.int)->sp w [.ref a] H (λv _=>v=.bl ah) λ_ _ _=>False)(y:∀(w:aI) (H:Hp) (s:ao) (e:ai) (p:ao),CX w [] H s (λ_ _ _=>False) e p->False):PySem.W.WalkO q c XP E l.row.toRowW d [] (λf A=>PySem.call f A):=by refine Att.attach_call O L λw B i g mb m o pm cd X a A j G Y ho hd bD J Z Dh D P=>?_;have I:=(C w _ Y).1;obtain⟨z,Q,W⟩:=F w g m _ I G.T.g J;exact OB I G.T.g G.T.b G.T.builtins G.T.nolimit G.T.bmain (C w _ Y).2 P Z Dh (c0 D r) N W Q (λH T S=>M w H a j D T S) λH e p=>y w H i e p
def lh(s:bn):Arguments:=match s with
 |.FunctionDef _ a _ _ _ _ _ _ _ _=>a
 |_=>{posonlyargs:=[],args:=[],vararg:=ae,kwonlyargs:=[],kw_defaults:=[],kwarg:=ae,defaults:=[]}
def iY(s:bn):List bn:=match s with
 |.FunctionDef _ _ b _ _ _ _ _ _ _=>b
 |_=>[]
def a_(s:bn):eF:=match s with
 |.FunctionDef _ _ _ _ _ _ a _ _ _=>a
 |_=>{kind:=.function,names:=[],isGenerator:=ak,isCoroutine:=ak}
abbrev E0:XK:=λ_ _ _=>False
structure pG(K:ay)(x qual:Str)(st:bn)(f:af)(fd:ja):Prop where
 ex:∃(oc:ai) (od:Option af) (kV doc pm:ai) (an:Option af) (bi ct:ai) (osl:Array (Option ai)),
  fd=kM x qual (lh st) (iY st) (a_ st) .none kV doc pm an bi ct/\K.lookup f=aa ⟨oc,od,.func fd,osl⟩/\zf K bi qual=ah
 kp:vM K (.ref f)=ah
section
variable{P:aQ}{w:aI}{K:ay}{b:Str->Option ai}{a:aB}
theorem pG.binds{x c:Str}{e:bn}{f:af}{o:ja}{i:List Str}(F:pG K x c e f o)(h:∀(kV d j:ai) (n:Option af) (m l:ai) (g:List ai),g.length=i.length->hZ (kM x c (lh e) (iY e) (a_ e) .none kV d j n m l) ⟨g,[]⟩=pure (i.zip g)):Binds K o i []:=by obtain⟨oc,q,kV,d,j,n,m,l,p,rfl,r,s⟩:=F.ex;exact .all (h kV d j n m l)
theorem G5{x d:Str}{e:bn}{f:af}{oc:ai}{o n:Option af}{h:Array (Option ai)}{kV g j i m:ai}(l:K.lookup f=aa ⟨oc,o,.func (kM x d (lh e) (iY e) (a_ e) .none kV g j n i m),h⟩)(c:zf K i d=ah) (k:vM K (.ref f)=ah):pG K x d e f (kM x d (lh e) (iY e) (a_ e) .none kV g j n i m):=⟨⟨oc,o,kV,g,j,n,i,m,h,rfl,l,c⟩,k⟩
end
theorem GT{n:Nat}(h:n<=1000):n<bg:=CA h (by decide)
section
variable{X:Cx}
theorem pv(i:Nat){x:Str}{a:Pos}(d:X.N[i]?=aa x:=by rfl)(b:eC X.env.scope x:=by first|exact Or.inl rfl|exact Or.inr (Or.inl rfl)|exact Or.inr (Or.inr rfl))(c:(x==("__debug__":Str))=ak:=by decide)(e:(x==("__classdict__":Str))=ak:=by decide):PE X (.Name x a) (Hu i):=fA d b c e
theorem L8:gg X (.builtin "len") (λc H Q=>∃a b,c=[V.ref a]/\H a=aa (.dK b)/\Q (.int b.length) H):=by
 intro l s g H c i Q I r h;obtain⟨a,b,rfl,e,q⟩:=h;obtain⟨u,rfl,d⟩:=vals1 r;cases d;exact Q5 I (.inl e) λt j f=>⟨.int b.length,H,f,⟨t,rfl⟩,q⟩
end
theorem mK{A B:Prop}(h:B):if ak=ah then A else B:=by rw[if_neg eG];exact h
theorem mT{A B:Prop}(h:A):if ah=ah then A else B:=by rw[if_pos rfl];exact h
def Same(H a:Hp):Prop:=∀b o,H b=aa o->a b=aa o
theorem Same.refl(H:Hp):Same H H:=λ_ _ h=>h
theorem Same.trans{H e d:Hp}(a:Same H e)(b:Same e d):Same H d:=λc o h=>b c o (a c o h)
theorem Same.free{H a:Hp}(e:Same H a){l:af}(h:a l=Option.none):H l=Option.none:=by
 cases q:H l with
 |none=>rfl
 |some o=>
  rw[e l o q]at h;cases h
end L2
set_option maxHeartbeats 4000000
namespace L2
def iu(a:Env):List (Str×gL)->List (Str×af)->List (Str×af)
 |[],b=>b
 | (n,k)::r,b=>if k == .free then iu a r ((n,(a.cells.lookup n).getD 0)::b)else iu a r b
theorem Ri{d:Env}{y:Str}{c:af}(b:List (Str×gL))(f:List (Str×af))(l:∀x∈b,x.2=.free->∃c,d.cells.lookup x.1=aa c)(h:(iu d b f).lookup y=aa c):f.lookup y=aa c\/d.cells.lookup y=aa c:=by
 induction b generalizing f with
 |nil=>exact .inl h
 |cons a r g=>
  obtain⟨n,k⟩:=a;unfold iu at h;have j:∀x∈r,x.2=.free->∃c,d.cells.lookup x.1=aa c:=λx m=>l x (fj _ m);split at h
  .rename_i o;obtain⟨s,i⟩:=l (n,k) (f8 ..) (by simpa using o);rcases g _ j h with q|q
   .rw[kR]at q;split at q
    .rename_i p;have e:y=n:=by simpa using p
     subst e;rw[i]at q;exact .inr (by rw[i];exact q)
    .exact .inl q
   .exact .inr q
  .exact g _ j h
theorem GV{a:Type}{n:Str}{v:a}{l:List (Str×a)}:((n,v)::l).lookup n=aa v:=by rw[kR];simp
theorem Ge{a:Type}{n y:Str}{v:a}{l:List (Str×a)}(h:∃c,l.lookup y=aa c):∃c,((n,v)::l).lookup y=aa c:=by
 rw[kR];split
 .exact⟨_,rfl⟩
 .exact h
theorem Bm{d:Env}{y:Str}:∀(a:List (Str×gL)) (b:List (Str×af)),(∃c,b.lookup y=aa c)->∃c,(iu d a b).lookup y=aa c
 |[],b,h=>h
 | (n,k)::r,b,h=>by
  unfold iu;split
  .exact Bm r _ (Ge h)
  .exact Bm r _ h
theorem zT{g:Env}{y:Str}:∀(a:List (Str×gL)) (i:List (Str×af)),(∃x∈a,x.1=y/\x.2=.free)->∃c,(iu g a i).lookup y=aa c
 |[],i,⟨_,h,_⟩=>by simp at h
 | (n,k)::r,i,⟨x,b,f,d⟩=>by
  unfold iu;rcases br.mp b with e|b
  .subst e;simp only at f d;subst f d;simp only[beq_self_eq_true,if_true];exact Bm r _ ⟨_,GV⟩
  .split
   .exact zT r _ ⟨x,b,f,d⟩
   .exact zT r _ ⟨x,b,f,d⟩
theorem BE{b:Env}:∀(a:List (Str×gL)) (g:List (Str×af)),(∀x∈a,x.2=.free->∃c,b.cells.lookup x.1=aa c) -> (forIn (m:=Sem) a g λx r=>match x with | (d,f)=>if(f == NameKind.free)=ah then do let c <-cellOf b d;pure (ForInStep.yield ((d,c)::r))else pure (ForInStep.yield r))=pure (iu b a g)
 |[],g,_=>rfl
 | (n,k)::r,g,h=>by
  have j:∀x∈r,x.2=.free->∃c,b.cells.lookup x.1=aa c:=λx o=>h x (fj _ o);rw[List.forIn_cons];unfold iu;by_cases i:(k == NameKind.free)=ah
  .obtain⟨c,l⟩:=h (n,k) (f8 ..) (by simpa using i);simp only[i,if_true];have e:cellOf b n=pure c:=by unfold cellOf;rw[l]
   rw[e];simp only[pure_bind];rw[BE r _ j,l];rfl
  .simp only[i,if_false,pure_bind];exact BE r _ j
theorem RG{a:eF}{b:Env}(h:∀x∈a.names,x.2=.free->∃c,b.cells.lookup x.1=aa c):closureFor a b=pure (iu b a.names []):=by unfold closureFor;have q:=BE a.names [] h;simp only[bind_pure_comp]at q ⊢;rw[q];rfl
theorem yU{n c:Nat}(b:n+1<=c)(a:c<n):False:=∅
theorem z8:∀(c:List (Str×gL)) (n:Nat) (a b:List (Str×af)),f_ n c (a++b)=f_ n c a++b
 |[],_,_,_=>rfl
 | (x,k)::r,n,a,b=>by
  unfold f_;split
  .exact z8 r (n+1) ((x,n)::a) b
  .exact z8 r n a b
theorem xA{y:Str}{c:af}:∀(b:List (Str×gL)) (n:Nat) (a:List (Str×af)),(y,c)∈f_ n b a->(y,c)∈a\/(y,.cell)∈b
 |[],_,_,h=>.inl h
 | (x,k)::r,n,a,h=>by
  unfold f_ at h;split at h
  .rename_i d;rcases xA r _ _ h with z|z
   .rcases br.mp z with z|z
    .cases z;have e:k=.cell:=by simpa using d
     subst e;exact .inr (f8 ..)
    .exact .inl z
   .exact .inr (fj _ z)
  .rcases xA r _ _ h with z|z
   .exact .inl z
   .exact .inr (fj _ z)
theorem B0{y:Str}:∀(b:List (Str×gL)) (n:Nat) (a:List (Str×af)),(∃c,a.lookup y=aa c)->∃c,(f_ n b a).lookup y=aa c
 |[],_,_,h=>h
 | (x,k)::r,n,a,h=>by
  unfold f_;split
  .exact B0 r _ _ (Ge h)
  .exact B0 r _ _ h
theorem y_{y:Str}:∀(b:List (Str×gL)) (n:Nat) (a:List (Str×af)),(y,.cell)∈b->∃c,(f_ n b a).lookup y=aa c
 | (x,k)::r,n,a,h=>by
  unfold f_;rcases br.mp h with e|h
  .cases e;exact B0 r _ _ ⟨_,GV⟩
  .split
   .exact y_ r _ _ h
   .exact y_ r _ _ h
def lY(X:Cx)(a:eF)(C:af):List (Str×af):=f_ (C+1) a.names (iu X.env a.names [])
theorem Bd(X:Cx)(a:eF)(C:af):lY X a C=f_ (C+1) a.names []++iu X.env a.names []:=z8 a.names (C+1) [] _
theorem Og{M:Model}{A:aX}{E:ai->ao->Prop}{s:ao}{a:eF}{b:af}{i:List (Str×af)}{c:Str}{e:Env}{Q:Env->ao->Prop}(j:Q (newEnv a s.heap.objs.size b (f_ (s.heap.objs.size+1) a.names i) c ae .none (aa e) qi) {s with heap:=pushCells (s.heap.push {cls:=.type "dict",data:=.dict #[]}) a.names}):aq M A (newFunctionEnv a b i [] c ae .none (aa e)) Q E s:=by
 simp only[newFunctionEnv,Option.isSome_some,if_true];refine ap (wpAny_alloc ?_);refine ap (wpAny_layCells _ (λh d g=>by cases f:d == NameKind.cell <;> simp[f]) _ _ _ _ ?_);rw[show({s with heap:=s.heap.push {cls:=.type "dict",data:=.dict #[]}}:ao).heap.objs.size=s.heap.objs.size+1 from vS ..];refine ap ?_;rw[List.forIn_nil];exact aD (aD j)
theorem Fa{s:ao}{a:List (Str×gL)}{y:Str}{c:af}(h:(y,c)∈f_ (s.heap.objs.size+1) a []):(pushCells (s.heap.push {cls:=.type "dict",data:=.dict #[]}) a).IsCell c ae/\s.heap.objs.size+1<=c/\∀z,(z,c)∈f_ (s.heap.objs.size+1) a []->y=z:=by have ok:=cellsFrom_ok a (s.heap.push {cls:=.type "dict",data:=.dict #[]}) (s.heap.objs.size+1) [] ⟨λ_ _ d=>(nomatch d),List.Pairwise.nil⟩ (by rw[vS];exact aZ _);rw[vS]at ok;exact⟨(ok.empty y c h).1,(ok.empty y c h).2,λz b=>name_of_addr ok.apart h b⟩
def bu(X:Cx)(a:eF)(b:List Str)(C:af)(s₀:ao)(H₀:Hp)(ex:List af)(pn:List (af×Obj)):Cx where
 prog:=X.prog
 w:=X.w
 K:=X.K
 mg:=X.mg
 base:=X.base
 A:=X.A
 N:=b
 s₀:=s₀
 H₀:=H₀
 env:=compEnvC a (lY X a C) C X.env
 outer:=X.stack
 stack:=X.stack
 ex:=ex
 fn:=λy=>a.names.lookup y == aa .cell
 calm:=X.calm
 pn:=X.pn++pn
 xe:=λ_ _=>False
def eU(b:St)(a:List Nat):St:=a.map λi=>(b[i]?).join
structure iQ(X:Cx)(scope:eF)(x:Str)(N':List Str)(cap:List Nat):Prop where
 kind:scope.kind=.function
 cells:∀y∈scope.names,y.2=.cell->scope.names.lookup y.1=aa .cell
 names:∀y∈scope.names,y.2=.local->scope.names.lookup y.1=aa .local
 loc:scope.names.lookup x=aa .local\/scope.names.lookup x=aa .cell
 free:∀y∈scope.names,y.2=.free->X.env.kindOf y.1=aa .cell\/X.env.kindOf y.1=aa .free
 nd:N'.Nodup
 hd:N'.head?=aa x
 len:N'.length=cap.length+1
 caps:∀i j y,N'[i+1]?=aa y->cap[i]?=aa j->(X.N[j]?=aa y/\scope.names.lookup y=aa .free)\/(X.N.length<=j/\scope.names.lookup y=aa .local)
theorem OT{a:List (Str×gL)}{y:Str}{k:gL}(h:a.lookup y=aa k):∃x∈a,x.1=y/\x.2=k:=⟨(y,k),lA h,rfl,rfl⟩
theorem AT{a:Env}{x:Str}:∀{b:List (Str×gL)}{k:gL}, (b.map λ(n,k)=>if(k == NameKind.free&&a.scope.kind == .function&&a.kindOf n == aa .cell)then(n,NameKind.cell)else(n,k)).lookup x=aa k -> ∃e,b.lookup x=aa e/\(k=e\/(e=.free/\k=.cell))
 |[],_,h=>by simp at h
 | (n,c)::r,k,h=>by
  change CB x ((if(c == NameKind.free&&a.scope.kind == .function&&a.kindOf n == aa .cell)=ah then(n,NameKind.cell)else(n,c))::_)=_ at h;rw[kR];by_cases d:(c == NameKind.free&&a.scope.kind == .function&&a.kindOf n == aa .cell)=ah
  .rw[if_pos d,kR]at h;split at h
   .rename_i f;cases h;have:c=.free:=by simp at d;exact d.1.1
    exact⟨c,rfl,.inr ⟨this,rfl⟩⟩
   .exact AT h
  .rw[if_neg d,kR]at h;split at h
   .rename_i f;cases h;exact⟨c,rfl,.inl rfl⟩
   .exact AT h
theorem B4{a:Env}{x:Str}:∀{b:List (Str×gL)},b.lookup x=aa .free -> let q:=(b.map λ(n,k)=>if(k == NameKind.free&&a.scope.kind == .function&&a.kindOf n == aa .cell)then(n,NameKind.cell)else(n,k)).lookup x
  q=aa .cell\/q=aa .free
 |[],h=>by simp at h
 | (n,c)::r,h=>by
  show CB x ((if(c == NameKind.free&&a.scope.kind == .function&&a.kindOf n == aa .cell)=ah then(n,NameKind.cell)else(n,c))::_)=_\/CB x ((if(c == NameKind.free&&a.scope.kind == .function&&a.kindOf n == aa .cell)=ah then(n,NameKind.cell)else(n,c))::_)=_;rw[kR]at h;by_cases e:(c == NameKind.free&&a.scope.kind == .function&&a.kindOf n == aa .cell)=ah
  .rw[if_pos e,kR];cases d:x == n with
   |true=>exact .inl rfl
   |false=>rw[d]at h;exact B4 h
  .rw[if_neg e,kR];cases d:x == n with
   |true=>rw[d]at h;cases h;exact .inr rfl
   |false=>rw[d]at h;exact B4 h
theorem xZ{a:Env}{x:Str}:∀{b:List (Str×gL)},b.lookup x=aa .cell -> (b.map λ(n,k)=>if(k == NameKind.free&&a.scope.kind == .function&&a.kindOf n == aa .cell)then(n,NameKind.cell)else(n,k)).lookup x=aa .cell
 |[],h=>by simp at h
 | (n,d)::r,h=>by
  show CB x ((if(d == NameKind.free&&a.scope.kind == .function&&a.kindOf n == aa .cell)=ah then(n,NameKind.cell)else(n,d))::_)=_;rw[kR]at h;by_cases e:(d == NameKind.free&&a.scope.kind == .function&&a.kindOf n == aa .cell)=ah
  .rw[if_pos e,kR];cases c:x == n with
   |true=>rfl
   |false=>rw[c]at h;exact xZ h
  .rw[if_neg e,kR];cases c:x == n with
   |true=>rw[c]at h;cases h;rfl
   |false=>rw[c]at h;exact xZ h
section
variable{X:Cx}{A:List (af×Obj)}{w:St}{H:Hp}{s:ao}{f:eF}{x:Str}{D:List Str}{g:List Nat}
theorem Inv.freeHas(I:Inv X A w H s)(B:iQ X f x D g):∀y∈f.names,y.2=.free->∃c,X.env.cells.lookup y.1=aa c:=λy a e=>I.ok.has y.1 (B.free y a e)
theorem Inv.clIn(I:Inv X A w H s)(B:iQ X f x D g){y:Str}{c:af}(h:(iu X.env f.names []).lookup y=aa c):X.env.cells.lookup y=aa c:=by
 rcases Ri f.names [] (I.freeHas B) h with q|q
 .simp at q
 .exact q
theorem Inv.cbIn(I:Inv X A w H s)(B:iQ X f x D g){C:af}{y:Str}{c:af}(h:(lY X f C).lookup y=aa c):((y,c)∈f_ (C+1) f.names []/\f.names.lookup y=aa .cell)\/((iu X.env f.names []).lookup y=aa c/\X.env.cells.lookup y=aa c):=by
 rw[Bd,IQ]at h;cases e:(f_ (C+1) f.names []).lookup y with
 |none=>rw[e]at h;exact .inr ⟨h,I.clIn B h⟩
 |some a=>
  rw[e]at h;cases h;have m:=lA e;rcases xA _ _ _ m with z|z
  .cases z
  .exact .inl ⟨m,B.cells _ z rfl⟩
theorem Inv.cbOld(I:Inv X A w H s)(B:iQ X f x D g){C:af}{y:Str}{c:af}(h:(iu X.env f.names []).lookup y=aa c)(a:f.names.lookup y=aa .free):(lY X f C).lookup y=aa c:=by
 rw[Bd,IQ];cases e:(f_ (C+1) f.names []).lookup y with
 |none=>exact h
 |some b=>
  rcases xA _ _ _ (lA e)with z|z
  .cases z
  .have:=B.cells _ z rfl;rw[a]at this;cases this
theorem Inv.block{fp:List af}{E:aB}{m:Str->Option ai}{t':Nat}(hh:E=pushCells (s.heap.push {cls:=.type "dict",data:=.dict #[]}) f.names)(I:Inv X A w H s)(B:iQ X f x D g)(W:∀b∈fp,ly X A H b)(hfo:∀b∈fp,∃o,s.heap.get? b=aa o)(tT:E.Ns s.heap.objs.size m)(F:∀b o,s.heap.get? b=aa o->E.get? b=aa o):Inv (bu X f D s.heap.objs.size s H fp A) [] (ae::eU w g) H {s with heap:=E,toks:=t'}:=by
 have N:∀x c,X.env.cells.lookup x=aa c->c<s.heap.objs.size:=λx c e=>(I.cell x c e).elim λv q=>q.lt;have C:∀{y:Str}{c:af},(y,c)∈f_ (s.heap.objs.size+1) f.names []->E.IsCell c ae/\s.heap.objs.size+1<=c/\∀z,(z,c)∈f_ (s.heap.objs.size+1) f.names []->y=z:=λh=>by rw[hh];exact Fa h
 have lk:∀y k,(compEnvC f (lY X f s.heap.objs.size) s.heap.objs.size X.env).kindOf y=aa k->∃O,f.names.lookup y=aa O/\(k=O\/(O=.free/\k=.cell)):=λy k h=>AT h;have J:∀y,f.names.lookup y=aa .free->∃c,(iu X.env f.names []).lookup y=aa c:=λy h=>zT f.names [] (OT h);have nfs:∀b∈gi X.stack,b≠s.heap.objs.size:=λb G e=>by
  rcases br.mp (I.stkSub b G)with z|z
  .exact absurd I.lt (by rw[<-z,e];exact gu _)
  .exact I.nofs (nq e.symm) z
 refine⟨⟨I.ok.mod,B.kind,I.ok.glob,I.ok.blt,aZ _,λy z c h1 h2=>?_,λy Q=>?_,λy c h fI=>?_,I.ok.hd,I.ok.frames,.inl rfl,λb G=>?_,λb o e=>I.bs b o e,c0 I.ok.bsz I.sz,λb o e G=>?_,λb G hf=>?_,I.stack,(λb G=>I.stkFree b G),I.tab⟩,rfl,I.bare,Un.kept F,⟨m,tT,λi y v e1 S e3=>?_⟩,λy c h=>?_,I.hok.fresh (aZ _),λy c h=>?_,λp hp=>?_,I.hok.kept F,?_⟩
 .-- inj
  rcases I.cbIn B h1 with⟨a1,a2⟩|⟨a1,a2⟩ <;> rcases I.cbIn B h2 with⟨b1,b2⟩|⟨b1,b2⟩
  .exact(C a1).2.2 z b1
  .exact(yU (C a1).2.1 (N _ _ b2)).elim
  .exact(yU (C b1).2.1 (N _ _ a2)).elim
  .exact I.ok.inj y z c a2 b2
 .-- has
  show ∃c,(lY X f s.heap.objs.size).lookup y=aa c;have mz:f.names.lookup y=aa .free->∃c,(lY X f s.heap.objs.size).lookup y=aa c:=λq=>(J y q).imp λc hc=>I.cbOld B hc q;rcases Q with Q|Q
  .obtain⟨O,q,z|⟨z,_⟩⟩:=lk y _ Q
   .subst z;exact y_ _ _ _ (lA q)
   .subst z;exact mz q
  .obtain⟨O,q,z|⟨_,z⟩⟩:=lk y _ Q
   .subst z;exact mz q
   .cases z
 .-- cab
  have hk:f.names.lookup y=aa .cell:=by simpa using(show(f.names.lookup y == aa .cell)=ah from h)
  show s.heap.objs.size<=c;rcases I.cbIn B fI with⟨a1,a2⟩|⟨a1,a2⟩
  .have:=(C a1).2.1;lia
  .obtain⟨c',P⟩:=y_ (n:=s.heap.objs.size+1) (a:=[]) _ (lA hk);have e:(lY X f s.heap.objs.size).lookup y=aa c':=by rw[Bd,IQ,P];rfl
   have S:(lY X f s.heap.objs.size).lookup y=aa c:=fI;rw[e]at S;cases S;have:=(C (lA P)).2.1;lia
 .-- exf
  obtain⟨f0,f1,f2,f3,f4,f5⟩:=W b G;obtain⟨o,L⟩:=hfo b G;refine⟨λe=>absurd (bG L) (by rw[e];exact gu _),λy c h=>?_⟩;rcases I.cbIn B h with⟨a1,a2⟩|⟨a1,a2⟩
  .rintro rfl;exact yU (C a1).2.1 (bG L)
  .exact f4 y c a2
 .-- noex
  obtain⟨f0,f1,f2,f3,f4,f5⟩:=W b G;rcases f3 with z|z
  .exact I.ok.noex b o e z
  .exact absurd (gK (bG e) (c0 I.ok.bsz z)) (gu _)
 .-- exfs
  obtain⟨f0,f1,f2,f3,f4,f5⟩:=W b G;rcases br.mp (I.stkSub b hf)with z|z
  .exact f1 z
  .exact f2 z
 .-- loc
  cases i with
  |zero=>simp at S
  |succ i=>
   have K:(eU w g)[i]?=aa (aa v):=by simpa using S
   unfold eU at K;rw[d7]at K;cases Z:g[i]? with
   |none=>rw[Z]at K;cases K
   |some j=>
    rw[Z]at K;have T:(w[j]?).join=aa v:=cO K;have e5:w[j]?=aa (aa v):=by
     cases hq:w[j]? with
     |none=>rw[hq]at T;cases T
     |some o=>rw[hq]at T;exact congrArg aa T
    obtain⟨b1,b2⟩:=(B.caps i j y e1 Z).elim id λz=>by have:=(cA.mp e5).1;rw[I.len]at this;exact absurd this (Nat.not_lt.mpr z.1)
    obtain⟨mm,hn,hl⟩:=I.loc;have wj:=B.free _ (lA b2) rfl;have Y:eC X.env.scope y:=by
     rcases wj with z|z
     .exact .inr (.inl z)
     .exact .inr (.inr z)
    obtain⟨u,r,l⟩:=hl j y v b1 e5 Y;refine⟨u,r,.inr ⟨B4 b2,?_⟩⟩;rcases l with⟨l,_⟩|⟨_,c,hc,zM⟩
    .rcases wj with z|z
     .rw[l]at z;cases z
     .rw[l]at z;cases z
    .obtain⟨c',P⟩:=J y b2;have e6:=I.clIn B P;rw[hc]at e6;cases e6;obtain⟨M,L,hd⟩:=zM;exact⟨c,I.cbOld B P b2,M,F c M L,hd⟩
 .rcases I.cbIn B h with⟨a1,a2⟩|⟨a1,a2⟩
  .exact⟨ae,(C a1).1⟩
  .obtain⟨v,M,L,hd⟩:=I.cell y c a2;exact⟨v,M,F c M L,hd⟩
 .rcases I.cbIn B h with⟨a1,a2⟩|⟨a1,a2⟩
  .exact I.hok.fresh (c0 (tj _) (C a1).2.1)
  .exact I.freeC y c a2
 .have dR:p∈X.pn++A:=by simpa[bu]using hp
  obtain⟨e,n,ne,nf,d⟩:=I.pin p dR;refine⟨F _ _ e,n,df (bG e),λhf=>?_,d⟩;rcases br.mp (I.stkSub p.1 hf)with z|z
  .exact ne z
  .exact nf z
 .show(ae::eU w g).length=D.length;rw[B.len];simp[eU]
end
def si(X:Cx)(b:List aA)(t:TT):Prop :=
 ∀(d:List (af×Obj)) (s:ao) (a:St) (H:Hp) (Q:Bool->Hp->Prop),Inv X d a H s->t a H Q ->
  aq (au X.prog X.w) X.A (forIn b ah λc r=>if r=ah then do let ok <-m_ c X.env (bh c X.env);pure (ForInStep.yield ok)else pure (ForInStep.yield r)) (TP X d a Q) X.xe s
theorem Mi{P:aQ}{w:aI}{A:aX}{R:Result->ao->Prop}{s:ao}{l p g:aA}{i:List aA}{e:eF}{o:Pos}{q B:ai}{d:Env}(J:Nat->ao->Prop)(m:∀k n,J k n->aq (au P w) A (mi q) (λr z=>match r with
   |none=>R (.ok .next) z
   |some v=>aq (au P w) A (Cn p q v) (λ_ F=>aq (au P w) A (mh p d v) (λ_ E=>aq (au P w) A (forIn i ah λc r=>if r=ah then do let ok <-m_ c d (bh c d);pure (ForInStep.yield ok)else pure (ForInStep.yield r)) (λb u=>if b=ah then aq (au P w) A (bh l d) (λy D=>aq (au P w) A (call (.builtin "list.append") [B,y]) (λ_ C=>∃j,j<k/\J j C) (λ_ _=>False) D) (λ_ _=>False) u else ∃j,j<k/\J j u) (λ_ _=>False) E) (λ_ _=>False) F) (λ_ _=>False) z) (λ_ _=>False) n) (k:Nat) (h:J k s) :
  qo (au P w) A (.compLoop (.ListComp l [⟨p,g,i,0⟩] e o) 0 q B d) R s:=by
 refine codeAny_loop rfl J (λj n I=>?_) k h;show aq _ A (Sem.onRaise (compTurn (.ListComp l [⟨p,g,i,0⟩] e o) 0 q B d) (λx=>do noteFrame x d;theTreesLotGoes x)) _ _ n;refine wpAny_noted ?_;rw[compTurn_list];have no:∀(O:ai->ao->Prop) (a:ai) (b:ao),False->O a b:=λ_ _ _ f=>f.elim;refine ap (wpAny_standAt (ap (f9 (m j n I) (λr z H=>?_) (no _))));cases r with
 |none=>exact aD H
 |some v=>
  refine ap (f9 H (λ_ F N=>ap (f9 N (λ_ E M=>ap (f9 M (λb u G=>?_) (no _))) (no _))) (no _));cases b with
  |true=>exact ap (ap (f9 G (λy D L=>ap (f9 L (λ_ C K=>aD (aD ⟨rfl,K⟩)) (no _))) (no _)))
  |false=>exact aD ⟨rfl,G⟩
def LP:TT:=λ_ H Q=>Q ah H
theorem Ft{X:Cx}:si X [] LP:=λ_ _ _ H _ I h=>wpAny_tests_nil ⟨H,I,h⟩
theorem SG{X:Cx}{c:aA}{t:TT}(h:PT X c t):si X [c] t:=λd s a H Q I b=>wpAny_tests_one (h d s a H Q I b)
def y8(p:TI)(g:V->Hp->St->Prop)(k:Nat)(q:TT)(r:TE)(d:List Nat):TE:=λf H Q=>p f H λJ o=>∀l,o l=ae->∃W:Nat->Nat->List V->Hp->Prop,(∃m,W 0 m [] (upd o l (.lst [])))/\∀i m a H,W i m a H ->
 (J.stop i H/\Q (.ref l) H)\/(J.go i H/\∀v h,J.yld i H v h->∃e,e.length=k+1/\g v h e/\q (e++(eU f d).drop k) h λb n=>if b=ah then r (e++(eU f d).drop k) n λy j=>j l=aa (.lst a)/\a.length<bg/\∃c,c<m/\W (i+1) c (a++[y]) (upd j l (.lst (a++[y]))) else ∃c,c<m/\W (i+1) c a n)
def Im:V->Hp->St->Prop:=λv _ a=>a=[aa v]
abbrev y4(b:TI)(c:TT)(d:TE)(a:List Nat):TE:=y8 b Im 0 c d a
section
variable{X:Cx}{m:List (af×Obj)}{w:St}{H:Hp}{s:ao}{g:eF}{x:Str}{j:List Str}{l:List Nat}
theorem Inv.unblock{r:List af}{p:Hp}{y:St}{s':ao}{h:aB}(I:Inv X m w H s)(D:∀b∈r,ly X m H b)(a:Inv (bu X g j s.heap.objs.size s H r m) [] y p s') (sb:kK s.heap.objs.size s'.heap h):Inv X m w p {s' with heap:=h}:=by
 have k:∀b o,b≠s.heap.objs.size->s'.heap.get? b=aa o->h.get? b=aa o:=λb o f e=>(sb.2 b f).trans e;have A:∀b o,s.heap.get? b=aa o->b≠s.heap.objs.size:=λb o e=>df (bG e);have un:Un (gi X.stack) r H p s.heap h:=by
  refine⟨λb o e n f d=>k b o (A b o e) (a.base.keep b o e n f d),λb o e n f d=>?_,λb o e n d=>a.base.free b o e n d,λb o e d=>?_,a.base.tups,a.base.frzs,a.base.tbls⟩
  .obtain⟨E,q⟩:=a.base.slot b o e n f d;exact⟨E,k b _ (A b o e) q⟩
  .obtain⟨C,q⟩:=a.base.there b o e d;exact⟨C,k b C (A b o e) q⟩
 have B:dw X.prog X.w p h:=λb u e=>by
  have i:p s.heap.objs.size=ae:=a.free;refine(a.hok b u e).stay (λc v F q=>k c v ?_ q) (λ_ q=>q) λ_ _ q=>q;rintro rfl;rcases F with z|z
  .rw[<-z,i]at e;cases e
  .rw[i]at z;cases z
 refine I.call' (s':={s' with heap:=h}) (ch:=r) a.os un B a.bare λb f=>?_;obtain⟨K,J,f2,f3,f4,G⟩:=D b f;exact⟨f3,J,f4,G⟩
theorem Ha{elt G tg:aA}{pos pos':Pos}{ifs:List aA}{wi:TI}{tgf:V->Hp->St->Prop}{k:Nat}{ts:TT}{te:TE}{use:Option (ai->Sem Unit)}{Q:ai->ao->Prop}{Qp:VK}(B:iQ X g x j l)(hk:k<=l.length)(hc:X.calm=ah)(hi:PI X tg G wi)(eQ:∀C F K ex pn,PG (bu X g j C F K ex pn) tg λv O H Q=>∃Y,Y.length=k+1/\O.length=j.length/\tgf v H Y/\Q (Y++O.drop (k+1)) H)(ht:∀C F K ex pn,si (bu X g j C F K ex pn) ifs ts) (he:∀C F K ex pn,PE (bu X g j C F K ex pn) elt te) (hs:∀x,lz G X.env x=pure x) (I:Inv X m w H s) (h:y8 wi tgf k ts te l w H Qp)(fin:∀{A s6:ao}{P H5:Hp}{L σ5 a f},Inv X m w P A->(∀b∈L,ly X m P b)->Inv (bu X g j A.heap.objs.size A P L m) [] σ5 H5 s6->Qp (.ref a) H5->compPost (au X.prog X.w) X.A X.xe use Q (.ref a) A.heap.objs.size (.ok f) s6):aq (au X.prog X.w) X.A (comprehension (.ListComp elt [⟨tg,G,ifs,0⟩] g pos) g X.env pos' (newList []) ak (bh G X.env) use) Q X.xe s:=by
 refine wpAny_comprehension_free (use:=use) rfl hs (RG (I.freeHas B)) B.kind B.names (aP (hi m s w H _ I h) λv s1 h1=>aP h1 λitv E h2=>?_);obtain⟨it,L,tn,J,H2,e,I2,T,bd,f2,h2⟩:=h2;subst e;refine jN ?_;have I3:Inv X m w (upd H2 E.heap.objs.size (.lst [])) {E with heap:=E.heap.push {cls:=.type "list",data:=.seq ([]:List ai).toArray},toks:=E.toks}:=I2.lnew (its:=[]) (t':=E.toks) .nil (jO _);obtain⟨W,⟨m0,w0⟩,turn⟩:=h2 E.heap.objs.size I2.fresh;generalize o0:({E with heap:=E.heap.push {cls:=.type "list",data:=.seq ([]:List ai).toArray},toks:=E.toks}:ao)=A at I3;have hs3':({E with heap:=E.heap.push {cls:=.type "list",data:=.seq ([]:List ai).toArray}}:ao)=A:=o0;generalize hH3:upd H2 E.heap.objs.size (.lst [])=P at I3 w0;have nl:∀b∈L,b≠E.heap.objs.size:=λb D e=>by obtain⟨o,ho,_⟩:=T.obj _ _ bd b D;exact absurd (bG ho) (by rw[e];exact gu _)
 have k3:∀b o,E.heap.get? b=aa o->A.heap.get? b=aa o:=λb o e=>by rw[<-o0];exact bH _ e
 have f3:∀b∈L,ly X m P b:=λb D=>⟨by rw[<-hH3,bf (nl b D)];exact(f2 b D).1,(f2 b D).2⟩
 have bJ:tn 0 A.heap:=T.keep _ _ _ bd λb _ o e=>k3 b o e;have fo3:∀b∈L,∃o,A.heap.get? b=aa o:=λb D=>(T.obj _ _ bJ b D).imp λo q=>q.1;refine Og ?_;generalize hh:pushCells (A.heap.push {cls:=.type "dict",data:=.dict #[]}) g.names=h₁;have old:∀b o,A.heap.get? b=aa o->h₁.get? b=aa o:=λb o e=>hh ▸ pushCells_keeps _ _ b o (bH _ e);have tT:h₁.Ns A.heap.objs.size (λ_=>ae):=hh ▸ (Heap.Ns.new A.heap (.type "dict")).keeps (pushCells_keeps _ _);have I4:=Inv.block (t':=A.toks) hh.symm I3 B f3 fo3 tT old;have bW:tn 0 h₁:=T.keep _ _ _ bJ λb _ o e=>old b o e;have M:∀{H':Hp},(∀b∈L,H' b=ae)->∀b∈L,ly (bu X g j A.heap.objs.size A P L m) [] H' b:=λhn b D=>by
  obtain⟨f0,f1,f2',f3',f4,f5⟩:=f3 b D;refine⟨hn b D,λe=>?_,λhf=>?_,.inl D,λy c h=>?_,λp hp=>f5 p (by simpa[bu]using hp)⟩
  .obtain⟨o,ho⟩:=fo3 b D;exact absurd (bG ho) (by rw[show b=A.heap.objs.size from e];exact gu _)
  .rcases br.mp (I3.stkSub b hf)with z|z
   .exact f1 z
   .exact f2' z
  .rcases I3.cbIn B h with⟨a1,a2⟩|⟨a1,a2⟩
   .rintro rfl;obtain⟨o,ho⟩:=fo3 _ D;exact yU (Fa a1).2.1 (bG ho)
   .exact f4 y c a2
 have Z:qo (au X.prog X.w) X.A (.compLoop (.ListComp elt [⟨tg,G,ifs,0⟩] g pos) 0 (.ref it) (.ref E.heap.objs.size) (compEnvC g (lY X g A.heap.objs.size) A.heap.objs.size X.env))
   (compPost (au X.prog X.w) X.A X.xe use Q (.ref E.heap.objs.size) A.heap.objs.size) {A with heap:=h₁,toks:=A.toks}:=by
  refine Mi (λn s'=>∃i S O H',(∃pre:St,pre.length=k+1/\O=pre++(eU w l).drop k)/\Inv (bu X g j A.heap.objs.size A P L m) [] O H' s'/\tn i s'.heap/\(∀b∈L,H' b=ae)/\W i n S H') ?_ m0
   ⟨0,[],_,P,⟨(ae::eU w l).take (k+1),by simp[eU];lia,by rw[<-List.drop_succ_cons (a:=ae)];exact(kh _ _).symm⟩,I4,bW,λb D=>(f3 b D).1,w0⟩
  rintro n s5 ⟨i,S,σ5,H5,⟨pre,wo,rfl⟩,I5,cq,fr5,w5⟩;rcases turn i n S H5 w5 with⟨stop,q⟩|⟨go,step⟩
  .refine f9 (T.done (bu X g j A.heap.objs.size A P L m) rfl rfl rfl hc i [] s5 _ H5 (λ_ _=>False) I5 (M fr5) cq stop) (λr s6 ⟨hr,I6⟩=>?_) (λ_ _ f=>f.elim);subst hr;exact fin I3 f3 I6 q
  .refine f9 (T.item (bu X g j A.heap.objs.size A P L m) rfl rfl rfl hc i [] s5 _ H5 (λ_ _=>False) I5 (M fr5) cq go) (λr s6 ⟨u,hr,h6⟩=>?_) (λ_ _ f=>f.elim);subst hr;refine f9 h6 (λ_ s7 ⟨v,H7,I7,r7,y7,st7,fr7⟩=>?_) (λ_ _ f=>f.elim);have I7':=I7.pinned (M fr7) (T.obj _ _ st7);have back:∀{N:St}{H8:Hp}{s8:ao},Inv (bu X g j A.heap.objs.size A P L m) ([]++vq L s7.heap) N H8 s8->tn (i+1) s8.heap/\(∀b∈L,H8 b=ae):=λ{N H8 s8} I8=>⟨T.keep _ _ _ st7 λb D o e=>(I8.pin (b,o) (i9 _ (i9 _ (yH D e)))).1,λb D=>by obtain⟨o,e,d⟩:=T.obj _ _ st7 b D;exact(I8.pin (b,o) (i9 _ (i9 _ (yH D e)))).2.1⟩
   obtain⟨Y,eI,htg,step⟩:=step v H7 y7;refine aP (eQ _ _ _ _ _ _ s7 _ H7 v u (λN H8=>N=Y++(eU w l).drop k/\H8=H7) I7' r7 ⟨Y,eI,I7'.len,htg,by rw[CC ∅,List.drop_eq_nil_of_le ∅];rfl,rfl⟩) λ_ s8 ζ=>?_;obtain⟨N,H8,I8,e8,e8'⟩:=ζ;subst e8 e8';refine aP (ht _ _ _ _ _ _ s8 _ _ _ I8 step) λb s9 ζ=>?_;obtain⟨H9,I9,q9⟩:=ζ;cases b with
   |false=>
    obtain⟨m',hm,w9⟩:=(show ∃m',m'<n/\W (i+1) m' S H9 from q9)
    exact⟨m',hm,i+1,S,_,H9,⟨Y,eI,rfl⟩,I9.unpinned,(back I9).1,(back I9).2,w9⟩
   |true=>refine aP (he _ _ _ _ _ _ s9 _ H9 _ I9 q9) λu10 s10 ζ=>?_;obtain⟨y,H10,I10,r10,hl10,hz10,m',hm,w10⟩:=ζ;refine aP (Gi _ s10 _ H10 (.ref E.heap.objs.size) [y] _ [u10] (λz H11=>H11=upd H10 E.heap.objs.size (.lst (S++[y]))) I10 rfl (.cons r10 .nil) ⟨_,S,y,rfl,rfl,hl10,hz10,rfl⟩) λ_ s11 ζ=>?_;obtain⟨_,H11,I11,_,e11⟩:=ζ;subst e11;exact⟨m',hm,i+1,S++[y],_,_,⟨Y,eI,rfl⟩,I11.unpinned,(back I11).1,(back I11).2,w10⟩
 exact codeAny_compStart_list Z (T.self _ 0 _ _ _ bW Z)
theorem Ej{o:Pos}(B:iQ X g x j l):∀C b c f e,PG (bu X g j C b c f e) (.Name x o) λv d H Q=>∃i,i.length=0+1/\d.length=j.length/\Im v H i/\Q (i++d.drop (0+1)) H:=by
 intro C b c f e m s d H v u Q I r h;obtain⟨i,_,y,p,q⟩:=h;cases (show i=[aa v] from p);have A:Loc (bu X g j C b c f e).env.scope x:=B.loc.elim (λh=>.inl (vT h)) (λh=>.inr (xZ h));have z:(bu X g j C b c f e).fn x=ah\/(bu X g j C b c f e).env.scope.names.lookup x=aa .local:=B.loc.elim (λh=>.inr (vT h)) (λh=>.inl (by show(g.names.lookup x == aa .cell)=ah;rw[h];rfl));have n:(bu X g j C b c f e).N[0]?=aa x:=by show j[0]?=aa x;rw[<-List.head?_eq_getElem?];exact B.hd
 refine qh B.nd n A z m s d H v u Q I r ?_;show Q (d.set 0 (aa v)) H;cases d with
 |nil=>rw[nk,B.len]at y;lia
 |cons a r=>exact q
theorem NO{e b:aA}{o pos:Pos}{d:List aA}{wi:TI}{ts:TT}{te:TE}(B:iQ X g x j l)(A:X.calm=ah)(y:PI X (.Name x o) b wi)(u:∀C a c n f,si (bu X g j C a c n f) d ts) (z:∀C a c n f,PE (bu X g j C a c n f) e te) (v:∀x,lz b X.env x=pure x:=by intro _;rfl):PE X (.ListComp e [⟨.Name x o,b,d,0⟩] g pos) (y4 wi ts te l):=by intro m s w H Q I h;rw[eval_ListComp];exact Ha (use:=ae) B (jO _) A y (Ej B) u z v I h λD f3 p q=>by obtain⟨r,i,_⟩:=p.loc;exact⟨r,i,λE sb=>⟨.ref _,_,D.unblock f3 p sb,rfl,q⟩⟩
end
def Walk(J:It)(a:List V)(R:Hp->Prop):Prop :=
 ∀H,R H->∀i,(∀x,a[i]?=aa x->J.go i H/\∀y b,J.yld i H y b->b=H/\y=x)/\(i=a.length->J.stop i H)
theorem OK{K:ay}{a:af}{b:List V}:Walk (Ae K a) b (λH=>cz K H a b):=λH h i=>⟨λx c=>⟨⟨b,x,h,c⟩,λy e z=>⟨z.1,by have:=z.2 b h;rw[c]at this;exact(cO this).symm⟩⟩,λd=>⟨b,h,nq d.symm⟩⟩
theorem Kv{K:ay}{a:af}{b:List V}:Walk (Bp K a) b (λH=>cp K H a b):=λH h i=>⟨λx c=>⟨⟨b,x,h,c⟩,λy e z=>⟨z.1,by have:=z.2 b h;rw[c]at this;exact(cO this).symm⟩⟩,λd=>⟨b,h,nq d.symm⟩⟩
def rQ(a:Int)(n:Nat):List V:=(cG n).map λi=>V.int (a+(i:Nat))
theorem Ar(a:Int)(n:Nat):(rQ a n).length=n:=by simp[rQ]
theorem M3{b:Int}{n:Nat}:Walk (yh b n) (rQ b n) (λ_=>True):=λH _ i=>by
 refine⟨λx a=>?_,λc=>by rw[Ar]at c;exact nq c.symm⟩;have d:i<n:=by have:=(cA.mp a).1;rw[Ar]at this;exact this
 refine⟨d,λy f z=>⟨z.1,?_⟩⟩;unfold rQ at a;rw[d7,IR d]at a;have e:V.int (b+(i:Nat))=x:=cO a;rw[z.2,<-e]
def sg(c:Nat):V:=.str ⟨#[c]⟩
def vF(z:Str):It:=⟨λi _=>i<z.cps.size,λi H x a=>a=H/\∃c,z.cps[i]?=aa c/\x=sg c,λi _=>i=z.cps.size⟩
theorem Pq{z:Str}:Walk (vF z) (z.cps.toList.map sg) (λ_=>True):=λH _ i=>by
 refine⟨λx a=>?_,λd=>by show i=z.cps.size;simpa using d⟩;rw[d7]at a;cases e:z.cps.toList[i]? with
 |none=>rw[e]at a;cases a
 |some c=>
  rw[e]at a;have f:i<z.cps.size:=by have:=(cA.mp e).1;simpa using this
  refine⟨f,λy h w=>⟨w.1,?_⟩⟩;obtain⟨g,b,rfl⟩:=w.2;have:z.cps[i]?=aa c:=by simpa using e
  rw[this]at b;cases b;exact(cO a)
section
variable{X:Cx}{a:aA}
theorem QH{P:aQ}{w:aI}{K:ay}{z:Str}{d:af}{f:Nat->aB->Prop} (S:∀i h,f i h->∃o n r,h.get? d=aa o/\o.cls=.type n/\o.data=.fields r /\ ["enumerate","zip","dict_itemiterator","dict_reverseitemiterator","odict_iterator","itertools.zip_longest","itertools.pairwise"].contains n=ak)(S_:∀(A:aX) (i:Nat) (s:ao) (Q:ai->ao->Prop) (E:ai->ao->Prop),f i s.heap->Q (.ref d) s->aq (au P w) A (nc (.ref d)) Q E s)(C:∀A:aX,A.handled=ae->Walks P w A d [d] [d] z.cps.size (SignAt z) f):pK P w K a (vF z) [d] d f where
 mem:=by simp
 obj:=λi h g b j=>by
  have e:b=d:=by simpa using j
  subst e;obtain⟨o,n,r,J,_,G,_⟩:=S i h g;exact⟨o,J,λv q=>by rw[G]at q;cases q⟩
 keep:=λi h m g k=>by exact(C ({}:aX) rfl).frame i h m g k
 item:=by intro X D x F B i W s O H E I p g y;subst D x F;obtain⟨N,M,f2,f3,f4,L⟩:=p d (by simp);refine(C X.A (I.ok.hd B)).item i s _ _ y g λv m l Z T k=>?_;have I1:Inv X W O H {s with heap:=m,toks:=l}:=I.turned (t':=l) (λb o j e=>k b o (by simpa using j) e) N M f3 f4 L;obtain⟨o,n,r,J,h2,G,h4⟩:=S _ _ T;obtain⟨c,u,e1,rfl⟩:=Z;exact⟨_,rfl,uk (s:={s with heap:=m,toks:=l}) J h2 G h4 ⟨sg c,H,I1,⟨u,rfl⟩,⟨rfl,c,e1,rfl⟩,T,λb j=>(p b j).1⟩⟩
 done:=by intro X D x F B i W s O H E I p g y;subst D x F;obtain⟨N,M,f2,f3,f4,L⟩:=p d (by simp);have Y:i=z.cps.size:=y;subst Y;exact(C X.A (I.ok.hd B)).done s _ _ g λm l k=>⟨rfl,I.turned (t':=l) (λb o j e=>k b o (by simpa using j) e) N M f3 f4 L⟩
 self:=S_
theorem GN{J:It}{c:List V}{R:Hp->Prop}{g:TG}{n:TS}{D:j5}{b:St}{H:Hp}(C:Walk J c R)(d:Nat->St->Hp->Prop)(E:d 0 b H)(z:∀i b H,i<=c.length->d i b H->R H)(w:∀i x b H,c[i]?=aa x->d i b H->g x b H λh l=>n {D with nx:=d (i+1),ct:=d (i+1),bk:=D.nx} h l) (B:∀b H,d c.length b H->D.nx b H):∃W:Nat->Nat->St->Hp->Prop,(∃m,W 0 m b H)/\∀i m b H,W i m b H -> (J.stop i H/\D.nx b H)\/(J.go i H/\∃N:St->Hp->Prop,(∀j f,N j f->∃o,o<m/\W (i+1) o j f)/\∀x f,J.yld i H x f->g x b f λh l=>n {D with nx:=N,ct:=N,bk:=D.nx} h l):=by
 refine⟨λi m b H=>m=c.length-i/\i<=c.length/\d i b H,⟨c.length,by simp,jO _,E⟩,?_⟩;rintro i m b H ⟨rfl,A,p⟩;have q:=C H (z i b H A p) i;by_cases s:i<c.length
 .have r:c[i]?=aa c[i]:=by simp[s]
  obtain⟨F,u⟩:=q.1 c[i] r;refine .inr ⟨F,d (i+1),λj f v=>⟨c.length-(i+1),∅,rfl,s,v⟩,λx f y=>?_⟩;obtain⟨rfl,rfl⟩:=u x f y;exact w i _ b _ r p
 .have e:i=c.length:=∅
  subst e;exact .inl ⟨q.2 rfl,B b H p⟩
theorem RW{b:Type}(l:List b)(f:b->Bool)(d:Nat->Bool)(c:∀i x,l[i]?=aa x->d i=f x):(cG l.length).all d=l.all f:=by
 induction l generalizing d with
 |nil=>rfl
 |cons x r e=>rw[d8,IS,qt,tm,qt,c 0 x rfl];congr 1;exact e _ λi y h=>c (i+1) y (by simpa using h)
theorem Sq{bs:List Bool}{b:List ai}(r:bA (bs.map V.bl) b){i:Nat}{v:ai}(h:b.toArray[i]?=aa v):v=.bool (bs.getD i ak):=by
 have d:=r.length;rw[bZ]at d;have g:i<b.length:=by have:=(nr.mp h).1;simpa using this
 have e:(bs.map V.bl)[i]?=aa (.bl (bs.getD i ak)):=by rw[d7,dP ∅];simp[List.getD,dP (show i<bs.length by lia)]
 obtain⟨u,c,f⟩:=r.get e;have:b[i]?=aa v:=by simpa using h
 rw[this]at c;cases c;exact f
theorem xg{A:aX}(h:A.handled=ae):A.in1.handled=ae:=h
theorem BS(j:X.calm=ah):gg X (.builtin "all") (λl H Q=>∃(p:af) (bs:List Bool),l=[.ref p]/\cz X.K H p (bs.map V.bl)/\Q (.bl (bs.all id)) H):=by
 intro N s w H l P Q I r h;obtain⟨p,bs,rfl,F,q⟩:=h;obtain⟨u,rfl,A⟩:=vals1 r;cases A;obtain⟨d,m,f,T⟩:=I.list F;have n:=m.length;rw[bZ]at n;refine call_all_walk (IT f.isList ?_);have M:p≠s.heap.objs.size:=by obtain⟨o,g,_⟩:=f.isList;exact df (bG g)
 refine⟨s.heap.objs.size,_,_,_,_,_,λi=>bs.getD i ak,rfl,Walks.list (xg (I.ok.hd j)) s.heap.objs.size p M d.toArray,⟨⟨_,cW _ rfl,rfl,rfl⟩,?_⟩,λi v S Y Z E L=>?_,λW y k=>?_⟩
 .obtain⟨o,g,j,J⟩:=f.isList;exact⟨o,bH _ g,j,J⟩
 .rw[Sq m E];exact oF L
 .have e:(cG d.toArray.size).all (λi=>bs.getD i ak)=bs.all id:=by
   rw[cX,<-n];exact RW bs id _ λi x D=>by simp[List.getD,D]
  rw[e];have O:Inv X N w H {s with heap:=s.heap.push {cls:=.type "list_iterator",data:=.fields #[.ref p,.int 0 0]},toks:=s.toks}:=I.kept (t':=s.toks) λb o e=>bH _ e;exact⟨.bl _,H,Inv.turned (t':=y) O (it:=s.heap.objs.size) (λb o K e=>k b o (by simpa using K) e) I.fresh (sT I.lt) (.inr I.sz) (λx c e z=>by obtain⟨v,B⟩:=I.cell x c e;exact absurd B.lt (by rw[z];exact gu _)) (λC G z=>absurd (bG (I.pin C G).1) (by rw[z];exact gu _)),rfl,q⟩
end
section
variable{X:Cx}
def l3(z:Str)(a b:Option Int):Str:=⟨((z.cps.toList.drop (HT.sIx z.length 0 a)).take (HT.sIx z.length z.length b-HT.sIx z.length 0 a)).toArray⟩
theorem P7(a b:Nat):sliceRange (a:Int) (b:Int) 1=(cG (b-a)).map λk=>a+k:=by
 unfold sliceRange;have e:(if(1:Int) > 0 then(if(a:Int)<(b:Int)then((b:Int)-a+1-1) / 1 else 0)else(if(a:Int) > b then((a:Int)-b-1-1) / (-1)else 0)).toNat=b-a:=by
  rw[if_pos (by decide)];split
  .rw[Int.ediv_one];lia
  .have:b-a=0:=∅
   rw[this];rfl
 show(cG (if(1:Int) > 0 then(if(a:Int)<(b:Int)then((b:Int)-a+1-1) / 1 else 0)else(if(a:Int) > b then((a:Int)-b-1-1) / (-1)else 0)).toNat).map _=_;rw[e];refine jP λk _=>?_;lia
theorem Lb(a b:Option Int)(n:Nat):Builtin.Str.strSliceIndices a b 1 n=(cG (HT.sIx n n b-HT.sIx n 0 a)).map λk=>HT.sIx n 0 a+k:=by
 rw[<-P7];have p:(1:Int) > 0:=by decide
 cases a <;> cases b <;> (unfold Builtin.Str.strSliceIndices HT.sIx;simp only[p,if_true];congr 1 <;> (try split) <;> lia)
theorem Mv{b:Type}(l:List b)(a k:Nat):((cG k).map λj=>a+j).filterMap (λi=>l[i]?)=(l.drop a).take k:=by
 induction k with
 |zero=>simp
 |succ k c=>
  rw[tq,vU,List.filterMap_append,c,List.take_succ];congr 1;simp[mf];cases l[a+k]? <;> rfl
theorem Mp(z:Str)(t:Tok)(l u:Option (Int×Tok)):∃m,sliceMade z t l u ae=m/\(m=.val (.str z t)/\l3 z (l.map (·.1)) (u.map (·.1))=z\/m=.str (l3 z (l.map (·.1)) (u.map (·.1)))):=by
 refine⟨_,rfl,?_⟩;unfold sliceMade slicePicked;have e:=Lb (l.map (·.1)) (u.map (·.1)) z.length;simp only[Option.map_none,IH];rw[e];have d:=Mv z.cps.toList (HT.sIx z.length 0 (l.map (·.1))) (HT.sIx z.length z.length (u.map (·.1))-HT.sIx z.length 0 (l.map (·.1)));have b:(((cG (HT.sIx z.length z.length (u.map (·.1))-HT.sIx z.length 0 (l.map (·.1)))).map λk=>HT.sIx z.length 0 (l.map (·.1))+k).filterMap (z.cps[·]?)).toArray=(l3 z (l.map (·.1)) (u.map (·.1))).cps:=by unfold l3;rw[<-d];simp
 split
 .rename_i h;left;refine⟨rfl,?_⟩;simp only[beq_self_eq_true,zk,bZ,IU,beq_iff_eq]at h;have g:HT.sIx z.length z.length (u.map (·.1))<=z.length:=HT.sIx_le _ _ (aZ _) _;have f:z.cps.toList.length=z.length:=by simp[Str.length]
  have a:HT.sIx z.length 0 (l.map (·.1))=0\/z.length=0:=∅
  unfold l3;rw[h];rcases a with a|a
  .rw[a,List.drop_zero,nt ∅]
  .have:z.cps.toList=[]:=tt ∅;rw[this];cases z;rename_i c;simp at this;subst this;simp
 .right;rw[show(⟨(((cG (HT.sIx z.length z.length (u.map (·.1))-HT.sIx z.length 0 (l.map (·.1)))).map λk=>HT.sIx z.length 0 (l.map (·.1))+k).filterMap (z.cps[·]?)).toArray⟩:Str)=l3 z (l.map (·.1)) (u.map (·.1))from by rw[b]]
def FV:V->Option Int->Option Int->Hp->VK->Prop:=λx a b H Q=>∃z,x=.str z/\z.length<=bg/\Q (.str (l3 z a b)) H
theorem Rv(z:Str)(a b:Option Int):(l3 z a b).length<=z.length:=by unfold l3 Str.length;simp;lia
theorem part_of{v:ai}{o:Option Int}(p:ni v o):∃q:Option (Int×Tok),v=partValue q/\q.map (·.1)=o:=by
 cases p with
 |none=>exact⟨ae,rfl,rfl⟩
 |int i t=>exact⟨aa (i,t),rfl,rfl⟩
theorem Tl:mM X FV:=by
 intro y s n H x v p o r w a Q I b g d c h;obtain⟨z,rfl,f,q⟩:=h;obtain⟨t,rfl⟩:=b;obtain⟨l,rfl,rfl⟩:=part_of d;obtain⟨u,rfl,rfl⟩:=part_of c;refine⟨"str",_,F.slot_str_getitem.lookup,typeIs_str s z t,?_⟩;obtain⟨m,j,i⟩:=Mp z t l u;refine getItem_meets (typeIs_str s z t) (by decide) F.slot_str_getitem F.entry_str_getitem (F.args_str_getitem_2 _ _) (meets_str_getitem_slice z t a l u ae (by decide)) ⟨g,?_⟩;rw[j];rcases i with⟨rfl,e⟩|rfl
 .exact⟨.str z,H,I,⟨t,rfl⟩,by rw[e]at q;exact q⟩
 .exact⟨c0 (Rv z _ _) f,⟨.str _,H,I.tok _,⟨_,rfl⟩,q⟩⟩
def gX(K:ay)(H:Hp)(d:Nat)(x y:V)(k:Bool):Prop :=
 ∀(X:Cx),X.K=K->∀(b:List (af×Obj)) (a:St) (s:ao) (u v:ai) (A:aX),Inv X b a H s->RelV x u->RelV y v->A.units+d<cLine->sY A s u v k
theorem Lf{K:ay}{H:Hp}{d:Nat}{x y:V}(e:iT x=ah)(c:iT y=ah):gX K H d x y (fL x y):=λ_ _ _ _ _ _ _ _ _ b a _=>FA b a e c
def gn(e:Nat->Bool)(n m:Nat):Bool:=(cG (min n m)).all e&&n == m
theorem Ik{A:aX}:A.in1.units=A.units+1:=rfl
theorem AX{H:Hp}{d:Nat}{a b:af}{f c:List V}{e:Nat->Bool}{F:List (af×Obj)}{p:St}{s:ao}{A:aX}(I:Inv X F p H s)(N:cz X.K H a f)(M:cz X.K H b c)(L:∀(j:Nat) x y,f[j]?=aa x->c[j]?=aa y->gX X.K H d x y (e j)) (T:A.units+(d+1)<cLine):SeqAt.RcAt A s (.ref a) (.ref b) (gn e f.length c.length)/\SeqAt.RcNeAt A s (.ref a) (.ref b) (!gn e f.length c.length):=by
 obtain⟨h,r,o,_⟩:=I.list N;obtain⟨l,q,g,_⟩:=I.list M;have G:=r.length;have S:=q.length;have B:∀j (D:j<h.toArray.size) (C:j<l.toArray.size),sY A.in1 s h.toArray[j] l.toArray[j] (e j):=λj D C=>by
  have P:j<h.length:=by simpa using D
  have Q:j<l.length:=by simpa using C
  have m:f[j]?=aa f[j]:=dP ∅;have E:c[j]?=aa c[j]:=dP ∅;obtain⟨u,z,K⟩:=r.get m;obtain⟨v,w,J⟩:=q.get E;have O:h[j]=u:=by rw[dP P]at z;exact cO z
  have f2:l[j]=v:=by rw[dP Q]at w;exact cO w
  have:=L j f[j] c[j] m E X rfl F p s u v A.in1 I K J (by rw[Ik];lia);simpa[O,f2]using this
 by_cases i:f.length=c.length
 .have n:h.toArray.size=l.toArray.size:=by simp;lia
  have m:gn e f.length c.length=(cG h.toArray.size).all e:=by unfold gn;rw[i,Nat.min_self,beq_self_eq_true,Bool.and_true,cX,<-G,i]
  rw[m];exact⟨.lists o.isList g.isList n ∅ B,.lists o.isList g.isList n ∅ B⟩
 .have m:gn e f.length c.length=ak:=by
   unfold gn;rw[beq_false_of_ne i,zl]
  have n:(h.toArray.size != l.toArray.size)=ah:=by simp;lia
  rw[m];exact⟨.lists_lengths o.isList g.isList n ∅,.lists_lengths o.isList g.isList n ∅⟩
theorem B5{H:Hp}{d:Nat}{a b:af}{f c:List V}{e:Nat->Bool}{D:List (af×Obj)}{m:St}{s:ao}{A:aX}(I:Inv X D m H s)(M:cp X.K H a f)(L:cp X.K H b c)(K:∀(j:Nat) x y,f[j]?=aa x->c[j]?=aa y->gX X.K H d x y (e j)) (Q:A.units+(d+1)<cLine):SeqAt.RcAt A s (.ref a) (.ref b) (gn e f.length c.length)/\SeqAt.RcNeAt A s (.ref a) (.ref b) (!gn e f.length c.length):=by
 obtain⟨h,o,r,_⟩:=I.tuple M;obtain⟨g,n,i,_⟩:=I.tuple L;have E:=o.length;have J:=n.length;have w:∀j (B:j<h.toArray.size) (z:j<g.toArray.size),sY A.in1 s h.toArray[j] g.toArray[j] (e j):=λj B z=>by
  have O:j<h.length:=by simpa using B
  have P:j<g.length:=by simpa using z
  have l:f[j]?=aa f[j]:=dP ∅;have C:c[j]?=aa c[j]:=dP ∅;obtain⟨u,q,G⟩:=o.get l;obtain⟨v,p,F⟩:=n.get C;have N:h[j]=u:=by rw[dP O]at q;exact cO q
  have f2:g[j]=v:=by rw[dP P]at p;exact cO p
  have:=K j f[j] c[j] l C X rfl D m s u v A.in1 I G F (by rw[Ik];lia);simpa[N,f2]using this
 have l:gn e f.length c.length=((cG (min h.toArray.size g.toArray.size)).all e&&h.toArray.size == g.toArray.size):=by unfold gn;rw[cX,cX,<-E,<-J]
 rw[l];exact⟨.tuples r i ∅ w,.tuples r i ∅ w⟩
theorem J3{K:ay}{H:Hp}{d:Nat}{a b:af}{f c:List V}{e:Nat->Bool}(n:cz K H a f)(m:cz K H b c)(p:a≠b)(l:∀(j:Nat) x y,f[j]?=aa x->c[j]?=aa y->gX K H d x y (e j)):gX K H (d+1) (.ref a) (.ref b) (gn e f.length c.length):=λX o r q s u v A I h g i=>by
 subst o;cases h;cases g;exact .of_refs p (AX I n m l i).1
theorem LX{K:ay}{H:Hp}{d:Nat}{a b:af}{f c:List V}{e:Nat->Bool}(n:cp K H a f)(m:cp K H b c)(p:a≠b)(l:∀(j:Nat) x y,f[j]?=aa x->c[j]?=aa y->gX K H d x y (e j)):gX K H (d+1) (.ref a) (.ref b) (gn e f.length c.length):=λX o r q s u v A I h g i=>by
 subst o;cases h;cases g;exact .of_refs p (B5 I n m l i).1
theorem Eo{K:ay}{H:Hp}{d:Nat}{a:af}:gX K H d (.ref a) (.ref a) ah:=λX g h e s u v A I c b f=>by
 cases c;cases b;exact .same _
def uF(K:ay)(g:Bool):R2:=λx y H Q=>∃a b f c d e,x=.ref a/\y=.ref b/\((cz K H a f/\cz K H b c)\/(cp K H a f/\cp K H b c))/\d<=8 /\
 (∀(j:Nat) x y,f[j]?=aa x->c[j]?=aa y->gX K H d x y (e j))/\Q (.bl (if g then !gn e f.length c.length else gn e f.length c.length)) H
theorem Ko(n:X.A.units+64<cLine):b8 X (dZ .Eq) (uF X.K ak):=by
 intro p s j H x y v u Q I g f h;obtain⟨a,b,m,l,d,e,rfl,rfl,i,o,c,q⟩:=h;cases g;cases f;rcases i with⟨h1,h2⟩|⟨h1,h2⟩
 .exact(AX I h1 h2 c ∅).1 _ _ _ _ ⟨.bl _,H,I,rfl,q⟩
 .exact(B5 I h1 h2 c ∅).1 _ _ _ _ ⟨.bl _,H,I,rfl,q⟩
theorem PN(n:X.A.units+64<cLine):b8 X (dZ .NotEq) (uF X.K ah):=by
 intro p s j H x y v u Q I g f h;obtain⟨a,b,m,l,d,e,rfl,rfl,i,o,c,q⟩:=h;cases g;cases f;rcases i with⟨h1,h2⟩|⟨h1,h2⟩
 .exact(AX I h1 h2 c ∅).2 _ _ _ _ ⟨.bl _,H,I,rfl,q⟩
 .exact(B5 I h1 h2 c ∅).2 _ _ _ _ ⟨.bl _,H,I,rfl,q⟩
theorem Hk{y:V}:∀{a:List V}{b:List ai},bA a b->a.all iT=ah->b.countP (lj y)=a.countP λz=>fL z y
 |_,_,.nil,_=>rfl
 |z::a,u::b,.cons r t,f=>by rw[qt,h_]at f;rw[List.countP_cons,List.countP_cons,Aq r f.1,Hk t f.2]
def MC(K:ay):V->List V->Hp->VK->Prop:=λx b H Q=>∃(p:af) (a:List V) (y:V),x=.ref p/\b=[y]/\cp K H p a/\iT y=ah/\a.all iT=ah/\Q (.int ((a.countP λz=>fL z y:Nat):Int)) H
theorem JR:Cc X "tuple.count" (MC X.K):=by
 intro K s C H x E v G Q I i j h;obtain⟨p,D,y,rfl,rfl,o,z,d,q⟩:=h;cases i;obtain⟨u,rfl,l⟩:=j.one;obtain⟨a,r,⟨⟨B,A,f,g⟩,e,c,n,b⟩,J⟩:=I.tuple o;simp only at c b;subst c b;refine call_meets F.slot_tuple_count ⟨_,e,rfl⟩ F.entry_tuple_count (F.args_tuple_count_2 _ _) (SeqAt.tuple_countAt p a.toArray n A g u (lj y)) ⟨e,λw m=>xz l z r d w (by simpa using m),?_⟩;exact⟨.int _,H,I.tok _,⟨_,by rw[zm,Hk r d]⟩,q⟩
end
abbrev Tx:=List Nat
def tS(l:Tx):Str:=⟨l.toArray⟩
def tV(l:Tx):V:=.str (tS l)
def cN(ls:List Tx):List V:=ls.map tV
theorem jJ(l:Tx):(tS l).cps.toList=l:=by simp[tS]
theorem kt(l:Tx):(tS l).length=l.length:=by simp[tS,Str.length]
theorem pU(z:Str):tS z.cps.toList=z:=by cases z;simp[tS]
theorem uK{a b:Tx}(h:tS a=tS b):a=b:=by rw[<-jJ a,h,jJ]
theorem MW{a b:Tx}(h:tV a=tV b):a=b:=uK (V.str.inj h)
theorem BG(a:List Tx):(cN a).length=a.length:=bZ _
def cM(a b:Tx):Bool:=decide (a<=b)
def aV(ls:List Tx):List Tx:=ls.mergeSort cM
theorem Fo(a b c:Tx)(e:cM a b=ah)(d:cM b c=ah):cM a c=ah:=by simp only[cM,decide_eq_true_eq]at *;exact List.le_trans e d
theorem Mn(a b:Tx):(cM a b||cM b a)=ah:=by simp only[cM,CD,decide_eq_true_eq];exact List.le_total a b
theorem PU{a b:Tx}(d:cM a b=ah)(c:cM b a=ah):a=b:=by simp only[cM,decide_eq_true_eq]at *;exact List.le_antisymm d c
theorem fc(ls:List Tx):(aV ls).Perm ls:=CF _ _
theorem sB(ls:List Tx):(aV ls).Pairwise (λa b=>cM a b=ah):=IV Fo Mn _
theorem yG(ls:List Tx):(aV ls).length=ls.length:=(fc ls).length_eq
theorem vo{c d:List Tx}(f:d.Perm c)(e:d.Pairwise (λa b=>cM a b=ah)):d=aV c :=IW (le:=λa b=>cM a b=ah) (λ_ _ _ _ h g=>PU h g) e (sB c) (f.trans (fc c).symm)
theorem mW{ls:List Tx}(c:ls.Pairwise (λa b=>cM a b=ah)):aV ls=ls:=(vo (vV ls) c).symm
theorem rq{a b:List Tx}(c:a.Perm b):aV a=aV b:=vo ((fc a).trans c) (sB a)
theorem Fm:∀(p:Str) (l:List Str),risingS p l=ah->(p::l).Pairwise (λa b=>cM a.cps.toList b.cps.toList=ah)
 |p,[],_=>List.pairwise_singleton _ _
 |p,x::r,h=>by
  have d:(!ltCps x.cps.toList p.cps.toList&&risingS x r)=ah:=h;rw[h_,ltCps_eq]at d;have q:=Fm x r d.2;have e:cM p.cps.toList x.cps.toList=ah:=by simp only[cM,decide_eq_true_eq];intro f;simp[f]at d
  refine List.pairwise_cons.mpr ⟨λy c=>?_,q⟩;rcases br.mp c with rfl|c
  .exact e
  .exact Fo _ _ _ e (List.rel_of_pairwise_cons q c)
theorem HP{c:List Str}(h:sortedS c=ah):(c.map λz=>z.cps.toList).Pairwise (λa b=>cM a b=ah):=by
 rw[oI];cases c with
 |nil=>exact List.Pairwise.nil
 |cons x r=>exact Fm x r h
theorem xf:∀{ls:List Tx}{a:List ai},bA (cN ls) a->d9 a (ls.map tS)
 |[],_,.nil=>.nil
 |l::ls,_::_,.cons ⟨t,e⟩ r=>by subst e;exact .cons _ t (xf (ls:=ls) r)
theorem Ba:∀{b:List Str}{a:List ai},d9 a b->bA (cN (b.map λz=>z.cps.toList)) a
 |_,_,.nil=>.nil
 |_,_,.cons y t h=>.cons ⟨t,by rw[pU]⟩ (Ba h)
section
variable{P:aQ}{w:aI}{A:aX}{E:ai->ao->Prop}{s:ao}
theorem M0{v:ai}{Q:ai->ao->Prop}(x:aq (au P w) A.in1 (collect v) (λd s1=>∃ss:List Str,d9 d ss/\d.length<64/\∀(i:aB) (out:Array ai) (f:List Str) (e:Nat),(∀b o,s1.heap.get? b=aa o->i.get? b=aa o) -> i.get? s1.heap.objs.size=aa (fS "list" out e)->d9 out.toList f->f.Perm ss->sortedS f=ah->Q (.ref s1.heap.objs.size) {s1 with heap:=i}) E s):aq (au P w) A (call (.builtin "sorted") [v]) Q E s:=by refine IX kind_sorted plain_sorted entry_sorted (args_sorted1 _) ?_;unfold IY;refine ap (m:=checkCount "sorted" 1 1 _) (aD ?_);refine ap (aP x λd s1 ζ=>?_);obtain⟨ss,h,p,j⟩:=ζ;refine ap (CG ?_);have g:(s1.heap.push (fS "list" d.toArray 0)).get? s1.heap.objs.size=aa (fS "list" d.toArray 0):=cW _ rfl;refine ap (ke (kP slot_list_sort ⟨_,g,rfl⟩ entry_list_sort (list_sort_treeK strKind_oneLt g h.keysOf (λa b c e=>keyKind_strs (by rw[<-e];exact h)) p λy r q=>⟨_,rfl,?_⟩) (args_list_sort _)));obtain⟨f,C,B,z⟩:=sorted_out_str h r q;obtain⟨e,u⟩:=sortedHeap_at (out:=(arrOf y).map (·.2)) g;refine aD ⟨_,rfl,j _ _ f e (λb o l=>?_) u C B z⟩;have n:b<s1.heap.objs.size:=bG l;rw[sortedHeap_old (df n) (by rw[jx];exact kT n)];exact bH _ l
end
section
variable{X:Cx}
theorem Inv.sorted{g:List (af×Obj)}{f:St}{H:Hp}{s1:ao}{a:List Tx}{ss c:List Str}{d:aB}{out:Array ai}{e:Nat}(I:Inv X g f H s1)(j:ss=a.map tS)(r:a.length<64)(k:∀b o,s1.heap.get? b=aa o->d.get? b=aa o) (i:d.get? s1.heap.objs.size=aa (fS "list" out e)) (q:d9 out.toList c) (p:c.Perm ss) (n:sortedS c=ah):Inv X g f (upd H s1.heap.objs.size (.lst (cN (aV a)))) {s1 with heap:=d}:=by
 have m:c.map (λz=>z.cps.toList)=aV a:=by
  refine vo ?_ (HP n);have:=p.map λz=>z.cps.toList;rw[j,cB]at this;have l:(a.map ((λz:Str=>z.cps.toList) ∘ tS))=a:=by simp[lD,jJ]
  rw[l]at this;exact this
 have h:bA (cN (aV a)) out.toList:=by rw[<-m];exact Ba q
 refine I.laid (t':=s1.toks) k (aZ _) ⟨?_,out.toList,e,h,?_⟩
 .rw[BG,yG];exact kJ (GT ∅)
 .rw[CH];exact i
theorem Nx(z:Tx)(n:Nat):Txt.mul (tS z) (n:Int)=tS (dO n z).flatten:=by
 unfold Txt.mul;cases n with
 |zero=>simp[tS,zb]
 |succ n=>
  rw[if_neg ∅];split
  .rename_i h;simp only[CD,beq_iff_eq]at h;rcases h with h|h
   .have:n=0:=∅
    subst this;simp
   .rw[kt]at h;have:z=[]:=tt h;subst this;simp
  .unfold tS;congr 1;have b:∀(k:Nat) (a:Array Nat),(dO k z.toArray).foldl (·++·) a=a++(dO k z).flatten.toArray:=by
    intro k
    induction k with
    |zero=>intro a;simp
    |succ k c=>intro a;rw[IM,gM,c,IM,List.flatten_cons];simp[Array.append_assoc]
   have e:=b (n+1) #[];simp only[kN];simpa using e
theorem Pa:b8 X (i_ .Mult) (λx y H Q=>∃(z:Tx) (n:Nat),x=tV z/\y=.int n/\n<=100/\z.length<=100/\Q (tV (dO n z).flatten) H):=by
 intro r s i H x y v u Q I c b h;obtain⟨z,n,rfl,rfl,e,d,q⟩:=h;obtain⟨t,rfl⟩:=c;obtain⟨l,rfl⟩:=b;refine SB.mul ?_ λj k=>?_
 .have m:z.length*n<=10000:=c0 (CI d e) (by decide);refine⟨by rw[Bool.or_eq_false_iff];constructor <;> (apply decide_eq_false;lia),λg _=>?_,λg _=>?_⟩
  .rw[kt];intro f;have p:(2^63-1:Int) / n ≥ (2^63-1) / 100:=by
    have a:(0:Int)<n:=∅
    apply (Int.le_ediv_iff_mul_le a).mpr;have:((2^63-1:Int) / 100)*n<=((2^63-1) / 100)*100:=Int.mul_le_mul_of_nonneg_left ∅ (by decide);refine Int.le_trans this (by decide)
   have o:((2^63-1:Int) / 100) > 1000:=by decide
   lia
  .rw[kt,kN];unfold Builtin.Str.tooLong;apply decide_eq_false;have:10000<bg:=by rw[sU];decide
   lia
 .rw[Nx];exact⟨tV _,H,I.tok _,⟨_,rfl⟩,q⟩
end
def eD(w:aI):Bool:=w.params.followText "set-order"
structure RI(P:aQ)(w:aI)(h:aB)(a:af)(ks:List Str):Prop where
 ex:∃(es:Array (Int×ai)) (ep:Nat) (t:cH) (ss:List Str),h.get? a=aa {cls:=.type "set",dict:=ae,data:=.set es ep t}/\d9 (es.toList.map (·.2)) ss/\ss.Perm ks/\ElemsOf (nu P w) es.toList /\
  es.size<4090/\t.fits es.size=ah/\t.led=(!eD w)/\(ks≠[]->t.plain=ak)
section
variable{P:aQ}{w:aI}{A:aX}{E:ai->ao->Prop}{s:ao}
def OS(ks:List Str)(x:Str):List Str:=if x∈ks then ks else ks++[x]
theorem RI.put{h:aB}{a:af}{c es':Array (Int×ai)}{b:Nat}{t t':cH}(e:h.get? a=aa {cls:=.type "set",dict:=ae,data:=.set c b t}):(h.update a (Obj.putSet es' t')).get? a=aa {cls:=.type "set",dict:=ae,data:=.set es' (b+1) t'}:=by have:=nj (Obj.putSet es' t') e (by rw[putSet_of es' t' rfl];rfl);rw[putSet_of es' t' rfl]at this;exact this
end
def met(val:Nat->Str)(i:Nat):List Str:=((cG i).map val).foldl OS []
section
variable{P:aQ}{w:aI}{A:aX}{R:Result->ao->Prop}{I:af}{c a:List af}{G:Array GenState->Array GenState->Prop}{n:Nat}{d:Nat->ai->Prop}{St:Nat->ao->Prop}
theorem MB(W:WalksS P w A.in1 I c a G n d St)(S:af)(q:S∉c){J:Nat->aB->Prop}(K:∀i h j,J i h->(∀b o,b∉a->h.get? b=aa o->j.get? b=aa o)->J i j)(N:∀(i:Nat) (v:ai) (s:ao) (E:ai->ao->Prop) (Q:Bool->ao->Prop),i<n->d i v->J i s.heap->(∀j u b,s.toks<=u->kK S s.heap j->J (i+1) j->Q b {s with heap:=j,toks:=u})->aq (au P w) A.in1 (setAdd S v) Q E s):∀(k i:Nat) (s:ao),n-i=k->i<=n->St i s->J i s.heap -> (∀f,Moved (S::a) G s f->J n f.heap->R (.ok (.ret .none)) f)->qo (au P w) A (.builtin "set.update.loop" ⟨[.ref S,.ref I],[]⟩) R s:=by
 have X:S∉a:=λh=>q (W.sub _ h);have F:∀b∈a,b∈S::a:=λb g=>fj _ g;intro k
 induction k with
 |zero=>
  intro i s O T B y z;obtain rfl:i=n:=∅
  refine vW SQ ?_;rw[zn IZ _];show aq _ A.in1 (mi (.ref I) >>= _) _ _ s;refine ap (W.done s _ _ B λf p=>?_);show aq _ A.in1 (ret Value.none) _ _ f;exact aD (z f (p.mono F) (K _ _ _ y λb o g e=>p.heap b o g e))
 |succ k M=>
  intro i s O T B y z;have C:i<n:=∅
  refine vW SQ ?_;rw[zn IZ _];show aq _ A.in1 (mi (.ref I) >>= _) _ _ s;refine ap (W.item i s _ _ C B λv f Y l p=>?_);show aq _ A.in1 (kc [v] (setAdd S v) >>= _) _ _ f;refine ap (ke (N i v f _ _ C Y (K _ _ _ y λb o g e=>p.heap b o g e) λj u b D H L=>?_));refine aD ⟨CJ IZ _,M (i+1) _ ∅ C (W.frame _ f _ _ l D λb g o e=>?_) L λx m r=>?_⟩
  .rw[H.2 b (λh:b=S=>q (by rw[<-h];exact g))];exact e
  .refine z x (Moved.trans W.gtrans ((p.mono F).then_heap D λb o g e=>?_) m) r;rw[H.2 b (λh:b=S=>g (by rw[h];exact f8))];exact e
end
section
variable{P:aQ}{w:aI}{A:aX}{E:ai->ao->Prop}{s:ao}
theorem Na(a:ai){Q:ai->ao->Prop} (h:RI P w (s.heap.push {cls:=.type "set",dict:=ae,data:=.set #[] 0 (.fresh 0 0 (!eD w))}) s.heap.objs.size [] -> Q (.ref s.heap.objs.size) {s with heap:=s.heap.push {cls:=.type "set",dict:=ae,data:=.set #[] 0 (.fresh 0 0 (!eD w))}}):qo (au P w) A (.call (.builtin "set.__new__") ⟨[.type "set",a],[]⟩) (wants Q E) s:=by
 refine codeAny_of_tree ?_;show aq _ A.in1 (do checkBuiltinCall "set.__new__" ⟨[.type "set",a],[]⟩;again (.builtin "set.__new__" ⟨[.type "set",a],[]⟩)) _ _ s;refine ap (nv (PySem.F.newCall_set_1 a) (aD ⟨CJ F.plain_set_new _,vW F.entry_set_new ?_⟩));rw[zn F.plain_set_new _];unfold Builtin.«set.__new__» Builtin.Frozenset.newClass;have f:=sub_set_self;obtain⟨j,g,d,c,i⟩:=s;dsimp only
 wp_walk
 refine tu (aD ?_);dsimp only;simp only[newObj];refine ap (wpAny_alloc (aD ?_));refine aD (h ⟨#[],0,_,[],cW _ rfl,.nil,vV _,λe b=>by simp at b,by decide,rfl,rfl,λh=>absurd rfl h⟩)
end
end L2
set_option maxHeartbeats 8000000
namespace L2
theorem J5:entryFor table "set.__iter__"=aa Builtin.«frozenset.__iter__»:=entryFor_alias (id':="frozenset.__iter__") (by kernel_rfl) rfl (by decide +kernel) (by kernel_rfl)
theorem E9:Slot "set_iterator" "__next__" "set_iterator.__next__" :=
 .of (owner:="set_iterator") (n:="__next__") (by rw[typeLookup_type,builtinLookup_eq_fast];kernel_rfl) (by decide +kernel) (by decide +kernel) (by decide +kernel) (by first|exact .inl (by decide +kernel)|exact .inr (by decide +kernel)) (by rw[isSubtype_type];kernel_rfl)
theorem Nr:entryFor table "set_iterator.__next__"=aa Builtin.«set_iterator.__next__»:=entryFor_of_fast (by kernel_rfl)
theorem Ou(a:ai):argsOk "set_iterator.__next__" ⟨[a],[]⟩:=by unfold argsOk;kernel_rfl
theorem DL:Slot "set_iterator" "__iter__" "set_iterator.__iter__" :=
 .of (owner:="set_iterator") (n:="__iter__") (by rw[typeLookup_type,builtinLookup_eq_fast];kernel_rfl) (by decide +kernel) (by decide +kernel) (by decide +kernel) (by first|exact .inl (by decide +kernel)|exact .inr (by decide +kernel)) (by rw[isSubtype_type];kernel_rfl)
theorem Os:entryFor table "set_iterator.__iter__"=aa Builtin.«dict_keyiterator.__iter__»:=entryFor_alias (id':="dict_keyiterator.__iter__") (by kernel_rfl) rfl (by decide +kernel) (by kernel_rfl)
theorem JN(a:ai):argsOk "set_iterator.__iter__" ⟨[a],[]⟩:=by unfold argsOk;kernel_rfl
def jk(first:ai)(i:Nat)(a:af)(n b:Nat):Obj:={cls:=.type "set_iterator",data:=.fields #[first,.int i 0,.ref a,.int n 0,.int b 0]}
section
variable{P:aQ}{w:aI}{A:aX}{E:ai->ao->Prop}{s:ao}
theorem wZ{I a:af}{first:ai}{i n d:Nat}{Q:ai->ao->Prop}(h:s.heap.get? I=aa (jk first i a n d))(c:Q (.ref I) s):aq (au P w) A (nc (.ref I)) Q E s:=by
 have b:s.TypeIs (.ref I) "set_iterator":=⟨_,h,rfl⟩
 refine I_ b DL (kP DL b Os ?_ (JN _));show aq _ _ (ret (.ref I)) _ _ s;exact aD ⟨_,rfl,"set_iterator",_,b,E9.lookup,c⟩
theorem pM{I a:af}{first:ai}{i:Nat}{f:Array (Int×ai)}{g:Nat}{t:cH}{Q:Option ai->ao->Prop}(n:s.heap.get? a=aa {cls:=.type "set",dict:=ae,data:=.set f g t})(m:t.fits f.size=ah)(l:s.heap.get? I=aa (jk first i a f.size g))(h:aq (au P w) A.in1 (if let .int slot _:=first then do
    match <-ny a slot.toNat (i:Int).toNat (g:Int).toNat with
    |some (x,next)=>do
     lE (.ref I) 0 (dr next)
     lE (.ref I) 1 (dr ((i:Int)+1))
     ret x
    |none=>do lE (.ref I) 2 .none;vX (<-qv (.type "StopIteration") [])
   else do
    let aa places <-zo first|lF "internal:set_iterator"
    match places[(i:Int).toNat]? with
    |some (.int d _)=>do
     let x <-setNextDrawn a d.toNat (g:Int).toNat
     lE (.ref I) 1 (dr ((i:Int)+1))
     ret x
    |some _=>lF "internal:set_iterator"
    |none=>do lE (.ref I) 0 (dr 0);lE (.ref I) 2 .none;vX (<-qv (.type "StopIteration") []))
   (λc b=>∃r,c=.done (.ret r)/\Q (aa r) b) (λe b=>aq (au P w) A (do if <-isInstance e (.type "StopIteration")then pure ae else throw e) Q E b) s) :
  aq (au P w) A (mi (.ref I)) Q E s:=by
 have j:s.TypeIs (.ref I) "set_iterator":=⟨_,l,rfl⟩
 unfold mi;refine ap (CK (vN (name:=sW "__next__") j E9 (kP E9 j Nr ?_ (Ou _))));unfold Builtin.«set_iterator.__next__» slotArgs;refine ap (aD ?_);refine ap (wpAny_fieldsOf l rfl ?_);show aq _ _ (setEntries a >>= _) _ _ s;refine ap (wpAny_setEntries_of n rfl m ?_);have u:(((f.size:Nat):Int) != ((f.size:Nat):Int))=ak:=by simp
 rw[u];simp only[eZ,if_false];refine f9 ?_ (λc b q=>?_) (λe b q=>q) (Q:=λc b=>∃r,c=.done (.ret r)/\Q (aa r) b) (E:=λe b=>aq (au P w) A (do if <-isInstance e (.type "StopIteration")then pure ae else throw e) Q E b)
 .exact h
 .obtain⟨r,p,o⟩:=q;exact⟨r,p,aD o⟩
end
theorem BW{a:Type}:∀{l:List a}{i:Nat} (h:i<l.length),(l[i]::l.eraseIdx i).Perm l
 |[],i,h=>by simp at h
 |x::r,0,h=>by simp
 |x::r,i+1,h=>by have q:=BW (l:=r) (i:=i) (by simpa using h);simp only[List.getElem_cons_succ,List.eraseIdx_cons_succ];exact(List.Perm.swap x _ _).trans (List.Perm.cons x q)
theorem Fp{e:Type}(next:Nat->Nat):∀(c k:Nat) (a:List e) (b:Array e),c=a.length->(pickOrder.go next c k a b).toList.Perm (b.toList++a)
 |0,k,a,b,h=>by have:a=[]:=tt h.symm;subst this;simp[pickOrder.go]
 |c+1,k,a,b,h=>by
  have d:next k % a.length<a.length:=nz _ ∅
  unfold pickOrder.go;rw[dP d];dsimp only;have f:=Fp next c (k+1) (a.eraseIdx (next k % a.length)) (b.push a[next k % a.length]) (by rw[List.length_eraseIdx,if_pos d];lia)
  refine f.trans ?_;rw[vY,gP];exact zp _ (BW d)
theorem Ff{b:Type}(next:Nat->Nat)(a:Array b):(vZ next a).toList.Perm a.toList:=by
 have:=Fp next a.size 0 a.toList #[] (by simp)
 simpa[vZ]using this
section
variable{P:aQ}{w:aI}{A:aX}{E:ai->ao->Prop}{s:ao}
theorem PF{a:Source}{n:Nat}{Q:Nat->ao->Prop}(b:n≠0)(h:∀k d,k<n->Q k {s with drawn:=d}):aq (au P w) A (choose a n) Q E s:=λc p hΓ=>by unfold choose;rw[Sem.wp_choose];refine⟨b,?_⟩;exact h _ _ (nz _ (Nat.pos_of_ne_zero b))
theorem Fj{e:Type}:∀(n:Nat) (a:List e) (s:ao) (Q:List e->ao->Prop),n=a.length->(∀b d,b.Perm a->Q b {s with drawn:=d})->aq (au P w) A (drawOrder n a) Q E s
 |0,[],s,Q,_,h=>by unfold drawOrder;exact aD (h [] s.drawn (vV _))
 |0,x::a,s,Q,hn,h=>by simp at hn
 |n+1,[],s,Q,hn,h=>by simp at hn
 |n+1,x::a,s,Q,hn,h=>by unfold drawOrder;refine ap (PF (by simp) λk d c=>?_);rw[dP c];dsimp only;refine ap (Fj n ((x::a).eraseIdx k) _ _ (by rw[List.length_eraseIdx,if_pos c];lia) λb g f=>?_);refine aD (h _ g ?_);exact(List.Perm.cons _ f).trans (BW c)
theorem xp{Q:Option ai->ao->Prop}{R:Fin->ao->Prop}(f:A.handled=ae)(g:∀c,(∀b o,s.heap.get? b=aa o->c.get? b=aa o)->Q ae {s with heap:=c}):aq (au P w) A.in1 (do vX (<-qv (.type "StopIteration") [])) R (λe d=>aq (au P w) A (do if <-isInstance e (.type "StopIteration")then pure ae else throw e) Q E d) s:=by
 refine ap ?_;simp only[qv,newTuple];refine ap (jN ?_ (by size_fits));refine ap (m:=v3 _ _) (nv (a:=Value.none) (by first|rfl | (simp only[v3];rfl)) ?_);refine jN ?_ (by size_fits);simp only[vX];refine ap (wpAny_handled ?_);rw[show A.in1.handled=ae from f];refine ap (aD (wpAny_throw ?_));refine ap (CL (T:="StopIteration") (b:=ah) ⟨_,cW _ rfl,rfl⟩ isSubtype_stop ?_);exact aD (g _ λb o e=>bH _ (bH _ e))
theorem Br{I a:af}{first d:ai}{i n e:Nat}{Q:Unit->ao->Prop}(c:s.heap.get? I=aa (jk first i a n e))(h:∀b,kK I s.heap b->b.get? I=aa (jk d i a n e)->Q () {s with heap:=b}):aq (au P w) A (lE (.ref I) 0 d) Q E s:=by refine nA c rfl (by simp[jk]) (h _ (oJ ..) ?_);rw[nj _ c (by rfl)];rfl
theorem Ay{I a:af}{first:ai}{i n d:Nat}{Q:Unit->ao->Prop}(c:s.heap.get? I=aa (jk first i a n d))(h:∀b,kK I s.heap b->b.get? I=aa (jk first (i+1) a n d)->Q () {s with heap:=b}):aq (au P w) A (lE (.ref I) 1 (dr ((i:Int)+1))) Q E s:=by refine nA c rfl (by simp[jk]) (h _ (oJ ..) ?_);rw[nj _ c (by rfl)];rfl
theorem xR{I a:af}{first:ai}{i n d:Nat}{Q:Unit->ao->Prop}(c:s.heap.get? I=aa (jk first i a n d))(h:∀b,kK I s.heap b->(∃o,b.get? I=aa o)->Q () {s with heap:=b}):aq (au P w) A (lE (.ref I) 2 .none) Q E s:=by refine nA c rfl (by simp[jk]) (h _ (oJ ..) ⟨_,nj _ c (by rfl)⟩)
abbrev p9(a:Array (Int×ai))(b:Nat)(t:cH):Obj:={cls:=.type "set",dict:=ae,data:=.set a b t}
theorem Pg{I a:af}{d:Array (Int×ai)}{g:Nat}{t:cH}(x:a≠I)(n:t.fits d.size=ah)(f:eD w=ah)(C:A.handled=ae):Walks P w A I [I,a] [I] d.size (λi v=>((vZ (w.params.setOrder a g) d).toList.map (·.2))[i]?=aa v) (λi h=>h.get? I=aa (jk (dr 0) i a d.size g)/\h.get? a=aa (p9 d g t)):=by
 have hsz:(vZ (w.params.setOrder a g) d).size=d.size:=by have:=(Ff (w.params.setOrder a g) d).length_eq;simpa using this
 have j:∀(s:ao) (i:Nat) (Q:Option (ai×Nat)->ao->Prop) (E:ai->ao->Prop),s.heap.get? a=aa (p9 d g t) ->
   Q (((vZ (w.params.setOrder a g) d)[i]?).map λe=>(e.2,0)) s->aq (au P w) A.in1 (ny a (0:Int).toNat (i:Int).toNat (g:Int).toNat) Q E s:=λs i Q E u B=>by
  unfold ny;refine ap (mq u rfl n ?_);unfold zq;refine ap (ap (tu (aD ?_)));show aq _ _ (if eD w=ah then _ else _) _ _ s;rw[if_pos f];simp only[kN,bne_self_eq_false,eZ,if_false];unfold setWalk;refine ap (ap (mq u rfl n ?_));unfold zq;refine ap (ap (tu (aD ?_)));show aq _ _ (if eD w=ah then _ else _) _ _ s;rw[if_pos f];refine ap (tu (aD (aD ?_)));exact B
 refine⟨λb f=>by simp at f;simp[f],λi h H c k=>⟨k I (by simp) _ c.1,k a (by simp) _ c.2⟩,λi s Q E G c l=>?_,λs Q E c l=>?_,λi s Q E c l=>wZ c.1 l⟩
 .refine pM c.2 n c.1 ?_;refine ap (j s i _ _ c.2 ?_);have y:i<(vZ (w.params.setOrder a g) d).size:=∅
  rw[jc y];dsimp only[oK];refine ap (Br c.1 λq m F=>?_);refine ap (Ay (s:={s with heap:=q}) F λp r D=>?_);refine aD ⟨_,rfl,l _ p s.toks ?_ ⟨D,?_⟩ λb o f e=>?_⟩
  .rw[d7];simp[jc y]
  .exact(r.2 a x).trans ((m.2 a x).trans c.2)
  .exact(r.2 b (by simpa using f)).trans ((m.2 b (by simpa using f)).trans e)
 .refine pM c.2 n c.1 ?_;refine ap (j s d.size _ _ c.2 ?_);rw[Array.getElem?_eq_none ∅];dsimp only[Option.map_none];refine ap (xR c.1 λq m _=>?_);exact xp (s:={s with heap:=q}) C λp z=>l p s.toks λb o f e=>z b o ((m.2 b (by simpa using f)).trans e)
theorem SF{I a T:af}{f:Array (Int×ai)}{J:Nat}{t:cH}{c:List Nat}(cP:a≠I)(Z:T≠I)(C:t.fits f.size=ah)(G:c.Perm (cG f.size))(Y:A.handled=ae):Walks P w A I [I,a,T] [I] f.size (λi v=>(c.filterMap λj=>(f[j]?).map (·.2))[i]?=aa v) (λi h=>h.get? I=aa (jk (.ref T) i a f.size J)/\h.get? a=aa (p9 f J t)/\h.get? T=aa {cls:=.type "tuple",data:=.seq (c.map λ(k:Nat)=>dr k).toArray}):=by
 have L:c.length=f.size:=by simpa using G.length_eq
 have p:∀j∈c,j<f.size:=λj B=>by simpa using G.mem_iff.mp B
 have fm:∀(l:List Nat),(∀j∈l,j<f.size)->∀(i j:Nat),l[i]?=aa j->∃e:Int×ai,f[j]?=aa e/\(l.filterMap λj=>(f[j]?).map (·.2))[i]?=aa e.2:=by
  intro l
  induction l with
  |nil=>intro _ i j h;simp at h
  |cons x r O=>
   intro H i j h;have S:x<f.size:=H x (f8 ..);have F:f[x]?=aa f[x]:=jc S;cases i with
   |zero=>simp at h;subst h;exact⟨_,F,by rw[mf,F];rfl⟩
   |succ i=>obtain⟨e,z,y⟩:=O (λj B=>H j (fj _ B)) i j (by simpa using h);exact⟨e,z,by rw[mf,F];simpa using y⟩
 have g:∀(s:ao) (Q:Option (Array ai)->ao->Prop) (E:ai->ao->Prop),s.heap.get? T=aa {cls:=.type "tuple",data:=.seq (c.map λ(k:Nat)=>dr k).toArray}->Q (aa (c.map λ(k:Nat)=>dr k).toArray) s->aq (au P w) A.in1 (zo (.ref T)) Q E s:=λs Q E W X=>by exact v5 W rfl X
 refine⟨λb m=>by simp at m;simp[m],λi h h' d k=>⟨k I (by simp) _ d.1,k a (by simp) _ d.2.1,k T (by simp) _ d.2.2⟩,λi s Q E hi d q=>?_,λs Q E d q=>?_,λi s Q E d q=>wZ d.1 q⟩
 .refine pM d.2.1 C d.1 ?_;refine ap (g s _ _ d.2.2 ?_);have K:i<c.length:=∅
  have u:((c.map λ(k:Nat)=>dr k).toArray)[(i:Int).toNat]?=aa (dr (c[i]:Nat)):=by simp[K]
  dsimp only;rw[u];obtain⟨e,z,y⟩:=fm c p i c[i] (dP K);show aq _ _ (setNextDrawn a _ _ >>= _) _ _ s;refine ap ?_;unfold setNextDrawn;refine ap (mq d.2.1 rfl C ?_);simp only[kN,bne_self_eq_false,eZ,if_false];rw[z];refine aD ?_;refine ap (Ay d.1 λD n e2=>?_);refine aD ⟨_,rfl,q _ D s.toks y ⟨e2,(n.2 a cP).trans d.2.1,(n.2 T Z).trans d.2.2⟩ λb o m e=>(n.2 b (by simpa using m)).trans e⟩
 .refine pM d.2.1 C d.1 ?_;refine ap (g s _ _ d.2.2 ?_);have u:((c.map λ(k:Nat)=>dr k).toArray)[(f.size:Int).toNat]?=ae:=by simp[L]
  dsimp only;rw[u];refine ap (Br d.1 λh1 N u=>?_);refine ap (xR (s:={s with heap:=h1}) u λD n _=>?_);exact xp (s:={s with heap:=D}) Y λh3 M=>q h3 s.toks λb o m e=>M b o ((n.2 b (by simpa using m)).trans ((N.2 b (by simpa using m)).trans e))
theorem KQ(j k:Nat):iB #[j] k=if j<k then 1 else 0:=by
 unfold iB;simp only[cX,d8,nk];unfold tw;simp;split
 .rename_i h;unfold tw;simp
 .unfold tw;simp
theorem La{I a:af}{g:Array (Int×ai)}{n:Nat}{t:cH}(K:a≠I)(u:t.fits g.size=ah)(f:eD w=ak)(M:t.led=ah)(m:g.size=1)(S:A.handled=ae):Walks P w A I [I,a] [I] 1 (λi v=>(g.toList.map (·.2))[i]?=aa v) (λi h=>h.get? I=aa (jk (dr (if i=0 then 0 else((t.place.getD 0 0:Nat):Int)+1)) i a g.size n)/\h.get? a=aa (p9 g n t)):=by
 have y:t.place.size=1:=by simp only[SetTable.fits,h_,beq_iff_eq]at u;lia
 obtain⟨j,G⟩:=Array.size_eq_one_iff.mp y;have J:((t.place.getD 0 0:Nat):Int)=(j:Int):=by rw[G];rfl
 obtain⟨e,H⟩:=Array.size_eq_one_iff.mp m;have l:∀(s:ao) (d:Nat) (i:Nat) (Q:Option (ai×Nat)->ao->Prop) (E:ai->ao->Prop),s.heap.get? a=aa (p9 g n t) ->
   Q (if j<d then ae else aa (e.2,j+1)) s->aq (au P w) A.in1 (ny a d i n) Q E s:=λs d i Q E T r=>by
  unfold ny;refine ap (mq T rfl u ?_);unfold zq;refine ap (ap (tu (aD ?_)));show aq _ _ (if eD w=ah then _ else _) _ _ s;rw[if_neg (by rw[f];decide)];refine zr (λz=>absurd (show(!t.plain&&decide (g.size > 1))=ah from z) (by rw[m];simp)) (λ_=>?_);refine ap ?_;refine f9 (Q:=λ_ D=>D=s) (E:=E) ?_ (λ_ D N=>?_) (λ_ _ x=>x)
  .refine zr (λz=>absurd (show(!t.led&&!g.isEmpty)=ah from z) (by rw[M];simp)) (λ_=>aD rfl)
  .subst N;rw[G,KQ,H];by_cases L:j<d
   .rw[if_pos L]at r ⊢;exact aD r
   .rw[if_neg L]at r ⊢;exact aD r
 refine⟨λb f=>by simp at f;simp[f],λi h Y c k=>⟨k I (by simp) _ c.1,k a (by simp) _ c.2⟩,λi s Q E X c p=>?_,λs Q E c p=>?_,λi s Q E c p=>wZ c.1 p⟩
 .obtain rfl:i=0:=∅
  refine pM c.2 u c.1 ?_;show aq _ _ (ny a (0:Int).toNat ((0:Nat):Int).toNat (n:Int).toNat >>= _) _ _ s;simp only[kN,Int.toNat_zero];refine ap (l s 0 0 _ _ c.2 ?_);rw[if_neg (nB j)];dsimp only;refine ap (Br c.1 λm q C=>?_);refine ap (Ay (s:={s with heap:=m}) C λB F W=>?_);refine aD ⟨_,rfl,p _ B s.toks ?_ ⟨?_,?_⟩ λb o f e=>?_⟩
  .rw[H];rfl
  .rw[W,if_neg (by decide),J];rfl
  .exact(F.2 a K).trans ((q.2 a K).trans c.2)
  .exact(F.2 b (by simpa using f)).trans ((q.2 b (by simpa using f)).trans e)
 .refine pM c.2 u c.1 ?_;rw[if_neg (by decide),J];show aq _ _ (ny a ((j:Int)+1).toNat ((1:Nat):Int).toNat (n:Int).toNat >>= _) _ _ s;have C:((j:Int)+1).toNat=j+1:=∅
  rw[C,kN,kN];refine ap (l s (j+1) 1 _ _ c.2 ?_);rw[if_pos (nD j)];dsimp only;refine ap (xR c.1 λm q _=>?_);exact xp (s:={s with heap:=m}) S λB O=>p B s.toks λb o f e=>O b o ((q.2 b (by simpa using f)).trans e)
theorem Bb:∀{a:List ai}{b:List Str} (i:Nat) (v:ai),d9 a b->a[i]?=aa v->∃t,v=.str (b.getD i zb) t
 |_,_,i,v,.nil,h=>by simp at h
 |_,_,0,v,.cons y t _,h=>by simp at h;exact⟨t,by rw[<-h];rfl⟩
 |_,_,i+1,v,.cons y t hr,h=>by simp only[CM]at h;obtain⟨c,e⟩:=Bb i v hr h;exact⟨c,by rw[e];rfl⟩
set_option maxRecDepth 100000 in
theorem Sy{l:af}{a:Array ai}{Q:ai->ao->Prop}(hh:A.handled=ae)(hl:s.heap.IsList l a){J:Nat->aB->Prop}(hJ:∀i h d,J i h->(∀b o,b<=s.heap.objs.size->h.get? b=aa o->d.get? b=aa o)->J i d) (T:J 0 (s.heap.push {cls:=.type "set",dict:=ae,data:=.set #[] 0 (.fresh 0 0 (!eD w))}))(iC:∀(i:Nat) (v:ai) (f:ao) (E:ai->ao->Prop) (Q:Bool->ao->Prop),i<a.size->a[i]?=aa v->J i f.heap->(∀d m b,f.toks<=m->kK s.heap.objs.size f.heap d->J (i+1) d->Q b {f with heap:=d,toks:=m})->aq (au P w) A.in1.in1.in1 (setAdd s.heap.objs.size v) Q E f)(h:∀(d:aB) (m:Nat),J a.size d->(∀b o,b<s.heap.objs.size->s.heap.get? b=aa o->d.get? b=aa o)->Q (.ref s.heap.objs.size) {s with heap:=d,toks:=m}):aq (au P w) A (call (.type "set") [.ref l]) Q E s:=by
 obtain⟨c,tl,hmro⟩:=F.called_set.mro;have K:=F.called_set.made;have qK:=F.called_set.sub;refine wpAny_call (codeAny_of_tree ?_);show aq _ _ (callAny (.type "set") _) _ _ _;refine aD ⟨Code.quiet_builtin _ (by decide +kernel),vW F.entry_type_call ?_⟩;rw[Around.under_plain (weight_type_call_type "set" [.ref l] []) rfl];have h1:=F.called_set.notType;have h2:=F.called_set.canCreate;have hct:=PySem.F.typeCall_set_1 (.ref l)
 repeat any_goals (first|assumption|wp_step)
 refine zd (Na (P:=P) (w:=w) (.ref l) (E:=E) (Q:=λp f=>p=.ref s.heap.objs.size/\f={s with heap:=s.heap.push {cls:=.type "set",dict:=ae,data:=.set #[] 0 (.fresh 0 0 (!eD w))}}/\True) λS0=>⟨rfl,rfl,trivial⟩) λr f I=>?_;cases r with
 |error e=>exact I
 |ok fl=>
  cases fl with
  |ret p=>
   obtain⟨rfl,rfl,S0⟩:=I;have hS:=cW (h:=s.heap) (o:=({cls:=.type "set",dict:=ae,data:=.set #[] 0 (.fresh 0 0 (!eD w))}:Obj));have O:(s.heap.push {cls:=.type "set",dict:=ae,data:=.set #[] 0 (.fresh 0 0 (!eD w))}).get? s.heap.objs.size=aa {cls:=.type "set",dict:=ae,data:=.set #[] 0 (.fresh 0 0 (!eD w))}:=cW _ rfl;have hT:Shared.TypeIs {s with heap:=s.heap.push {cls:=.type "set",dict:=ae,data:=.set #[] 0 (.fresh 0 0 (!eD w))}} (.ref s.heap.objs.size) "set":=⟨_,O,rfl⟩
   have hli:=F.called_set.init.lookup;have hbi:=F.called_set.init.bind (.ref s.heap.objs.size)
   repeat any_goals (first|assumption|wp_step)
   refine zd (codeAny_call_builtin (R:=wants (λr Z=>r=.none/\∃d m,Z={s with heap:=d,toks:=m}/\J a.size d /\ (∀b o,b<s.heap.objs.size->s.heap.get? b=aa o->d.get? b=aa o)) E) F.called_set.init.plain F.entry_set_init (check_set_init_1 hT ?_)) λr2 Z C=>?_
   .obtain⟨⟨ocls,n,H,g⟩,o4,fI,nl,Y⟩:=hl;simp only at fI Y;subst fI;subst Y;have q:(s.heap.push {cls:=.type "set",dict:=ae,data:=.set #[] 0 (.fresh 0 0 (!eD w))}).get? l=aa {cls:=.type "list",dict:=n,data:=.seq a nl,slots:=g}:=bH _ o4;have hsls:=PySem.F.sub_list_set;have hslf:=PySem.F.sub_list_frozenset;have cP:(Value.type "list" == Value.type "dict")=ak:=by decide
    have X:(s.heap.push {cls:=.type "set",dict:=ae,data:=.set #[] 0 (.fresh 0 0 (!eD w))}).IsList l a:=⟨_,q,rfl,nl,rfl⟩
    unfold Builtin.«set.__init__» noKeywords Builtin.Frozenset.updateFrom;generalize S:nc=PI
    wp_walk
    subst S;refine IT X (ap (wpAny_runValue ?_));have x:l<s.heap.objs.size:=bG o4;have M:A.in1.in1.in1.handled=ae:=by simp[hh]
    have j:(s.heap.push {cls:=.type "set",dict:=ae,data:=.set #[] 0 (.fresh 0 0 (!eD w))}).objs.size=s.heap.objs.size+1:=vS ..;have u:l≠(s.heap.push {cls:=.type "set",dict:=ae,data:=.set #[] 0 (.fresh 0 0 (!eD w))}).objs.size:=by rw[j];exact df (kT x)
    have N:s.heap.objs.size∉[(s.heap.push {cls:=.type "set",dict:=ae,data:=.set #[] 0 (.fresh 0 0 (!eD w))}).objs.size,l]:=by rw[j];simp only[br,gQ,gc,or_false,not_or];exact⟨df (nD _),sT x⟩
    refine MB ((Walks.list M _ l u a).toS) s.heap.objs.size N (λi h d L k=>hJ i h d L λb o z e=>k b o (by rw[j];simp only[gQ];exact df (Nat.lt_succ_of_le z)) e) (λi v f E Q hi hv L hq=>iC i v f E Q hi hv L hq) (a.size-0) 0 _ ∅ (jO _)
     ⟨⟨_,cW _ rfl,rfl,rfl⟩,(X.push _)⟩ (hJ 0 _ _ T λb o _ e=>bH _ e) ?_
    intro s' y D;obtain⟨d,g',d',B,G⟩:=s';obtain rfl:g'=s.gens:=y.gens;obtain rfl:d'=s.drawn:=y.drawn;obtain rfl:G=s.os:=y.os;show aq _ _ _ _ _ _;refine aD ?_;show aq _ _ (ret Value.none) _ _ _;refine aD ⟨rfl,d,B,rfl,D,λb o z e=>y.heap b o ?_ (bH _ (bH _ e))⟩;rw[j];simp only[br,gQ,gc,or_false,not_or];exact⟨df z,df (kT z)⟩
   .cases r2 with
    |error e=>exact C
    |ok W=>
     cases W with
     |ret r=>
      obtain⟨rfl,d,m,rfl,D,km⟩:=C
      repeat any_goals (first|assumption|wp_step)
      exact h _ _ D km
     |_=>exact C.elim
  |_=>exact I.elim
end
theorem Ht{n:Nat}(h:n<=4096):n<bg:=CA h (by decide)
theorem Qg:typeLookup (.type "set") "__len__"=pure (aa (.builtin "set.__len__")):=F.slot_set_len.lookup
section
variable{P:aQ}{w:aI}{A:aX}{E:ai->ao->Prop}{s:ao}
def uI(w:aI)(h:aB)(a:af)(b:Array (Int×ai)):Prop:=∃(c:Nat) (t:cH),h.get? a=aa {cls:=.type "set",dict:=ae,data:=.set b c t}/\b.size<4090/\t.fits b.size=ah/\t.led=(!eD w)/\(b.size≠0->t.plain=ak)
theorem uI.at{w:aI}{h h':aB}{a:af}{es:Array (Int×ai)}(S:uI w h a es)(k:∀o,h.get? a=aa o->h'.get? a=aa o):uI w h' a es:=by obtain⟨ep,t,e,r⟩:=S;exact⟨ep,t,k _ e,r⟩
structure Gx(P:aQ)(w:aI)(s s':ao)(a I:af)(es:Array (Int×ai))(fp:List af)(n:Nat)(Pv:Nat->ai->Prop)(St:Nat->aB->Prop):Prop where
 wk:∀A:aX,A.handled=ae->Walks P w A I fp [I] n Pv St
 st:St 0 s'.heap
 old:∀b o,s.heap.get? b=aa o->s'.heap.get? b=aa o
 new:s.heap.objs.size<=I
 lt:∀b∈fp,b<s'.heap.objs.size
 rest:s'={s with heap:=s'.heap,drawn:=s'.drawn}
 ord:∀aw:Array ai,ItemsOf Pv aw n->aw.toList.Perm (es.toList.map (·.2))
 len:n<4090
 fps:∀b∈fp,b=a\/s.heap.objs.size<=b
theorem ym{l:List ai}{a:Array ai}{n:Nat}(c:l.length=n)(h:ItemsOf (λi v=>l[i]?=aa v) a n):a.toList=l:=by
 refine qw λi=>?_;by_cases b:i<n
 .have:i<a.size:=by rw[h.1];exact b
  have q:=h.2 i a[i] (jc this);rw[q];simp[this]
 .rw[oM (by rw[fk,h.1];lia),oM ∅]
theorem Lx{I a:af}{d:Array (Int×ai)}{j:Nat}{t:cH}(L:a≠I)(r:t.fits d.size=ah)(g:eD w=ak)(n:d.size=0)(F:A.handled=ae):Walks P w A I [I,a] [I] 0 (λi v=>(d.toList.map (·.2))[i]?=aa v) (λi h=>h.get? I=aa (jk (dr 0) 0 a d.size j)/\h.get? a=aa (p9 d j t)):=by
 have u:d=#[]:=Array.eq_empty_of_size_eq_zero n;have l:∀(s:ao) (f:Nat) (i:Nat) (Q:Option (ai×Nat)->ao->Prop) (E:ai->ao->Prop),s.heap.get? a=aa (p9 d j t) ->
   Q ae s->aq (au P w) A.in1 (ny a f i j) Q E s:=λs f i Q E G C=>by
  unfold ny;refine ap (mq G rfl r ?_);unfold zq;refine ap (ap (tu (aD ?_)));show aq _ _ (if eD w=ah then _ else _) _ _ s;rw[if_neg (by rw[g];decide)];refine zr (λp=>absurd (show(!t.plain&&decide (d.size > 1))=ah from p) (by rw[n];simp)) (λ_=>?_);refine ap ?_;refine f9 (Q:=λ_ q=>q=s) (E:=E) ?_ (λ_ q y=>?_) (λ_ _ x=>x)
  .refine zr (λp=>absurd (show(!t.led&&!d.isEmpty)=ah from p) (by rw[u];simp)) (λ_=>aD rfl)
  .subst y;rw[u];have J:∀k:Nat,(#[]:Array (Int×ai))[k]?=ae:=λk=>by simp
   dsimp only;rw[J];exact aD C
 refine⟨λb g=>by simp at g;simp[g],λi h K c k=>⟨k I (by simp) _ c.1,k a (by simp) _ c.2⟩,λi s Q E D c m=>absurd D (nB i),λs Q E c m=>?_,λi s Q E c m=>wZ c.1 m⟩;refine pM c.2 r c.1 ?_;show aq _ _ (ny a (0:Int).toNat ((0:Nat):Int).toNat (j:Int).toNat >>= _) _ _ s;simp only[kN,Int.toNat_zero];refine ap (l s 0 0 _ _ c.2 ?_);dsimp only;refine ap (xR c.1 λn B _=>?_);exact xp (s:={s with heap:=n}) F λH z=>m H s.toks λb o g e=>z b o ((B.2 b (by simpa using g)).trans e)
theorem ND{a:af}{g:Array (Int×ai)}{Q:ai->ao->Prop}(S:uI w s.heap a g)(h:∀x I C n D St,Gx P w s x a I g C n D St->Q (.ref I) x):aq (au P w) A (nc (.ref a)) Q E s:=by
 obtain⟨M,t,l,hsz,p,qL,dH⟩:=S;have Y:s.TypeIs (.ref a) "set":=⟨_,l,rfl⟩
 have ku:=bG l;refine I_ Y F.slot_set_iter (kP F.slot_set_iter Y J5 ?_ (F.args_set_iter_1 _));unfold Builtin.«frozenset.__iter__» Builtin.Frozenset.slot0 slotArgs Builtin.Frozenset.addrOf Builtin.Frozenset.sizeOf;refine ap (aD ?_);refine ap (ap (wpAny_setEntries_of l rfl p (aD ?_)));unfold setDrawn;refine ap (ap (mq l rfl p ?_));unfold zq;refine ap (ap (tu (aD ?_)));refine aD ?_;have i:∀(first:ai) (u:ao) (C:List af) (n:Nat) (D:Nat->ai->Prop) (St:Nat->aB->Prop),u.heap.get? a=aa {cls:=.type "set",dict:=ae,data:=.set g M t} ->
   Gx P w s {u with heap:=u.heap.push (jk first 0 a g.size M)} a u.heap.objs.size g C n D St ->
   aq (au P w) A.in1 (do
    let e <-setEpoch a
    let f <-newFields "set_iterator" [first,dr 0,Value.ref a,dr (g.size:Nat),dr (e:Nat)]
    ret f) (λi x=>∃v,i=Fin.done (Flow.ret v)/\∃Z r,x.TypeIs v Z/\typeLookup (Value.type Z) (sW "__next__")=pure (aa r)/\Q v x) E u:=λfirst u C n D St ha W=>by
  refine ap (wpAny_setEpoch_of ha rfl p ?_);refine ap (jN ?_);exact aD ⟨_,rfl,"set_iterator",_,⟨_,cW _ rfl,rfl⟩,E9.lookup,h _ _ C n D St W⟩
 refine zr (λK=>?_) (λK=>?_)
 .have H:(!eD w&&(!t.plain&&decide (g.size > 1)))=ah:=K;refine ap (Fj g.size (cG g.size) s _ (by simp) λG d J=>?_);refine ap (wpAny_newTuple ?_ (hsz:=by rw[bZ,J.length_eq,IU];exact kJ (Ht ∅)));refine i _ _ _ _ _ _ (bH _ l) ⟨λO q=>SF (T:=s.heap.objs.size) (df (by rw[jx];exact kT ku)) (df (by rw[jx];exact nD _)) p J q,⟨cW _ rfl,?_,?_⟩,?_,?_,?_,rfl,?_,hsz,?_⟩
  .exact bH _ (bH _ l)
  .exact bH _ (cW _ rfl)
  .exact λb o e=>bH _ (bH _ e)
  .rw[jx];exact tj _
  .intro b c;simp only[br,gc,or_false]at c;rw[jx,jx];rcases c with rfl|rfl|rfl
   .rw[jx];exact nD _
   .exact kT (kT ku)
   .exact kT (nD _)
  .intro N m;have e0:(G.filterMap λj=>(g[j]?).map (·.2))=(G.filterMap λj=>g[j]?).map (·.2):=by rw[Ja]
   have y:(G.filterMap λj=>g[j]?).Perm g.toList:=by have:=J.filterMap λj=>g[j]?;rwa[filterMap_getElem?_range]at this
   rw[e0]at m;rw[ym (by rw[bZ,y.length_eq];simp) m];exact y.map _
  .intro b c;simp only[br,gc,or_false]at c;rcases c with rfl|rfl|rfl
   .rw[jx];exact .inr (tj _)
   .exact .inl rfl
   .exact .inr (aZ _)
 .have H:¬(!eD w&&(!t.plain&&decide (g.size > 1)))=ah:=K;refine ap (aD ?_);cases c:eD w with
  |true=>
   refine i _ _ _ _ _ _ l ⟨λO q=>Pg (df ku) p c q,⟨cW _ rfl,bH _ l⟩,λb o e=>bH _ e,aZ _,?_,rfl,?_,hsz,λb c=>?_⟩
   .intro b c;simp only[br,gc,or_false]at c;rw[jx];rcases c with rfl|rfl
    .exact nD _
    .exact kT ku
   .intro N m;have y:=Ff (w.params.setOrder a M) g;rw[ym (by rw[bZ,y.length_eq];simp) m];exact y.map _
   .simp only[br,gc,or_false]at c;exact c.elim (λz=>.inr (nq z.symm)) .inl
  |false=>
   have L:g.size=1\/g.size=0:=by
    by_cases X:g.size=0
    .exact .inr X
    .rw[c,dH X]at H;simp at H;lia
   rcases L with B|B
   .refine i _ _ _ _ _ _ l ⟨λO q=>La (df ku) p c (by rw[qL,c];rfl) B q,⟨cW _ rfl,bH _ l⟩,λb o e=>bH _ e,aZ _,?_,rfl,?_,by decide,λb c=>?_⟩
    .intro b c;simp only[br,gc,or_false]at c;rw[jx];rcases c with rfl|rfl
     .exact nD _
     .exact kT ku
    .intro N m;rw[ym (by simp[B]) m]
    .simp only[br,gc,or_false]at c;exact c.elim (λz=>.inr (nq z.symm)) .inl
   .refine i _ _ _ _ _ _ l ⟨λO q=>Lx (df ku) p c B q,⟨cW _ rfl,bH _ l⟩,λb o e=>bH _ e,aZ _,?_,rfl,?_,by decide,λb c=>?_⟩
    .intro b c;simp only[br,gc,or_false]at c;rw[jx];rcases c with rfl|rfl
     .exact nD _
     .exact kT ku
    .intro N m;rw[ym (by simp[B]) m]
    .simp only[br,gc,or_false]at c;exact c.elim (λz=>.inr (nq z.symm)) .inl
theorem Kw{a:af}{m:Array (Int×ai)}{Q:List ai->ao->Prop}(J:A.handled=ae)(S:uI w s.heap a m)(h:∀(d:ao) (C:List ai),C.Perm (m.toList.map (·.2))->(∀b o,s.heap.get? b=aa o->d.heap.get? b=aa o)->d.gens=s.gens->d.os=s.os->Q C d):aq (au P w) A (collect (.ref a)) Q E s:=by
 obtain⟨K,t,H,N,_⟩:=id S;have ku:=bG H;unfold collect;refine ap (wpAny_runValue (vW F.entry_proto_collect ?_));rw[zn F.plain_proto_collect _];show aq _ A.in1 (newList [] >>= λl=>again (.builtin "list.__iadd__" ⟨[l,.ref a],[]⟩)) _ _ s;refine ap (jN ?_);refine aD ⟨CJ F.plain_list_iadd _,vW F.entry_list_iadd ?_⟩;rw[zn F.plain_list_iadd _];show aq _ A.in1 (Builtin.List.listExtendWith (.ref s.heap.objs.size) (.ref a) (.ref s.heap.objs.size)) _ _ _;unfold Builtin.List.listExtendWith;have j:∀u:ao,u.heap.get? a=aa {cls:=.type "set",dict:=ae,data:=.set m K t}->u.TypeIs (.ref a) "set":=λu e=>⟨_,e,rfl⟩
 have D:(s.heap.push {cls:=.type "list",data:=.seq ([]:List ai).toArray}).get? a=aa {cls:=.type "set",dict:=ae,data:=.set m K t}:=bH _ H;refine ap (Cr (j _ D) ?_);have X:Builtin.List.listSameRef (.ref s.heap.objs.size) (.ref a)=ak:=by have:¬(s.heap.objs.size=a):=sT ku;simp[Builtin.List.listSameRef,this]
 rw[if_neg (by rw[X];decide)];refine ap (ND (S.at λo e=>bH _ e) λr I Y n Pv St W=>?_);have v:=W.old a _ D;refine ap (ke ?_);unfold Builtin.List.listLengthHint;refine ap (vQ (j _ v) Qg ?_)
 wp_delta
 refine ap (CL (T:="set") (b:=ah) (j _ v) (by rw[isSubtype_type];kernel_rfl) ?_);show aq _ A.in1 (typeOf (Value.ref a) >>= _) _ _ _;refine ap (Cr (T:="set") (j _ v) ?_);refine aD ?_;rw[if_pos (by decide)];refine ap (oN ?_);have O:(s.heap.push {cls:=.type "list",data:=.seq ([]:List ai).toArray}).get? s.heap.objs.size=aa {cls:=.type "list",data:=.seq ([]:List ai).toArray}:=cW _ rfl;have i:=W.old _ _ O;unfold Builtin.List.listTouch;refine ap (ap (CN i rfl ?_ (by decide) (by show 1<=bg+1;decide)));have g:=get?_update_seq i (λa:Array ai=>a.push Value.none);refine CN g rfl ?_ (by show 1<=bg;decide) (by show 0<=bg+1;decide);have B:=get?_update_seq g (λa:Array ai=>a.pop);have L:s.heap.objs.size∉Y:=λz=>by
  rcases W.fps _ z with q|q
  .exact absurd ku (by rw[<-q];exact gu _)
  .rw[jx]at q;exact absurd (nD _) (Nat.not_lt.mpr q)
 have G:∀b o,b≠s.heap.objs.size->r.heap.get? b=aa o->(((r.heap.update s.heap.objs.size (kg λa=>a.push Value.none)).update s.heap.objs.size (kg λa=>a.pop))).get? b=aa o:=λb o f e=>by rw[Jb _ _ _ _ f,Jb _ _ _ _ f];exact e
 have Z:St 0 (((r.heap.update s.heap.objs.size (kg λa=>a.push Value.none)).update s.heap.objs.size (kg λa=>a.pop))):=(W.wk A.in1 J).frame 0 _ _ W.st λb f o e=>G b o (λz=>L (z ▸ f)) e;refine aD ⟨CJ F.plain_extend_loop _,codeAny_extend_loopS (W.wk A.in1 J).toS (kJ (Ht (by have:=W.len;lia))) _ L _ n 0 _ _ _ rfl (jO _) Z B (ItemsOf.nil _) λd c c' x y M=>?_⟩;show aq _ A (load s.heap.objs.size >>= _) _ _ d;refine ap (wpAny_load y ?_);refine aD (h d c.toList (W.ord c M) (λb o e=>?_) ?_ ?_)
 .have p:=bG e;refine x.heap b o (λf=>?_) (G b o (df p) (W.old b o (bH _ e)));rcases br.mp f with z|z
  .exact absurd p (by rw[z];exact gu _)
  .rw[gQ.mp z]at p;have:=W.new;rw[jx]at this;exact absurd p (Nat.not_lt.mpr (Nat.le_of_succ_le this))
 .rw[x.gens,W.rest]
 .rw[x.os,W.rest]
end
def uW(a:List Tx):List Tx:=a.foldl (λks x=>if x∈ks then ks else ks++[x]) []
theorem Gg(l c:List Tx):(c.Nodup->(l.foldl (λks x=>if x∈ks then ks else ks++[x]) c).Nodup)/\∀x,x∈l.foldl (λks x=>if x∈ks then ks else ks++[x]) c↔x∈c\/x∈l:=by
 induction l generalizing c with
 |nil=>exact⟨λh=>h,λx=>by simp⟩
 |cons y r g=>
  rw[gM];obtain⟨m,j⟩:=g (if y∈c then c else c++[y]);refine⟨λh=>m ?_,λx=>?_⟩
  .split
   .exact h
   .rename_i d;rw[v6];exact⟨h,by simp,λa i b f=>by simp at f;subst f;exact λe=>d (e ▸ i)⟩
  .rw[j x,br];split
   .rename_i d;constructor
    .rintro(h|h)
     .exact .inl h
     .exact .inr (.inr h)
    .rintro(h|rfl|h)
     .exact .inl h
     .exact .inl d
     .exact .inr h
   .rw[gv,gQ,or_assoc]
theorem R7(l:List Tx):(uW l).Nodup:=(Gg l []).1 vR
theorem FK(l:List Tx)(x:Tx):x∈uW l↔x∈l:=by rw[uW,(Gg l []).2 x];simp
structure cY(K:ay)(mg:Str->Option ai)(x:Str)(st:bn):Prop where
 ex:∃f fd,mg x=aa (.ref f)/\pG K x x st f fd
theorem GJ{H:Hp}{p:af}{o:HO}(h:H p=ae):Same H (upd H p o):=λb u q=>by rw[bf (n5 q h)];exact q
theorem yC{a:Type}{xs:List a}{k:Int}(b:0<=k)(h:k.toNat<xs.length):fV xs k=aa xs[k.toNat]:=by
 have e:((k.toNat:Nat):Int)=k:=∅
 have q:=Ql (xs:=xs) (j:=k.toNat) (v:=xs[k.toNat]) (by simp[h]);rwa[e]at q
def E_(N:List Str)(d a:eF)(x:Str)(c:List Str)(b:List Nat):Bool :=
 decide (a.kind=.function)&&a.names.all (λy=>(decide (y.2≠.cell)||decide (a.names.lookup y.1=aa .cell))&&(decide (y.2≠.local)||decide (a.names.lookup y.1=aa .local))&&(decide (y.2≠.free)||decide (d.names.lookup y.1=aa .cell)||decide (d.names.lookup y.1=aa .free)))
 && (decide (a.names.lookup x=aa .local)||decide (a.names.lookup x=aa .cell))&&decide c.Nodup&&decide (c.head?=aa x)&&decide (c.length=b.length+1)&&(b.zip c.tail).all λp=>(decide (N[p.1]?=aa p.2)&&decide (a.names.lookup p.2=aa .free))||(decide (N.length<=p.1)&&decide (a.names.lookup p.2=aa .local))
theorem iQ.of{X:Cx}{a:eF}{x:Str}{N':List Str}{cap:List Nat}(N:List Str)(f:eF)(l:X.N=N)(c:X.env.scope=f)(h:E_ N f a x N' cap=ah):iQ X a x N' cap:=by
 subst l c;simp only[E_,h_,decide_eq_true_eq,ki,CD]at h;obtain⟨⟨⟨⟨⟨⟨r,d⟩,q⟩,p⟩,o⟩,n⟩,m⟩:=h;refine⟨r,λy b e=>(d y b).1.1.elim (λz=>absurd e z) λz=>z,λy b e=>?_,q,λy b e=>?_,p,o,n,λi j y u s=>?_⟩
 .rcases(d y b).1.2 with z|z
  .exact absurd e z
  .exact z
 .rcases(d y b).2 with(z|z)|z
  .exact absurd e z
  .exact .inl z
  .exact .inr z
 .have g:(j,y)∈cap.zip N'.tail:=by
   refine List.mem_iff_getElem?.mpr ⟨i,?_⟩;rw[zt];refine⟨s,?_⟩;rw[<-List.drop_one,CO,zh];exact u
  exact m _ g
theorem R6(a b:Tx):fL (tV a) (tV b)=decide (a=b):=by show(tS a == tS b)=_;rw[jv];simp only[beq_iff_eq,decide_eq_true_eq];exact⟨uK,λh=>by rw[h]⟩
theorem Ly(a:List Tx)(x:Tx):((cN a).countP λz=>fL z (tV x))=a.count x:=by unfold cN List.count;rw[List.countP_map];refine List.countP_congr λy _=>?_;simp only[Function.comp_apply,R6,decide_eq_true_eq,beq_iff_eq]
end L2
namespace Pu
open L2
abbrev St:=L2.St
inductive PV where
 |non|bl (b:Bool)|int (i:Int)|str (x:Tx)|tup (xs:List PV)|lst (xs:List PV)|raw (v:V)|exc (c:ai)
def pJ(a:af)(c:ai):HO:=.ext λh=>∃o b,h.get? a=aa o/\o.cls=c/\o.data=.fields b/\o.dict=ae
def bv:Nat:=1000000
theorem kw:bv<=bg:=by rw[sU];decide
def eV:HO->Prop
 |.lst _=>True
 |.dK _=>True
 |.dT _=>True
 |.ins _ _ _=>True
 |.own _=>True
 |_=>False
mutual
def aL(K:ay)(H:Hp)(F:af->Prop):PV->V->Prop
 |.non,v=>v=.non
 |.bl b,v=>v=.bl b
 |.int i,v=>v=.int i
 |.str x,v=>v=tV x/\x.length<=bv
 |.tup e,v=>∃a d,v=.ref a/\H a=aa (.tup d)/\aR K H F e d
 |.lst e,v=>∃a d,v=.ref a/\Rd H a (.lst d)/\F a/\aR K H F e d
 |.raw u,v=>v=u
 |.exc c,v=>∃a,v=.ref a/\H a=aa (pJ a c)
def aR(K:ay)(H:Hp)(F:af->Prop):List PV->List V->Prop
 |[],a=>a=[]
 |x::b,a=>∃v r,a=v::r/\aL K H F x v/\aR K H F b r
end
section
variable{K:ay}{H H':Hp}{F b:af->Prop}
mutual
theorem aL.mono(i:∀a,F a->b a)(g:∀a c,F a->Rd H a (.lst c)->Rd H' a (.lst c))(f:∀a o,H a=aa o->¬eV o->H' a=aa o):∀(x:PV) (v:V),aL K H F x v->aL K H' b x v
 |.non,_,h=>h
 |.bl _,_,h=>h
 |.int _,_,h=>h
 |.str _,_,h=>h
 |.raw _,_,h=>h
 |.exc _,_,⟨a,e,h⟩=>⟨a,e,f a _ h id⟩
 |.tup c,_,⟨a,d,e,l,j⟩=>⟨a,d,e,f a _ l id,aR.mono i g f c d j⟩
 |.lst c,_,⟨a,d,e,l,m,j⟩=>⟨a,d,e,g a d m l,i a m,aR.mono i g f c d j⟩
theorem aR.mono(i:∀a,F a->b a)(g:∀a c,F a->Rd H a (.lst c)->Rd H' a (.lst c))(f:∀a o,H a=aa o->¬eV o->H' a=aa o):∀(c:List PV) (d:List V),aR K H F c d->aR K H' b c d
 |[],_,h=>h
 |x::c,_,⟨v,r,e,l,j⟩=>⟨v,r,e,aL.mono i g f x v l,aR.mono i g f c r j⟩
end
theorem aR.len:∀{a:List PV}{b:List V},aR K H F a b->b.length=a.length
 |[],_,h=>by rw[show _=[] from h];rfl
 |_::_,_,⟨_,_,e,_,c⟩=>by rw[e,d8,d8,aR.len c]
theorem aR.get:∀{c:List PV}{d:List V}{i:Nat}{x:PV},aR K H F c d->c[i]?=aa x->∃v,d[i]?=aa v/\aL K H F x v
 |[],_,_,_,_,e=>by simp at e
 |x::c,_,0,y,⟨v,r,e,h1,_⟩,q=>by simp at q;subst q;subst e;exact⟨v,rfl,h1⟩
 |x::c,_,i+1,y,⟨v,r,e,_,h2⟩,q=>by obtain⟨w,a,b⟩:=aR.get (i:=i) (x:=y) h2 (by simpa using q);subst e;exact⟨w,by simpa using a,b⟩
theorem aR.back:∀{c:List PV}{d:List V}{i:Nat}{v:V},aR K H F c d->d[i]?=aa v->∃x,c[i]?=aa x/\aL K H F x v
 |[],_,_,_,h,e=>by rw[show _=[] from h]at e;simp at e
 |x::c,_,0,y,⟨v,r,e,h1,_⟩,q=>by subst e;simp at q;subst q;exact⟨x,rfl,h1⟩
 |x::c,_,i+1,y,⟨v,r,e,_,h2⟩,q=>by subst e;obtain⟨w,a,b⟩:=aR.back (i:=i) (v:=y) h2 (by simpa using q);exact⟨w,by simpa using a,b⟩
theorem aR.app:∀{a b:List PV}{d c:List V},aR K H F a d->aR K H F b c->aR K H F (a++b) (d++c)
 |[],_,_,_,h,g=>by rw[show _=[] from h];exact g
 |x::a,_,_,_,⟨v,r,e,i,f⟩,g=>by subst e;exact⟨v,_,rfl,i,aR.app f g⟩
theorem aR.one{x:PV}{v:V}(h:aL K H F x v):aR K H F [x] [v]:=⟨v,[],rfl,h,rfl⟩
theorem aR.drop:∀(n:Nat) {a:List PV}{b:List V},aR K H F a b->aR K H F (a.drop n) (b.drop n)
 |0,_,_,h=>h
 |_+1,[],_,h=>by rw[show _=[] from h];rfl
 |n+1,_::_,_,⟨_,_,e,_,h2⟩=>by subst e;exact aR.drop n h2
theorem aR.take:∀(n:Nat) {a:List PV}{b:List V},aR K H F a b->aR K H F (a.take n) (b.take n)
 |0,_,_,_=>by rw[CP,CP];rfl
 |_+1,[],_,h=>by rw[show _=[] from h];rfl
 |n+1,_::_,_,⟨v,_,e,h1,h2⟩=>by subst e;exact⟨v,_,rfl,h1,aR.take n h2⟩
theorem aR.set{x:PV}{v:V}(c:aL K H F x v):∀(n:Nat) {a:List PV}{b:List V},aR K H F a b->aR K H F (a.set n x) (b.set n v)
 |_,[],_,h=>by rw[show _=[] from h];rfl
 |0,_::_,_,⟨_,r,e,_,h2⟩=>by subst e;exact⟨v,r,rfl,c,h2⟩
 |n+1,_::_,_,⟨w,_,e,h1,h2⟩=>by subst e;exact⟨w,_,rfl,h1,aR.set c n h2⟩
end
structure Grow(O O' F F':af->Prop)(H H':Hp):Prop where
 fro:∀a,F a->F' a
 keep:∀b o,H b=aa o->¬O b->H' b=aa o
 there:∀b o,H b=aa o->∃o',H' b=aa o'
 fnew:∀a,F' a->F a\/H a=ae\/O a
 onew:∀a,O' a->O a\/H a=ae
theorem Grow.refl(O F:af->Prop)(H:Hp):Grow O O F F H H:=⟨λ_ h=>h,λ_ _ h _=>h,λ_ o h=>⟨o,h⟩,λ_ h=>.inl h,λ_ h=>.inl h⟩
theorem Grow.trans{O f e F l j:af->Prop}{H d i:Hp}(g:Grow O f F l H d)(k:Grow f e l j d i):Grow O e F j H i where
 fro:=λa h=>k.fro a (g.fro a h)
 keep:=λb o h n=>k.keep b o (g.keep b o h n) λz=>(g.onew b z).elim n λq=>by rw[q]at h;cases h
 there:=λb o h=>let ⟨o',c⟩:=g.there b o h;k.there b o' c
 fnew:=λa h=>by
  have back:d a=ae->H a=ae\/O a:=λz=>by
   cases q:H a with
   |none=>exact .inl rfl
   |some o=>obtain⟨o',c⟩:=g.there a o q;rw[z]at c;cases c
  rcases k.fnew a h with z|z|z
  .exact g.fnew a z
  .exact .inr (back z)
  .exact .inr ((g.onew a z).symm)
 onew:=λa h=>by
  rcases k.onew a h with z|z
  .exact g.onew a z
  .cases q:H a with
   |none=>exact .inr rfl
   |some o=>obtain⟨o',c⟩:=g.there a o q;rw[z]at c;cases c
def Fit(O F:af->Prop)(H:Hp):Prop:=∀b,O b->¬F b/\∃o,H b=aa o/\eV o
section
variable{K:ay}{O c F b:af->Prop}{H H':Hp}
theorem Grow.imm(g:Grow O c F b H H')(f:Fit O F H){a:af}{o:HO}(h:H a=aa o)(n:¬eV o):H' a=aa o :=
 g.keep _ _ h λz=>by
  obtain⟨_,i,d,e⟩:=f a z;rw[h]at d;cases d;exact n e
theorem Grow.lst(g:Grow O c F b H H')(f:Fit O F H){a:af}{d:List V}(e:F a)(h:Rd H a (.lst d)):Rd H' a (.lst d):=by
 have no:¬O a:=λz=>(f a z).1 e;rcases h with h|⟨o,h⟩
 .exact .inl (g.keep _ _ h no)
 .exact .inr ⟨o,g.keep _ _ h no⟩
theorem aL.grow(g:Grow O c F b H H')(f:Fit O F H){x:PV}{v:V}(h:aL K H F x v):aL K H' b x v:=aL.mono g.fro (λ_ _ a q=>g.lst f a q) (λ_ _ q n=>g.imm f q n) x v h
theorem aR.grow(g:Grow O c F b H H')(f:Fit O F H){x:List PV}{v:List V}(h:aR K H F x v):aR K H' b x v:=aR.mono g.fro (λ_ _ a q=>g.lst f a q) (λ_ _ q n=>g.imm f q n) x v h
end
theorem _root_.L2.Same.rd{H b:Hp}{a:af}{u:HO}(e:Same H b)(h:Rd H a u):Rd b a u:=h.elim (λz=>.inl (e _ _ z)) λ⟨o,z⟩=>.inr ⟨o,e _ _ z⟩
structure Al(F F':af->Prop)(H H':Hp):Prop where
 fro:∀a,F a->F' a
 same:Same H H'
 fnew:∀a,F' a->F a\/(H a=ae/\∃o,H' a=aa o)
theorem Al.refl(F:af->Prop)(H:Hp):Al F F H H:=⟨λ_ h=>h,Same.refl H,λ_ h=>.inl h⟩
theorem Al.grow{F d O:af->Prop}{H c:Hp}(a:Al F d H c):Grow O O F d H c :=⟨a.fro,λb o h _=>a.same b o h,λb o h=>⟨o,a.same b o h⟩,λb h=>(a.fnew b h).imp id λz=>.inl z.1,λ_ h=>.inl h⟩
theorem Al.rep{K:ay}{F c:af->Prop}{H b:Hp}(a:Al F c H b){x:PV}{v:V}(h:aL K H F x v):aL K b c x v:=aL.mono a.fro (λ_ _ _ q=>a.same.rd q) (λ_ _ q _=>a.same _ _ q) x v h
theorem Al.reps{K:ay}{F c:af->Prop}{H b:Hp}(a:Al F c H b){x:List PV}{v:List V}(h:aR K H F x v):aR K b c x v:=aR.mono a.fro (λ_ _ _ q=>a.same.rd q) (λ_ _ q _=>a.same _ _ q) x v h
theorem Al.trans{F g f:af->Prop}{H e d:Hp}(a:Al F g H e)(b:Al g f e d):Al F f H d :=
 ⟨λc h=>b.fro c (a.fro c h),a.same.trans b.same,λc h=>by
  rcases b.fnew c h with z|⟨z,w⟩
  .rcases a.fnew c z with y|⟨y,o,q⟩
   .exact .inl y
   .exact .inr ⟨y,o,b.same _ _ q⟩
  .exact .inr ⟨a.same.free z,w⟩⟩
theorem Al.new{F:af->Prop}{H:Hp}{l:af}{o:HO}(h:H l=ae):Al F (λa=>F a\/a=l) H (upd H l o) :=⟨λ_ h=>.inl h,GJ h,λa z=>z.imp id λe=>by subst e;exact⟨h,o,upd_same⟩⟩
theorem Al.new0{F:af->Prop}{H:Hp}{l:af}{o:HO}(h:H l=ae):Al F F H (upd H l o):=⟨λ_ h=>h,GJ h,λa z=>.inl z⟩
inductive PO where
 |lst (xs:List PV)|dK (kvs:List (aF×PV))|lls (cD:List (List PV))|ins (C:af) (fs:List (Str×PV))|dT (kvs:List (List aF×PV))|inl (C:af) (fs:List (Str×PV)) (y:Str) (xs:List PV)
def gE:PO->Bool
 |.lls _=>ak
 |.inl ..=>ak
 |_=>ah
inductive Slot where
 |none|val (v:PV)|own (o:PO)
abbrev aj:=List Slot
def i8(K:ay)(H:Hp)(F:af->Prop)(a:List (aF×PV))(b:List (aF×V)):Prop:=fi (λ(p:aF×PV) (q:aF×V)=>p.1=q.1/\aL K H F p.2 q.2) a b
def uQ(K:ay)(H:Hp)(F:af->Prop)(fs:List (Str×PV))(a:List (Str×V)):Prop:=fi (λ(p:Str×PV) (q:Str×V)=>p.1=q.1/\aL K H F p.2 q.2) fs a
def jq(K:ay)(H:Hp)(F:af->Prop)(a:List (List aF×PV))(b:List (List aF×V)):Prop:=fi (λ(p:List aF×PV) (q:List aF×V)=>p.1=q.1/\aL K H F p.2 q.2) a b
def gH(K:ay)(H:Hp)(F:af->Prop)(d:List (List PV))(e:List af):Prop:=fi (λ(c:List PV) (b:af)=>∃a,H b=aa (.lst a)/\aR K H F c a) d e
def ff(K:ay)(H:Hp)(F:af->Prop)(j:PO)(a:af)(S:af->Prop):Prop :=
 match j with
 |.lst h=>(∃f,H a=aa (.lst f)/\aR K H F h f)/\∀b,S b↔b=a
 |.dK e=>(∃d,H a=aa (.dK d)/\i8 K H F e d)/\∀b,S b↔b=a
 |.lls l=>∃g,H a=aa (.lst (g.map .ref))/\gH K H F l g/\g.Nodup/\a∉g/\∀b,S b↔b=a\/b∈g
 |.ins C fs=>(∃i d,H a=aa (.ins C i d)/\uQ K H F fs d)/\∀b,S b↔b=a
 |.dT e=>(∃d,H a=aa (.dT d)/\jq K H F e d)/\∀b,S b↔b=a
 |.inl C fs y h=>∃i d b f,H a=aa (.ins C i (d++[(y,.ref b)]))/\uQ K H F fs d/\fs.lookup y=ae/\H b=aa (.lst f)/\aR K H F h f/\a≠b/\∀c,S c↔c=a\/c=b
structure aJ(K:ay)(F:af->Prop)(S:Nat->af->Prop)(ε:aj)(σ:St)(H:Hp):Prop where
 len:ε.length=σ.length
 ex:∀a,F a->∃o,H a=aa o
 val:∀(i:Nat) (pv:PV),ε[i]?=aa (.val pv)->∃v,σ[i]?=aa (aa v)/\aL K H F pv v
 own:∀(i:Nat) (po:PO),ε[i]?=aa (.own po)->∃a,σ[i]?=aa (aa (.ref a))/\ff K H F po a (S i)
 foot:∀(i:Nat) (b:af),S i b->(∃po,ε[i]?=aa (.own po))/\¬F b/\∃o,H b=aa o/\eV o
 dist:∀(i j:Nat) (b:af),S i b->S j b->i=j
def U(S:Nat->af->Prop)(b:af):Prop:=∃i,S i b
section
variable{K:ay}{F d:af->Prop}{S:Nat->af->Prop}{g:aj}{f:St}{H H':Hp}
theorem aJ.fit(r:aJ K F S g f H):Fit (U S) F H:=λb ⟨i,h⟩=>(r.foot i b h).2
theorem i8.mono{a:List (aF×PV)}{b:List (aF×V)}(e:∀x v,aL K H F x v->aL K H' d x v)(h:i8 K H F a b):i8 K H' d a b:=by
 unfold i8 at h ⊢
 induction h with
 |nil=>exact .nil
 |cons r _ c=>exact .cons ⟨r.1,e _ _ r.2⟩ c
theorem uQ.mono{fs:List (Str×PV)}{a:List (Str×V)}(c:∀x v,aL K H F x v->aL K H' d x v)(h:uQ K H F fs a):uQ K H' d fs a:=by
 unfold uQ at h ⊢
 induction h with
 |nil=>exact .nil
 |cons r _ b=>exact .cons ⟨r.1,c _ _ r.2⟩ b
theorem jq.mono{a:List (List aF×PV)}{b:List (List aF×V)}(e:∀x v,aL K H F x v->aL K H' d x v)(h:jq K H F a b):jq K H' d a b:=by
 unfold jq at h ⊢
 induction h with
 |nil=>exact .nil
 |cons r _ c=>exact .cons ⟨r.1,e _ _ r.2⟩ c
theorem gH.mono{e:List (List PV)}{a:List af}(j:∀x v,aR K H F x v->aR K H' d x v)(c:∀b o,b∈a->H b=aa o->H' b=aa o)(h:gH K H F e a):gH K H' d e a:=by
 unfold gH at h ⊢
 induction h with
 |nil=>exact .nil
 |cons r _ l=>obtain⟨i,p,n⟩:=r;exact .cons ⟨i,c _ _ (by simp) p,j _ _ n⟩ (l λb o m=>c b o (by simp[m]))
theorem ff.mono{po:PO}{a:af}{Sa:af->Prop}(j:∀x v,aL K H F x v->aL K H' d x v)(m:∀x v,aR K H F x v->aR K H' d x v)(c:∀b o,Sa b->H b=aa o->H' b=aa o)(h:ff K H F po a Sa):ff K H' d po a Sa:=by
 cases po with
 |lst s=>obtain⟨⟨l,e,q⟩,w⟩:=h;exact⟨⟨l,c a _ ((w a).mpr rfl) e,m _ _ q⟩,w⟩
 |dK p=>obtain⟨⟨i,e,q⟩,w⟩:=h;exact⟨⟨i,c a _ ((w a).mpr rfl) e,q.mono j⟩,w⟩
 |lls I=>obtain⟨G,e,q,B,A,w⟩:=h;exact⟨G,c a _ ((w a).mpr (.inl rfl)) e,q.mono m λb o D=>c b o ((w b).mpr (.inr D)),B,A,w⟩
 |ins C fs=>obtain⟨⟨r,i,e,q⟩,w⟩:=h;exact⟨⟨r,i,c a _ ((w a).mpr rfl) e,q.mono j⟩,w⟩
 |dT p=>obtain⟨⟨i,e,q⟩,w⟩:=h;exact⟨⟨i,c a _ ((w a).mpr rfl) e,q.mono j⟩,w⟩
 |inl C fs y s=>obtain⟨r,i,b,l,e,q,n,E,u,z,w⟩:=h;exact⟨r,i,b,l,c a _ ((w a).mpr (.inl rfl)) e,q.mono j,n,c b _ ((w b).mpr (.inr rfl)) E,m _ _ u,z,w⟩
theorem aJ.al(r:aJ K F S g f H)(a:Al F d H H'):aJ K d S g f H' where
 len:=r.len
 ex:=λb h=>(a.fnew b h).elim (λz=>let ⟨o,q⟩:=r.ex b z;⟨o,a.same _ _ q⟩) λz=>z.2
 val:=λi pv e=>let ⟨v,l,j⟩:=r.val i pv e;⟨v,l,a.rep j⟩
 own:=λi n e=>let ⟨b,l,j⟩:=r.own i n e;⟨b,l,j.mono (λ_ _ q=>a.rep q) (λ_ _ q=>a.reps q) λc o _ q=>a.same _ _ q⟩
 foot:=λi b h=>by
  obtain⟨l,j,o,m,p⟩:=r.foot i b h;refine⟨l,λz=>?_,o,a.same _ _ m,p⟩;rcases a.fnew b z with y|⟨y,_⟩
  .exact j y
  .rw[m]at y;cases y
 dist:=r.dist
end
inductive R(α:Type) where
 |ok (a:α) (ε:aj)|er (c:ai) (ε:aj)|no
def R.bind{d b:Type}(r:R d)(k:d->aj->R b):R b:=match r with
 |.ok a ε=>k a ε
 |.er c ε=>.er c ε
 |.no=>.no
def aO{b:Type}(o:Option b)(ε:aj):R b:=match o with
 |some a=>.ok a ε
 |none=>.no
@[simp] theorem R.bind_ok{b c:Type}(a:b)(ε:aj)(k:b->aj->R c):(R.ok a ε).bind k=k a ε:=rfl
@[simp] theorem R.bind_er{b d:Type}(c:ai)(a:aj)(k:b->aj->R d):(R.er c a:R b).bind k=.er c a:=rfl
@[simp] theorem R.bind_no{a b:Type}(k:a->aj->R b):(R.no:R a).bind k=.no:=rfl
@[simp] theorem bY{c:Type}(a:c)(b:aj):aO (aa a) b=.ok a b:=rfl
@[simp] theorem TF{b:Type}(a:aj):aO (ae:Option b) a=.no:=rfl
def Ok(K:ay)(E:XK)(g:St)(F:af->Prop)(S:Nat->af->Prop)(H:Hp){h:Type}(r:R h)(C:h->aj->(af->Prop)->(Nat->af->Prop)->Hp->Prop):Prop:=match r with
 |.ok a b=>∀f e d,aJ K f e b g d->Grow (U S) (U e) F f H d->C a b f e d
 |.er c b=>∀x f e d,aJ K f e b g d->Grow (U S) (U e) F f H d->E c x d
 |.no=>False
section
variable{K:ay}{E:XK}{b:St}{F:af->Prop}{S:Nat->af->Prop}{H:Hp}{d e:Type}{C C':d->aj->(af->Prop)->(Nat->af->Prop)->Hp->Prop}{D:e->aj->(af->Prop)->(Nat->af->Prop)->Hp->Prop}
theorem Ok.imp{r:R d}(h:Ok K E b F S H r C)(f:∀a i m j l,aJ K m j i b l->Grow (U S) (U j) F m H l->C a i m j l->C' a i m j l):Ok K E b F S H r C':=by
 cases r with
 |ok a i=>exact λm j l r g=>f a i m j l r g (h m j l r g)
 |er c i=>exact h
 |no=>exact h
theorem Ok.from{r:R e}{p:af->Prop}{n:Nat->af->Prop}{o:Hp}(h:Ok K E b F S H r D)(g:Grow (U S) (U n) F p H o):Ok K E b p n o r D:=by
 cases r with
 |ok a f=>exact λm j l i g'=>h m j l i (g.trans g')
 |er c f=>exact λx m j l i g'=>h x m j l i (g.trans g')
 |no=>exact h
theorem Ok.bind{r:R d}{k:d->aj->R e}(h:Ok K E b F S H (r.bind k) D):Ok K E b F S H r (λa ε1 l i j=>Ok K E b l i j (k a ε1) D):=by
 cases r with
 |ok a f=>exact λo m n r g=>Ok.from h g
 |er c f=>exact h
 |no=>exact h
end
structure Bx(p:Prop):Prop where
 run:p
def gh(X:Cx)(e:aA):TE:=λa H Q=>Bx (∀b s,Inv X b a H s->aq (au X.prog X.w) X.A (bh e X.env) (EP X b a Q) X.xe s)
def zZ(X:Cx)(e:aA):TT:=λa H Q=>Bx (∀b s,Inv X b a H s->aq (au X.prog X.w) X.A (m_ e X.env (bh e X.env)) (TP X b a Q) X.xe s)
def wpS(X:Cx)(c:bn):TS:=λD b H=>Bx (∀a s,Inv X a b H s->aq (au X.prog X.w) X.A (exec c X.env) (SP X a D) X.xe s)
def pP(X:Cx)(c:List bn):TS:=λD b H=>Bx (∀a s,Inv X a b H s->aq (au X.prog X.w) X.A (execs c X.env) (SP X a D) X.xe s)
section
variable{X:Cx}{e:aA}{b:bn}{a:List bn}
theorem bF:PE X e (gh X e):=λc s _ _ _ I h=>h.run c s I
theorem mP:PT X e (zZ X e):=λc s _ _ _ I h=>h.run c s I
theorem Fb:PS X b (wpS X b):=λc s _ _ _ I h=>h.run c s I
theorem qb:kG X a (pP X a):=λc s _ _ _ I h=>h.run c s I
theorem cn{t:TE}(h:PE X e t){c:St}{H:Hp}{Q:VK}(q:t c H Q):gh X e c H Q:=⟨λd s I=>h d s c H Q I q⟩
theorem vE{t:TT}(h:PT X e t){c:St}{H:Hp}{Q:Bool->Hp->Prop}(q:t c H Q):zZ X e c H Q:=⟨λd s I=>h d s c H Q I q⟩
theorem fM{t:TS}(h:PS X b t){c:St}{H:Hp}{D:j5}(q:t D c H):wpS X b D c H:=⟨λd s I=>h d s c H D I q⟩
theorem BB{t:TS}(h:kG X a t){c:St}{H:Hp}{D:j5}(q:t D c H):pP X a D c H:=⟨λd s I=>h d s c H D I q⟩
end
def DE(X:Cx)(E:XK)(e:aA)(d:aj->R PV):Prop :=
 ∀F S b a H Q,aJ X.K F S b a H->Ok X.K E a F S H (d b) (λpv _ f _ c=>∀v,aL X.K c f pv v->Q v c)->gh X e a H Q
def DN(X:Cx)(E:XK)(e:aA)(d:aj->R PO):Prop :=
 ∀F S g c H Q,aJ X.K F S g c H->Ok X.K E c F S H (d g) (λj _ i l f=>∀a h,ff X.K f i j a h->(∀b,h b->H b=ae/\¬i b/\¬U l b/\∃o,f b=aa o/\eV o)->Q (.ref a) f)->gh X e c H Q
def DT(X:Cx)(E:XK)(e:aA)(d:aj->R Bool):Prop :=
 ∀F S c a H Q,aJ X.K F S c a H->Ok X.K E a F S H (d c) (λb _ _ _ f=>Q b f)->zZ X e a H Q
end Pu
namespace Pu
open L2
section
variable{X:Cx}{E:XK}{a b c:aA}{m db A:aj->R PV}{pos:Pos}
def dC(pv:PV):aj->R PV:=λε=>.ok pv ε
theorem bj{i j pos}:DE X E (.Constant (.int i) j pos) (dC (.int i)):=λF S e d H Q r h=>cn RS (h F S H r (Grow.refl ..) _ rfl)
theorem l6{i j pos}:DE X E (.Constant (.bool i) j pos) (dC (.bl i)):=λF S e d H Q r h=>cn O3 (h F S H r (Grow.refl ..) _ rfl)
theorem D3{j pos}:DE X E (.Constant .none j pos) (dC .non):=λF S e d H Q r h=>cn Pj (h F S H r (Grow.refl ..) _ rfl)
theorem iW(l:Tx){x:Str}{j pos}(d:x=tS l:=by decide +kernel)(e:l.length<=bv:=by decide):DE X E (.Constant (.str x) j pos) (dC (.str l)):=λF S g f H Q r h=>cn N1 (h F S H r (Grow.refl ..) _ (by rw[d];exact⟨rfl,e⟩))
def dV(i:Nat):aj->R PV:=λε=>match ε[i]? with
 |some (.val pv)=>.ok pv ε
 |_=>.no
theorem ar(i:Nat){x:Str}{pos:Pos}(g:X.N[i]?=aa x:=by rfl)(d:eC X.env.scope x:=by first|exact Or.inl rfl|exact Or.inr (Or.inl rfl)|exact Or.inr (Or.inr rfl))(f:(x==("__debug__":Str))=ak:=by decide)(n:(x==("__classdict__":Str))=ak:=by decide):DE X E (.Name x pos) (dV i):=λF S q o H Q r h=>by
 unfold dV at h;split at h
 .rename_i p e;obtain⟨v,l,j⟩:=r.val i p e;exact cn (fA g d f n) ⟨v,l,h F S H r (Grow.refl ..) v j⟩
 .exact h.elim
theorem BQ{x:Str}{i:Int}{pos:Pos}(h:∃t,X.mg x=aa (.int i t))(d:Gl X x:=by rfl)(f:(x==("__debug__":Str))=ak:=by decide):DE X E (.Name x pos) (dC (.int i)):=λF S j g H Q r q=>by obtain⟨t,e⟩:=h;exact cn (GE (v:=.int i) d e ⟨t,rfl⟩ f) (q F S H r (Grow.refl ..) _ rfl)
theorem sI{x:Str}{l:Tx}{pos:Pos}(h:∃t,X.mg x=aa (.str (tS l) t))(f:Gl X x:=by rfl)(d:l.length<=bv:=by decide)(g:(x==("__debug__":Str))=ak:=by decide):DE X E (.Name x pos) (dC (.str l)):=λF S j i H Q r q=>by obtain⟨t,e⟩:=h;exact cn (GE (v:=tV l) f e ⟨t,rfl⟩ g) (q F S H r (Grow.refl ..) _ ⟨rfl,d⟩)
def aJ.frz{K:ay}{F:af->Prop}{S:Nat->af->Prop}{p:aj}{u:St}{H:Hp}{i:Nat}{s:List PV}(r:aJ K F S p u H)(e:p[i]?=aa (.own (.lst s))):∃a y J,aJ K y J (p.set i (.val (.lst s))) u H/\Grow (U S) (U J) F y H H/\u[i]?=aa (aa (.ref a))/\aL K H y (.lst s) (.ref a):=by
 obtain⟨a,I,⟨L,D,M⟩,G⟩:=r.own i _ e;have C:i<p.length:=(cA.mp e).1;have g:∀b,F b->F b\/b=a:=λb h=>.inl h;have mono:∀x v,aL K H F x v->aL K H (λb=>F b\/b=a) x v:=aL.mono g (λ_ _ _ q=>q) (λ_ _ q _=>q);have d:∀x v,aR K H F x v->aR K H (λb=>F b\/b=a) x v:=aR.mono g (λ_ _ _ q=>q) (λ_ _ q _=>q);have B:aL K H (λb=>F b\/b=a) (.lst s) (.ref a):=⟨a,L,rfl,.inl D,.inr rfl,d _ _ M⟩
 refine⟨a,λb=>F b\/b=a,λj b=>S j b/\j≠i,⟨by rw[gb];exact r.len,λb h=>?_,λj pv q=>?_,λj po q=>?_,λj b h=>?_,λj k b O N=>r.dist j k b O.1 N.1⟩,?_,I,B⟩
 .rcases h with h|rfl
  .exact r.ex b h
  .exact⟨_,D⟩
 .by_cases f:i=j
  .subst f;rw[dY C]at q;cases q;exact⟨_,I,B⟩
  .rw[cS f]at q;obtain⟨v,n,l⟩:=r.val j pv q;exact⟨v,n,mono _ _ l⟩
 .by_cases f:i=j
  .subst f;rw[dY C]at q;cases q
  .rw[cS f]at q;obtain⟨v,n,l⟩:=r.own j po q;refine⟨v,n,?_⟩;have w:=l.mono (H':=H) mono d λ_ _ _ z=>z;have P:(λb=>S j b/\j≠i)=S j:=by funext b;simp[dz f]
   rw[P];exact w
 .obtain⟨⟨po,n⟩,l,w⟩:=r.foot j b h.1;refine⟨⟨po,by rw[cS (dz h.2)];exact n⟩,λz=>?_,w⟩;rcases z with z|rfl
  .exact l z
  .exact h.2 (r.dist j i b h.1 ((G b).mpr rfl))
 .refine⟨λ_ h=>.inl h,λb o h _=>h,λb o h=>⟨o,h⟩,λb h=>?_,λb ⟨j,h⟩=>.inl ⟨j,h.1⟩⟩;rcases h with h|rfl
  .exact .inl h
  .exact .inr (.inr ⟨i,(G b).mpr rfl⟩)
def dM(i:Nat):aj->R PV:=λε=>match ε[i]? with
 |some (.own (.lst d))=>.ok (.lst d) (ε.set i (.val (.lst d)))
 |_=>.no
theorem H_(i:Nat){x:Str}{pos:Pos}(l:X.N[i]?=aa x:=by rfl)(f:eC X.env.scope x:=by first|exact Or.inl rfl|exact Or.inr (Or.inl rfl)|exact Or.inr (Or.inr rfl))(j:(x==("__debug__":Str))=ak:=by decide)(q:(x==("__classdict__":Str))=ak:=by decide):DE X E (.Name x pos) (dM i):=λF S w v H Q r h=>by
 unfold dM at h;split at h
 .rename_i p e;obtain⟨a,u,s,d,g,o,n⟩:=r.frz e;exact cn (fA l f j q) ⟨_,o,h u s H d g _ n⟩
 .exact h.elim
def P2(K:ay)(r:R2)(f:PV->PV->Option PV):Prop:=∀(F:af->Prop) (H:Hp) (x y:PV) (v u:V) (Q:VK) (pv:PV),aL K H F x v->aL K H F y u->f x y=aa pv->(∀w e d,Al F e H d->aL K d e pv w->Q w d)->r v u H Q
def d2(f:PV->PV->Option PV)(m db:aj->R PV):aj->R PV:=λε=>(m ε).bind λx ε1=>(db ε1).bind λy d=>aO (f x y) d
theorem yS{r:R2}{f:PV->PV->Option PV}(I:P2 X.K r f)(K:DE X E a m)(J:DE X E b db){F:af->Prop}{S:Nat->af->Prop}{l:aj}{d:St}{H:Hp}{Q:VK}(D:aJ X.K F S l d H)(h:Ok X.K E d F S H (d2 f m db l) (λpv _ q _ i=>∀v,aL X.K i q pv v->Q v i)):gh X a d H λx p=>gh X b d p λy o=>r x y o Q:=by
 refine K F S l d H _ D ((Ok.bind h).imp λx j T O p s W L v B=>?_);refine J T O j d p _ s ((Ok.bind L).imp λy z P N o G M g u C=>?_);cases e:f x y with
 |none=>rw[e]at g;exact g.elim
 |some pv=>rw[e]at g;exact I P o x y v u Q pv (B.grow M s.fit) C e λw q i al n=>g q N i (G.al al) al.grow w n
theorem cT{d:Operator}{r:R2}{f:PV->PV->Option PV}(i:b8 X (i_ d) r)(g:P2 X.K r f)(l:DE X E a m)(j:DE X E b db):DE X E (.BinOp a d b pos) (d2 f m db):=λF S o n H Q e h=>cn (JP i bF bF) (yS g l j e h)
theorem qe{d:CmpOp}{r:R2}{f:PV->PV->Option PV}(i:b8 X (dZ d) r)(g:P2 X.K r f)(n:DE X E a m)(l:DE X E b db)(j:ql d b=ak):DE X E (.Compare a [d] [b] pos) (d2 f m db):=λF S p o H Q e h=>cn (Qr i bF bF j) (yS g n l e h)
def nW:PV->Option Bool
 |.bl b=>aa b
 |_=>ae
def dB(d:aj->R PV):aj->R Bool:=λε=>(d ε).bind λx ε1=>aO (nW x) ε1
theorem HA{K:ay}{H:Hp}{F:af->Prop}{x:PV}{v:V}{k:Bool}(h:aL K H F x v)(e:nW x=aa k):v=.bl k:=by
 cases x <;> simp[nW]at e;subst e;exact h
theorem um{F:af->Prop}{S:Nat->af->Prop}{j:aj}{i:St}{H:Hp}{Q:Bool->Hp->Prop}{d:aj->R PV}(h:Ok X.K E i F S H (dB d j) (λk _ _ _ g=>Q k g)):Ok X.K E i F S H (d j) (λpv _ s _ g=>∀v,aL X.K g s pv v->∃k,v=.bl k/\Q k g):=by
 refine(Ok.bind h).imp λx l r p q o u f v n=>?_;cases e:nW x with
 |none=>rw[e]at f;exact f.elim
 |some k=>rw[e]at f;exact⟨k,HA n e,f r p q o (Grow.refl ..)⟩
theorem gC{d:CmpOp}{r:R2}{f:PV->PV->Option PV}(i:b8 X (dZ d) r)(g:P2 X.K r f)(n:DE X E a m)(l:DE X E b db)(j:ql d b=ak):DT X E (.Compare a [d] [b] pos) (dB (d2 f m db)):=λF S q p H Q e h=>vE (MP i bF bF j) (yS (Q:=λx o=>∃k,x=.bl k/\Q k o) g n l e (um h))
theorem oD{e:aA}{d:aj->R PV}(n:DE X E e d)(l:∀f,m_ e X.env f=(do let v <-f;standAt e.pos;kc [v] (truthy v)):=by intro _;rfl):DT X E e (dB d):=λF S i g H Q j h=>vE (QB bF l) (n F S i g H _ j (um h))
def pO(f g:PV->PV->Option PV)(m db A:aj->R PV):aj->R PV:=λi=>(m i).bind λx h=>(db h).bind λy d=>(aO ((f x y).bind nW) d).bind λk d=>
 match k with
 |true=>(A d).bind λz e=>aO (g y z) e
 |false=>.ok (.bl ak) d
theorem Hn{r O:R2}{f g:PV->PV->Option PV}(hp:P2 X.K r f)(dR:P2 X.K O g)(ha:DE X E a m)(hb:DE X E b db)(hc:DE X E c A){F:af->Prop}{S:Nat->af->Prop}{B:aj}{j:St}{H:Hp}{Q:VK}(rl:aJ X.K F S B j H)(h:Ok X.K E j F S H (pO f g m db A B) (λpv _ l _ i=>∀v,aL X.K i l pv v->Q v i)):Am r O (gh X a) (gh X b) (gh X c) j H Q:=by
 refine ha F S B j H _ rl ((Ok.bind h).imp λx s F1 S1 H1 N g1 h1 v rv=>?_);refine hb F1 S1 s j H1 _ N ((Ok.bind h1).imp λy n T L P r2 g2 d u M=>?_);cases e:f x y with
 |none=>rw[e]at d;exact d.elim
 |some pv=>
  rw[e]at d;refine hp T P x y v u _ pv (rv.grow g2 N.fit) M e λw l i al D=>?_;cases K:nW pv with
  |none=>rw[gR,K]at d;exact d.elim
  |some k=>
   rw[gR,K]at d;refine⟨k,HA D K,?_⟩;have I:=r2.al al;cases k with
   |false=>exact mK (Ok.from d al.grow l L i I (Grow.refl ..) _ rfl)
   |true=>
    have h3:Ok X.K E j T L P ((A n).bind λz q=>aO (g y z) q) (λpv _ l _ i=>∀v,aL X.K i l pv v->Q v i):=d;refine mT (hc l L n j i _ I ((Ok.bind (Ok.from h3 al.grow)).imp λz W F4 S4 H4 r4 g4 p Z G=>?_));cases J:g y z with
    |none=>rw[J]at p;exact p.elim
    |some pz=>rw[J]at p;exact dR F4 H4 y z u Z Q pz ((al.rep M).grow g4 I.fit) G J λY F5 H5 o C=>p F5 S4 H5 (r4.al o) o.grow Y C
theorem RZ{e d:CmpOp}{r i:R2}{f g:PV->PV->Option PV}(n:b8 X (dZ e) r)(u:b8 X (dZ d) i)(l:P2 X.K r f)(v:P2 X.K i g)(s:DE X E a m)(q:DE X E b db)(p:DE X E c A)(o:lastMarks [e,d] [b,c]=ak:=by with_unfolding_all rfl):DE X E (.Compare a [e,d] [b,c] pos) (pO f g m db A):=λF S x w H Q j h=>cn (Pd n u bF bF bF o) (Hn l v s q p j h)
theorem Ln{e d:CmpOp}{r i:R2}{f g:PV->PV->Option PV}(n:b8 X (dZ e) r)(u:b8 X (dZ d) i)(l:P2 X.K r f)(v:P2 X.K i g)(s:DE X E a m)(q:DE X E b db)(p:DE X E c A)(o:lastMarks [e,d] [b,c]=ak:=by with_unfolding_all rfl):DT X E (.Compare a [e,d] [b,c] pos) (dB (pO f g m db A)):=λF S z y H Q j h=>vE (PP n u bF bF bF o) (Hn (Q:=λx w=>∃k,x=.bl k/\Q k w) l v s q p j (um h))
variable{n B:aj->R Bool}{rest:List aA}
def DW(X:Cx)(E:XK)(e:aA)(d:aj->R Bool):Prop:=∀F S g f H Q,aJ X.K F S g f H->Ok X.K E f F S H (d g) (λb _ _ _ i=>Q b i)->∀(h:Sem ai) ag s,Inv X ag f H s->aq (au X.prog X.w) X.A (m_ e X.env h) (TP X ag f Q) X.xe s
def L1(X:Cx)(e:aA):TT:=λd H Q=>∀(f:Sem ai) ag s,Inv X ag d H s->aq (au X.prog X.w) X.A (m_ e X.env f) (TP X ag d Q) X.xe s
theorem Hq{e:aA}:PW X e (L1 X e):=λd f s _ _ _ I h=>h d f s I
theorem DW.dt{e:aA}{d:aj->R Bool}(h:DW X E e d):DT X E e d:=λF S ε f H Q g q=>⟨λi s I=>h F S ε f H Q g q _ i s I⟩
def pi(n B:aj->R Bool):aj->R Bool:=λε=>(n ε).bind λk d=>match k with
 |true=>B d
 |false=>.ok ak d
def lV(n B:aj->R Bool):aj->R Bool:=λε=>(n ε).bind λk d=>match k with
 |true=>.ok ah d
 |false=>B d
def jW(n:aj->R Bool):aj->R Bool:=λε=>(n ε).bind λk d=>.ok (!k) d
theorem Kj(h:DT X E a n):DW X E (.BoolOp .And [a] pos) n:=λF S e d H Q f q g i s I=>O0 mP g i s d H Q I (h F S e d H Q f q)
theorem xy(h:DT X E a n):DW X E (.BoolOp .Or [a] pos) n:=λF S e d H Q f q g i s I=>NE mP g i s d H Q I (h F S e d H Q f q)
theorem Nd(r:DT X E a n)(p:DW X E (.BoolOp .And (b::rest) pos) B):DW X E (.BoolOp .And (a::b::rest) pos) (pi n B):=λF S l d H Q o q u v s I=>by
 refine Nv mP Hq u v s d H Q I (r F S l d H _ o ((Ok.bind q).imp λk e j h i f w g=>?_));cases k with
 |true=>exact mT (p j h e d i Q f g)
 |false=>exact mK (g j h i f (Grow.refl ..))
theorem xD(r:DT X E a n)(p:DW X E (.BoolOp .Or (b::rest) pos) B):DW X E (.BoolOp .Or (a::b::rest) pos) (lV n B):=λF S l d H Q o q u v s I=>by
 refine Pb mP Hq u v s d H Q I (r F S l d H _ o ((Ok.bind q).imp λk e j h i f w g=>?_));cases k with
 |true=>exact mT (g j h i f (Grow.refl ..))
 |false=>exact mK (p j h e d i Q f g)
theorem n0(i:DT X E a n):DT X E (.UnaryOp .Not a pos) (jW n):=λF S f d H Q g q=>vE (LI mP) (i F S f d H _ g ((Ok.bind q).imp λk e p l o h r j=>j p l o h (Grow.refl ..)))
def mF(m db:aj->R PV):aj->R PV:=λe=>(dB m e).bind λk d=>match k with
 |true=>db d
 |false=>.ok (.bl ak) d
def Gy(m db:aj->R PV):aj->R PV:=λe=>(dB m e).bind λk d=>match k with
 |true=>.ok (.bl ah) d
 |false=>db d
def yR(m:aj->R PV):aj->R PV:=λe=>(dB m e).bind λk d=>.ok (.bl (!k)) d
theorem Ho{d:aj->R PV}{p:Type}{D:p->aj->(af->Prop)->(Nat->af->Prop)->Hp->Prop}{k:Bool->aj->R p}{F:af->Prop}{S:Nat->af->Prop}{o:aj}{l:St}{H:Hp}{P:Bool->Hp->Prop}(h:Ok X.K E l F S H ((dB d o).bind k) D) (f:∀c e j i g,aJ X.K j i e l g->Grow (U S) (U i) F j H g->Ok X.K E l j i g (k c e) D->P c g):Ok X.K E l F S H (d o) (λpv _ x _ q=>∀v,aL X.K q x pv v->∃c,v=.bl c/\P c q):=by have s:=(Ok.bind h).imp (C':=λc e j i g=>P c g) λc e j i g r w u=>f c e j i g r w u;exact um s
theorem ue{op}{d:aj->R PV}(h:DE X E a d):DE X E (.BoolOp op [a] pos) d:=λF S f e H Q g q=>cn (MD bF) (h F S f e H Q g q)
theorem sv(r:DE X E a m)(p:DE X E (.BoolOp .And (b::rest) pos) db):DE X E (.BoolOp .And (a::b::rest) pos) (mF m db):=λF S l e H Q o q=>by
 refine cn (J4 bF bF) (r F S l e H _ o (Ho q λk d j h i f s g=>?_));cases k with
 |true=>exact mT (p j h d e i Q f g)
 |false=>exact mK (g j h i f (Grow.refl ..) _ rfl)
theorem Qx(i:DE X E a m):DE X E (.UnaryOp .Not a pos) (yR m):=λF S f d H Q g q=>cn (QQ bF) (i F S f d H _ g (Ho q λk e p l o h r j=>j p l o h (Grow.refl ..) _ rfl))
def cL{d:Type}(t:aj->R Bool)(m db:aj->R d):aj->R d:=λε=>(t ε).bind λk ε1=>match k with
 |true=>m ε1
 |false=>db ε1
theorem yo(p:DT X E c n)(s:DE X E a m)(r:DE X E b db):DE X E (.IfExp c a b pos) (cL n m db):=λF S l e H Q o q=>by
 refine cn (Ny mP bF bF) (p F S l e H _ o ((Ok.bind q).imp λk d j h i f u g=>?_));cases k with
 |true=>exact mT (s j h d e i Q f g)
 |false=>exact mK (r j h d e i Q f g)
def P1(K:ay)(r:V->Hp->VK->Prop)(f:PV->Option PV):Prop:=∀(F:af->Prop) (H:Hp) (x:PV) (v:V) (Q:VK) (pv:PV),aL K H F x v->f x=aa pv->(∀w e d,Al F e H d->aL K d e pv w->Q w d)->r v H Q
def d1(f:PV->Option PV)(m:aj->R PV):aj->R PV:=λε=>(m ε).bind λx ε1=>aO (f x) ε1
theorem Pp{r:V->Hp->VK->Prop}{f:PV->Option PV}(z:P1 X.K r f)(C:DE X E a m){F:af->Prop}{S:Nat->af->Prop}{j:aj}{d:St}{H:Hp}{Q:VK}(u:aJ X.K F S j d H)(h:Ok X.K E d F S H (d1 f m j) (λpv _ p _ i=>∀v,aL X.K i p pv v->Q v i)):gh X a d H λx o=>r x o Q:=by
 refine C F S j d H _ u ((Ok.bind h).imp λx q G D o y I g v s=>?_);cases e:f x with
 |none=>rw[e]at g;exact g.elim
 |some pv=>rw[e]at g;exact z G o x v Q pv s e λw p i al l=>g p D i (y.al al) al.grow w l
theorem rX{d:UnaryOp}{r:V->Hp->VK->Prop}{f:PV->Option PV}(i:y9 X (unaryOp d) r)(g:P1 X.K r f)(j:DE X E a m):DE X E (.UnaryOp d a pos) (d1 f m):=λF S o l H Q e h=>cn (QJ i bF) (Pp g j e h)
end
def rg(X:Cx)(d:List aA):TA:=λb H Q=>Bx (∀a c s,Inv X c b H s->aq (au X.prog X.w) X.A (spliced (ef a (a9 d X.env))) (AP X c b Q) X.xe s)
def DA(X:Cx)(E:XK)(g:List aA)(d:aj->R (List PV)):Prop :=
 ∀F S c a H Q,aJ X.K F S c a H->Ok X.K E a F S H (d c) (λb _ h _ f=>∀e,aR X.K f h b e->Q e f)->rg X g a H Q
section
variable{X:Cx}{E:XK}{a b c e:aA}{es:List aA}{B db D d:aj->R PV}{j:aj->R (List PV)}{pos:Pos}
theorem jK{es:List aA}:PA X es (rg X es):=λpos f s _ _ _ I h=>h.run pos f s I
theorem uG{t:TA}(h:PA X es t){f:St}{H:Hp}{Q:List V->Hp->Prop}(q:t f H Q):rg X es f H Q:=⟨λpos g s I=>h pos g s f H Q I q⟩
def aE:aj->R (List PV):=λε=>.ok [] ε
def aC(d:aj->R PV)(j:aj->R (List PV)):aj->R (List PV):=λε=>(d ε).bind λx ε1=>(j ε1).bind λg f=>.ok (x::g) f
theorem be:DA X E [] aE:=λF S i g H Q f h=>uG kA (h F S H f (Grow.refl ..) _ rfl)
theorem NZ(w:DE X E e d)(u:DA X E es j)(s:a9 (e::es) X.env=(ak,bh e X.env)::a9 es X.env:=by rfl):DA X E (e::es) (aC d j):=λF S m g H Q p h=>by refine uG (j7 bF jK s) (w F S m g H _ p ((Ok.bind h).imp λx f L G J i N z v o=>?_));refine u L G f g J _ i ((Ok.bind z).imp λM l K C I q A y n r=>?_);exact y K C I q (Grow.refl ..) _ ⟨v,n,rfl,o.grow A i.fit,r⟩
theorem aJ.more{K:ay}{F N:af->Prop}{S:Nat->af->Prop}{n:aj}{m:St}{H:Hp}(r:aJ K F S n m H)(p:∀b,N b->¬U S b/\∃o,H b=aa o):aJ K (λb=>F b\/N b) S n m H:=by
 have mono:∀x v,aL K H F x v->aL K H (λb=>F b\/N b) x v:=aL.mono (λ_ h=>.inl h) (λ_ _ _ q=>q) (λ_ _ q _=>q);have f:∀x v,aR K H F x v->aR K H (λb=>F b\/N b) x v:=aR.mono (λ_ h=>.inl h) (λ_ _ _ q=>q) (λ_ _ q _=>q);refine⟨r.len,λb h=>h.elim (r.ex b) λz=>(p b z).2,λi pv e=>?_,λi s e=>?_,λi b h=>?_,r.dist⟩
 .obtain⟨v,l,g⟩:=r.val i pv e;exact⟨v,l,mono _ _ g⟩
 .obtain⟨v,l,g⟩:=r.own i s e;exact⟨v,l,g.mono mono f λ_ _ _ z=>z⟩
 .obtain⟨l,g,u⟩:=r.foot i b h;exact⟨l,λz=>z.elim g λw=>(p b w).1 ⟨i,h⟩,u⟩
def Ak:PO->Option PV
 |.lst f=>aa (.lst f)
 |_=>ae
def dF(d:aj->R PO):aj->R PV:=λε=>(d ε).bind λf ε1=>aO (Ak f) ε1
theorem DN.de{d:aj->R PO}(h:DN X E e d):DE X E e (dF d):=λF S ε r H Q x q=>by
 unfold dF at q;refine h F S ε r H Q x ?_;cases i:d ε with
 |no=>rw[i]at q;exact q.elim
 |er c s=>rw[i]at q;exact q
 |ok G ε1=>
  rw[i]at q;intro O l m A f a p I n;cases G with
  |dK g=>exact q.elim
  |lls P=>exact q.elim
  |ins C fs=>exact q.elim
  |dT g=>exact q.elim
  |inl C fs y u=>exact q.elim
  |lst u=>
   have M:∀b,p b->¬U l b/\∃o,m b=aa o:=λb z=>let ⟨_,_,x3,o,x4,_⟩:=n b z;⟨x3,o,x4⟩
   obtain⟨⟨v,K,J⟩,L⟩:=I;have N:Grow (U S) (U l) F (λb=>O b\/p b) H m:=⟨λb z=>.inl (f.fro b z),f.keep,f.there,λb z=>z.elim (f.fnew b) λw=>.inr (.inl (n b w).1),f.onew⟩
   exact q _ l m (A.more M) N _ ⟨a,v,rfl,.inl K,.inr ((L a).mpr rfl),aR.mono (λ_ z=>.inl z) (λ_ _ _ z=>z) (λ_ _ z _=>z) _ _ J⟩
def eW(f:List PV):Option PV:=if f.length<=1000 then aa (.tup f)else ae
def cQ(f:List PV):Option PO:=if f.length<=1000 then aa (.lst f)else ae
def dL{g:Type}(f:List PV->Option g)(j:aj->R (List PV)):aj->R g:=λε=>(j ε).bind λh ε1=>aO (f h) ε1
def PL(K:ay)(r:List V->Hp->VK->Prop)(f:List PV->Option PV):Prop:=∀(F:af->Prop) (H:Hp) (h:List PV) (i:List V) (Q:VK) (pv:PV),aR K H F h i->f h=aa pv->(∀w l g,Al F l H g->aL K g l pv w->Q w g)->r i H Q
def lZ(K:ay)(r:List V->Hp->VK->Prop)(f:List PV->Option PO):Prop:=∀(F:af->Prop) (H:Hp) (i:List PV) (l:List V) (Q:VK) (m:PO),(∀a,F a->∃o,H a=aa o)->aR K H F i l->f i=aa m ->
 (∀a h g n,Al F h H g->ff K g h m a n->(∀b,n b->H b=ae/\¬h b/\∃o,g b=aa o/\eV o)->Q (.ref a) g)->r l H Q
theorem Bo{r:List V->Hp->VK->Prop}{f:List PV->Option PV}(A:PL X.K r f)(C:DA X E es j){F:af->Prop}{S:Nat->af->Prop}{n:aj}{g:St}{H:Hp}{Q:VK}(x:aJ X.K F S n g H)(h:Ok X.K E g F S H (dL f j n) (λpv _ q _ m=>∀v,aL X.K m q pv v->Q v m)):rg X es g H λi p=>r i p Q:=by
 refine C F S n g H _ x ((Ok.bind h).imp λi s I G p y J l u z=>?_);cases e:f i with
 |none=>rw[e]at l;exact l.elim
 |some pv=>rw[e]at l;exact A I p i u Q pv z e λw q m al o=>l q G m (y.al al) al.grow w o
theorem pA{O i F l:af->Prop}{H f:Hp}(g:Grow O i F l H f){b:af}(h:f b=ae):H b=ae:=by
 cases q:H b with
 |none=>rfl
 |some o=>obtain⟨o',e⟩:=g.there b o q;rw[h]at e;cases e
theorem yd{r:List V->Hp->VK->Prop}{f:List PV->Option PO}(O:lZ X.K r f)(P:DA X E es j){F:af->Prop}{S:Nat->af->Prop}{s:aj}{l:St}{H:Hp}{Q:VK}(L:aJ X.K F S s l H)(h:Ok X.K E l F S H (dL f j s) (λv _ q Z g=>∀a p,ff X.K g q v a p->(∀b,p b->H b=ae/\¬q b/\¬U Z b/\∃o,g b=aa o/\eV o)->Q (.ref a) g)):rg X es l H λm x=>r m x Q:=by
 refine P F S s l H _ L ((Ok.bind h).imp λm C F1 Y x u T n K N=>?_);cases e:f m with
 |none=>rw[e]at n;exact n.elim
 |some v=>
  rw[e]at n;refine O F1 x m K Q v u.ex N e λa q g p al M W=>n q Y g (u.al al) al.grow a p M λb z=>?_;obtain⟨y,J,o,I,G⟩:=W b z;refine⟨pA T y,J,λ⟨i,w⟩=>?_,o,I,G⟩;obtain⟨_,_,o',A,_⟩:=u.foot i b w;rw[y]at A;cases A
theorem AJ{n:Nat}(h:n<=1000):n<=bg:=kJ (GT h)
theorem MZ{K:ay}:PL K (λf H Q=>f.length<=bg/\∀p,H p=ae->Q (.ref p) (upd H p (.tup f))) eW:=λF H f i Q pv g e q=>by
 unfold eW at e;split at e
 .cases e;refine⟨by rw[g.len];exact AJ (by assumption),λp h=>q _ F _ (Al.new0 h) ⟨p,i,rfl,upd_same,(Al.new0 h).reps g⟩⟩
 .cases e
theorem uJ{K:ay}{F:af->Prop}{H:Hp}{l:af}{g:List PV}{f:List V}(i:H l=ae)(h:aR K H F g f):ff K (upd H l (.lst f)) F (.lst g) l (λb=>b=l):=⟨⟨f,upd_same,(Al.new0 i).reps h⟩,λb=>kU⟩
theorem u5{F:af->Prop}{H:Hp}{l:af}{o:HO}(g:H l=ae)(i:∀a,F a->∃o,H a=aa o)(h:eV o):∀b,b=l->H b=ae/\¬F b/\∃f,(upd H l o) b=aa f/\eV f:=λb z=>by
 subst z;exact⟨g,(λw=>by obtain⟨o,q⟩:=i b w;rw[g]at q;cases q),o,upd_same,h⟩
theorem Rb{K:ay}:lZ K (λf H Q=>f.length<=bg/\∀p,H p=ae->Q (.ref p) (upd H p (.lst f))) cQ:=λF H f l Q m i h e q=>by
 unfold cQ at e;split at e
 .cases e;exact⟨by rw[h.len];exact AJ (by assumption),λp g=>q p F _ _ (Al.new0 g) (uJ g h) (u5 g i trivial)⟩
 .cases e
theorem mJ{x1}(h:DA X E es j):DE X E (.Tuple es x1 pos) (dL eW j):=λF S i g H Q f q=>cn (LA jK) (Bo MZ h f q)
theorem rJ(h:DA X E es j):DN X E (.List es pos) (dL cQ j):=λF S i g H Q f q=>cn (Ry jK) (yd Rb h f q)
theorem jI(h:DA X E es j):DE X E (.List es pos) (dF (dL cQ j)):=(rJ h).de
variable{x:Str}{p:Pos}{m T:String}{r:List V->Hp->VK->Prop}{f:List PV->Option PV}{A:List PV->Option PO}
theorem fO(v:gg X (.builtin m) r)(l:PL X.K r f)(o:X.mg x=ae)(i:fF x=aa (.builtin m))(w:DA X E (e::es) j)(s:Gl X x:=by rfl)(n:x≠"__name__":=by decide)(h:(x==("__debug__":Str))=ak:=by decide)(u:a9 (e::es) X.env=(ak,bh e X.env)::a9 es X.env:=by rfl) (y:(ef pos (a9 es X.env)).any (·.1)=ak:=by rfl):DE X E (.Call (.Name x p) (e::es) [] pos) (dL f j):=λF S C z H Q g q=>cn (mY v s o i jK n h u y) (Bo l w g q)
theorem uz(v:gg X (.builtin m) r)(l:lZ X.K r A)(o:X.mg x=ae)(i:fF x=aa (.builtin m))(w:DA X E (e::es) j)(s:Gl X x:=by rfl)(n:x≠"__name__":=by decide)(h:(x==("__debug__":Str))=ak:=by decide)(u:a9 (e::es) X.env=(ak,bh e X.env)::a9 es X.env:=by rfl) (y:(ef pos (a9 es X.env)).any (·.1)=ak:=by rfl):DN X E (.Call (.Name x p) (e::es) [] pos) (dL A j):=λF S C z H Q g q=>cn (mY v s o i jK n h u y) (yd l w g q)
theorem sN(v:gg X (.type T) r)(l:PL X.K r f)(o:X.mg x=ae)(i:fF x=aa (.type T))(w:DA X E (e::es) j)(s:Gl X x:=by rfl)(n:x≠"__name__":=by decide)(h:(x==("__debug__":Str))=ak:=by decide)(u:a9 (e::es) X.env=(ak,bh e X.env)::a9 es X.env:=by rfl) (y:(ef pos (a9 es X.env)).any (·.1)=ak:=by rfl):DE X E (.Call (.Name x p) (e::es) [] pos) (dL f j):=λF S C z H Q g q=>cn (BF v s o i jK n h u y) (Bo l w g q)
theorem AR(v:gg X (.type T) r)(l:lZ X.K r A)(o:X.mg x=ae)(i:fF x=aa (.type T))(w:DA X E (e::es) j)(s:Gl X x:=by rfl)(n:x≠"__name__":=by decide)(h:(x==("__debug__":Str))=ak:=by decide)(u:a9 (e::es) X.env=(ak,bh e X.env)::a9 es X.env:=by rfl) (y:(ef pos (a9 es X.env)).any (·.1)=ak:=by rfl):DN X E (.Call (.Name x p) (e::es) [] pos) (dL A j):=λF S C z H Q g q=>cn (BF v s o i jK n h u y) (yd l w g q)
theorem fU{r:R2}{f:PV->PV->Option PV}(l:mD X r)(n:P2 X.K r f)(q:DE X E a B)(o:DE X E b db)(i:A8 b:=by exact λ_ _=>rfl):DE X E (.Subscript a b pos) (d2 f B db):=λF S u s H Q g h=>cn (FD l bF bF i) (yS n q o g h)
def Bk(X:Cx)(e:Option aA):TO:=λg H Q=>Bx (∀h s,Inv X h g H s->aq (au X.prog X.w) X.A (evalPart e X.env) (λu l=>∃o i,Inv X h g i l/\ni u o/\Q o i) X.xe s)
theorem Eb{o:Option aA}:L2.PO X o (Bk X o):=λg s _ _ _ I h=>h.run g s I
theorem HR{o:Option aA}{t:TO}(h:L2.PO X o t){g:St}{H:Hp}{Q:Option Int->Hp->Prop}(q:t g H Q):Bk X o g H Q:=⟨λi s I=>h i s g H Q I q⟩
def DO(X:Cx)(E:XK)(e:Option aA)(d:aj->R (Option Int)):Prop:=∀F S h g H Q,aJ X.K F S h g H->Ok X.K E g F S H (d h) (λo _ _ _ i=>Q o i)->Bk X e g H Q
def fe:aj->R (Option Int):=λε=>.ok ae ε
def iV:PV->Option Int
 |.int i=>aa i
 |_=>ae
def dU(d:aj->R PV):aj->R (Option Int):=λε=>(d ε).bind λx ε1=>aO ((iV x).map aa) ε1
theorem l5:DO X E ae fe:=λF S l i H Q g h=>HR Nb (h F S H g (Grow.refl ..))
theorem kq(w:DE X E e d):DO X E (aa e) (dU d):=λF S o l H Q s h=>by
 refine HR (OU bF) (w F S o l H _ s ((Ok.bind h).imp λx n C y z u G g v q=>?_));cases x <;> first|exact(show False from g).elim|skip
 rename_i i;exact⟨i,q,g C y z u (Grow.refl ..)⟩
def et{i:Type}(f:PV->Option Int->Option Int->Option i)(d:aj->R PV)(o n:aj->R (Option Int)):aj->R i:=λε=>(d ε).bind λx ε1=>(o ε1).bind λl h=>(n h).bind λu g=>aO (f x l u) g
def F8(K:ay)(r:V->Option Int->Option Int->Hp->VK->Prop)(f:PV->Option Int->Option Int->Option PV):Prop:=∀(F:af->Prop) (H:Hp) (x:PV) (h i:Option Int) (v:V) (Q:VK) (pv:PV),aL K H F x v->f x h i=aa pv->(∀w l g,Al F l H g->aL K g l pv w->Q w g)->r v h i H Q
theorem lp{r:V->Option Int->Option Int->Hp->VK->Prop}{f:PV->Option Int->Option Int->Option PV}{C G:Option aA}{J I:aj->R (Option Int)}{P:Pos}(Y:mM X r)(Z:F8 X.K r f)(he:DE X E e d)(hl:DO X E C J)(W:DO X E G I):DE X E (.Subscript e (.Slice C G ae P) pos) (et f d J I):=λF S L i H Q N h=>by
 refine cn (N_ Y bF Eb Eb) (he F S L i H _ N ((Ok.bind h).imp λx o F1 S1 H1 z g1 h1 v M=>?_));refine hl F1 S1 o i H1 _ z ((Ok.bind h1).imp λl n F2 S2 H2 y g2 h2=>?_);refine W F2 S2 n i H2 _ y ((Ok.bind h2).imp λu K F3 S3 H3 O g3 g=>?_);cases s:f x l u with
 |none=>rw[s]at g;exact g.elim
 |some pv=>rw[s]at g;exact Z F3 H3 x l u v Q pv ((M.grow g2 z.fit).grow g3 y.fit) s λw F' H' al q=>g F' S3 H' (O.al al) al.grow w q
end
inductive aM where
 |next|ret (s:Slot)|brk|cont
def ve(K:ay)(H:Hp)(F:af->Prop)(s:Slot)(v:V)(c:af->Prop):Prop:=match s with
 |.val pv=>aL K H F pv v/\∀b,¬c b
 |.own d=>∃a,v=.ref a/\ff K H F d a c
 |.none=>False
def jh(b:List Nat)(c a:St):Prop:=∀i∈b,a[i]?=c[i]?
theorem jh.refl(a:List Nat)(b:St):jh a b b:=λ_ _=>rfl
theorem jh.trans{c:List Nat}{f e d:St}(a:jh c f e)(b:jh c e d):jh c f d:=λi h=>(b i h).trans (a i h)
theorem jh.set{a:List Nat}{b:St}{i:Nat}{x:Option V}(h:i∉a):jh a b (b.set i x):=λj c=>by rw[cS (by rintro rfl;exact h c)]
def vC(e:af->Prop)(c:Nat->af->Prop)(d:Hp)(a:af->Prop):Prop:=∀b,a b->¬e b/\¬U c b/\∃o,d b=aa o/\eV o
def iz(K:ay)(E:XK)(h:List Nat)(i:St)(F:af->Prop)(S:Nat->af->Prop)(H:Hp)(r:R aM)(D:j5):Prop:=match r with
 |.ok .next e=>∀f g a d,aJ K f g e a d->Grow (U S) (U g) F f H d->jh h i a->D.nx a d
 |.ok .brk e=>∀f g a d,aJ K f g e a d->Grow (U S) (U g) F f H d->jh h i a->D.bk a d
 |.ok .cont e=>∀f g a d,aJ K f g e a d->Grow (U S) (U g) F f H d->jh h i a->D.ct a d
 |.ok (.ret s) e=>∀v f g a d j,aJ K f g e a d->Grow (U S) (λb=>U g b\/j b) F f H d->jh h i a->ve K d f s v j->vC f g d j->D.rt v d
 |.er c e=>∀x f g a d,aJ K f g e a d->Grow (U S) (U g) F f H d->jh h i a->E c x d
 |.no=>False
def DS(X:Cx)(E:XK)(b:List Nat)(e:bn)(d:aj->R aM):Prop:=∀F S c a H D,aJ X.K F S c a H->iz X.K E b a F S H (d c) D->wpS X e D a H
def jg(X:Cx)(E:XK)(b:List Nat)(e:List bn)(d:aj->R aM):Prop:=∀F S c a H D,aJ X.K F S c a H->iz X.K E b a F S H (d c) D->pP X e D a H
section
variable{K:ay}{E:XK}{b:List Nat}{d e:St}{F l:af->Prop}{S i:Nat->af->Prop}{H j:Hp}{D:j5}
theorem iz.from{r:R aM}(h:iz K E b d F S H r D)(g:Grow (U S) (U i) F l H j)(p:jh b d e):iz K E b e l i j r D:=by
 cases r with
 |no=>exact h
 |er c w=>exact λx u o a q m g' n=>h x u o a q m (g.trans g') (p.trans n)
 |ok f w=>
  cases f with
  |next=>exact λu o a q m g' n=>h u o a q m (g.trans g') (p.trans n)
  |brk=>exact λu o a q m g' n=>h u o a q m (g.trans g') (p.trans n)
  |cont=>exact λu o a q m g' n=>h u o a q m (g.trans g') (p.trans n)
  |ret s=>exact λv u o a q y m g' n=>h v u o a q y m (g.trans g') (p.trans n)
theorem iz.bindE{n:Type}{r:R n}{k:n->aj->R aM}(h:iz K E b d F S H (r.bind k) D):Ok K E d F S H r (λa f l i j=>iz K E b d l i j (k a f) D):=by
 cases r with
 |no=>exact h
 |er c g=>exact λx s p q o m=>h x s p d q o m (jh.refl _ _)
 |ok a g=>exact λs p q o m=>h.from m (jh.refl _ _)
end
section
variable{X:Cx}{E:XK}{pin:List Nat}{l:bn}{rest:List bn}{d d1 d2:aj->R aM}{e:aA}{de:aj->R PV}{pos:Pos}
def gt:aj->R aM:=λa=>.ok .next a
theorem jZ:jg X E pin [] gt:=λF S c a H D b h=>BB Ll (h F S a H b (Grow.refl ..) (jh.refl _ _))
def aH(d1 d2:aj->R aM):aj->R aM:=λε=>match d1 ε with
 |.ok .next ε1=>d2 ε1
 |r=>r
theorem bq(u:DS X E pin l d1)(q:jg X E pin rest d2):jg X E pin (l::rest) (aH d1 d2):=λF S i m H D n h=>by
 refine BB (Kg Fb qb) (u F S i m H {D with nx:=pP X rest D} n ?_);unfold aH at h;split at h
 .rename_i g w;rw[w];exact λz x b y o v p=>q z x g b y D o (h.from v p)
 .rename_i r j;generalize d1 i=r1 at h j;cases r1 with
  |no=>exact h
  |er c a=>exact h
  |ok f a=>
   cases f with
   |next=>exact absurd rfl (j a)
   |brk=>exact h
   |cont=>exact h
   |ret s=>exact h
theorem bz(f:DS X E pin l d1):jg X E pin [l] d1:=λF S b a H D c h=>BB (Lh Fb) (f F S b a H D c h)
def HM(f:aM):aj->R aM:=λa=>.ok f a
def Hx(d:aj->R PV):aj->R aM:=λb=>(d b).bind λ_ a=>.ok .next a
def cI(d:aj->R PV):aj->R aM:=λε=>(d ε).bind λx a=>.ok (.ret (.val x)) a
theorem Grow.cup{O c F i:af->Prop}{H f:Hp}(g:Grow O c F i H f):Grow O (λb=>c b\/False) F i H f:=⟨g.fro,g.keep,g.there,g.fnew,λa h=>h.elim (g.onew a) ml⟩
theorem dX(j:DE X E e de):DS X E pin (.Return (aa e) pos) (cI de):=λF S c a H D g h=>fM (xG bF) (j F S c a H _ g (h.bindE.imp λx b p n o i q m v f=>m v p n a o (λ_=>False) i (Grow.refl ..).cup (jh.refl _ _) ⟨f,λ_ z=>z⟩ λ_ z=>z.elim))
def ko(d:aj->R PO):aj->R aM:=λε=>(d ε).bind λx ε1=>.ok (.ret (.own x)) ε1
theorem xW{dn:aj->R PO}(u:DN X E e dn):DS X E pin (.Return (aa e) pos) (ko dn):=λF S j g H D p h=>by
 refine fM (xG bF) (u F S j g H _ p ?_);unfold ko at h;cases i:dn j with
 |no=>rw[i]at h;exact h.elim
 |er c o=>rw[i]at h;exact λx J B G r v=>h x J B g G r v (jh.refl _ _)
 |ok K n=>rw[i]at h;intro I A C q f a y s m;exact h _ I A g C y q ⟨f.fro,f.keep,f.there,f.fnew,λb z=>z.elim (f.onew b) λw=>.inr (m b w).1⟩ (jh.refl _ _) ⟨a,rfl,s⟩ λb z=>let ⟨_,x2,x3,x4⟩:=m b z;⟨x2,x3,x4⟩
def kB(i:Nat):aj->R aM:=λa=>match a[i]? with
 |some (.own b)=>.ok (.ret (.own b)) (a.set i .none)
 |_=>.no
theorem aJ.drop{K:ay}{F:af->Prop}{S:Nat->af->Prop}{c:aj}{n:St}{H:Hp}(r:aJ K F S c n H)(i:Nat):aJ K F (λj b=>S j b/\j≠i) (c.set i .none) n H:=by
 have no:∀{j s},(c.set i .none)[j]?=aa s->s≠.none->j≠i/\c[j]?=aa s:=λ{j s} e q=>by
  by_cases f:i=j
  .subst f;by_cases u:i<c.length
   .rw[dY u]at e;exact absurd (cO e).symm q
   .rw[oM (by rw[gb];lia)]at e;cases e
  .rw[cS f]at e;exact⟨dz f,e⟩
 refine⟨by rw[gb];exact r.len,r.ex,λj pv e=>r.val j pv (no e (by intro z;cases z)).2,λj po e=>?_,λj b h=>?_,λj k b m g=>r.dist j k b m.1 g.1⟩
 .obtain⟨f,e⟩:=no e (by intro z;cases z);obtain⟨a,m,g⟩:=r.own j po e;have v:(λb=>S j b/\j≠i)=S j:=by funext b;simp[f]
  exact⟨a,m,by rw[v];exact g⟩
 .obtain⟨⟨po,p⟩,o⟩:=r.foot j b h.1;exact⟨⟨po,by rw[cS (dz h.2)];exact p⟩,o⟩
theorem yu(i:Nat){x:Str}{p:Pos}(s:X.N[i]?=aa x:=by rfl)(n:eC X.env.scope x:=by first|exact Or.inl rfl|exact Or.inr (Or.inl rfl)|exact Or.inr (Or.inr rfl))(r:(x==("__debug__":Str))=ak:=by decide)(v:(x==("__classdict__":Str))=ak:=by decide):DS X E pin (.Return (aa (.Name x p)) pos) (kB i):=λF S y f H D c h=>by
 unfold kB at h;split at h
 .rename_i g e;obtain⟨a,u,m⟩:=c.own i g e;refine fM (xG (fA s n r v)) ⟨_,u,h _ F (λj b=>S j b/\j≠i) f H (S i) (c.drop i) ⟨λ_ z=>z,λ_ _ z _=>z,λ_ o z=>⟨o,z⟩,λ_ z=>.inl z,λb z=>?_⟩ (jh.refl _ _) ⟨a,rfl,m⟩ λb z=>?_⟩
  .rcases z with⟨j,z,_⟩|z
   .exact .inl ⟨j,z⟩
   .exact .inl ⟨i,z⟩
  .exact⟨(c.foot i b z).2.1,λ⟨j,w,q⟩=>q (c.dist j i b w z),(c.foot i b z).2.2⟩
 .exact h.elim
theorem aJ.set{K:ay}{F:af->Prop}{S:Nat->af->Prop}{ε:aj}{g:St}{H:Hp}{i:Nat}{pv:PV}{v:V}(r:aJ K F S ε g H)(h:aL K H F pv v):aJ K F (λj b=>S j b/\j≠i) (ε.set i (.val pv)) (g.set i (aa v)) H:=by
 have o:=r.drop i;have len:(ε.set i (.val pv)).length=(g.set i (aa v)).length:=by rw[gb,gb];exact r.len
 refine⟨len,r.ex,λj p e=>?_,λj po e=>?_,λj b h=>?_,o.dist⟩
 .by_cases c:i=j
  .subst c;have f:i<ε.length:=by have:=(cA.mp e).1;rw[gb]at this;exact this
   rw[dY f]at e;cases e;exact⟨v,dY (by rw[<-r.len];exact f),h⟩
  .rw[cS c]at e;obtain⟨w,n,m⟩:=r.val j p e;exact⟨w,by rw[cS c];exact n,m⟩
 .have c:i≠j:=by
   rintro rfl;have f:i<ε.length:=by have:=(cA.mp e).1;rw[gb]at this;exact this
   rw[dY f]at e;cases e
  rw[cS c]at e;obtain⟨a,n,m⟩:=r.own j po e;have u:(λb=>S j b/\j≠i)=S j:=by funext b;simp[dz c]
  exact⟨a,by rw[cS c];exact n,by rw[u];exact m⟩
 .obtain⟨⟨po,q⟩,s⟩:=o.foot j b h;refine⟨⟨po,?_⟩,s⟩;rw[cS (dz h.2)]at q ⊢;exact q
theorem Grow.less{S:Nat->af->Prop}{F:af->Prop}{H:Hp}(i:Nat):Grow (U S) (U λj b=>S j b/\j≠i) F F H H:=⟨λ_ z=>z,λ_ _ z _=>z,λ_ o z=>⟨o,z⟩,λ_ z=>.inl z,λb ⟨j,z⟩=>.inl ⟨j,z.1⟩⟩
theorem aJ.setOwn{K:ay}{F:af->Prop}{S:Nat->af->Prop}{o:aj}{v:St}{H:Hp}{i:Nat}{q:PO}{a:af}{Sa:af->Prop}(r:aJ K F S o v H)(n:i<o.length)(h:ff K H F q a Sa)(s:vC F S H Sa):aJ K F (λj b=>(S j b/\j≠i)\/(j=i/\Sa b)) (o.set i (.own q)) (v.set i (aa (.ref a))) H:=by
 have A:=r.drop i;refine⟨by rw[gb,gb];exact r.len,r.ex,λj p e=>?_,λj g e=>?_,λj b h=>?_,λj k b f c=>?_⟩
 .have m:i≠j:=by rintro rfl;rw[dY n]at e;cases e
  rw[cS m]at e;obtain⟨w,f,c⟩:=r.val j p e;exact⟨w,by rw[cS m];exact f,c⟩
 .by_cases m:i=j
  .subst m;rw[dY n]at e;cases e;have u:(λb=>(S i b/\i≠i)\/(i=i/\Sa b))=Sa:=by funext b;simp
   exact⟨a,dY (by rw[<-r.len];exact n),by rw[u];exact h⟩
  .rw[cS m]at e;obtain⟨C,f,c⟩:=r.own j g e;have u:(λb=>(S j b/\j≠i)\/(j=i/\Sa b))=S j:=by funext b;simp[dz m]
   exact⟨C,by rw[cS m];exact f,by rw[u];exact c⟩
 .rcases h with h|⟨rfl,h⟩
  .obtain⟨⟨g,x⟩,B⟩:=A.foot j b h;refine⟨⟨g,?_⟩,B⟩;rw[cS (dz h.2)]at x ⊢;exact x
  .obtain⟨z,D,y⟩:=s b h;exact⟨⟨q,dY n⟩,z,y⟩
 .rcases f with f|⟨rfl,f⟩ <;> rcases c with c|⟨rfl,c⟩
  .exact r.dist j k b f.1 c.1
  .exact absurd ⟨j,f.1⟩ (s b c).2.1
  .exact absurd ⟨k,c.1⟩ (s b f).2.1
  .rfl
def bM(i:Nat)(d:aj->R PV):aj->R aM:=λε=>(d ε).bind λx ε1=>.ok .next (ε1.set i (.val x))
theorem fu(i:Nat){x:Str}{p:Pos}(u:X.N.Nodup)(s:DE X E e de)(o:i∉pin:=by decide)(q:X.N[i]?=aa x:=by rfl)(m:Loc X.env.scope x:=by first|exact Or.inl rfl|exact Or.inr rfl)(n:ju e (aa (.Name x p)) pos.line X.env=pure ak:=by rfl)(r:X.fn x=ah\/X.env.scope.names.lookup x=aa .local:=by first|exact .inl rfl|exact .inr rfl):DS X E pin (.Assign [.Name x p] e pos) (bM i de):=λF S c a H D g h=>fM (B1 u q m bF n r) (s F S c a H _ g (h.bindE.imp λx b z B y j A w v f=>w z _ _ y (j.set f) (Grow.less i) (jh.set o)))
def cU(i:Nat)(d:aj->R PO):aj->R aM:=λε=>(d ε).bind λx ε1=>if i<ε1.length then .ok .next (ε1.set i (.own x))else .no
theorem kD(i:Nat){x:Str}{p:Pos}{dn:aj->R PO}(K:X.N.Nodup)(J:DN X E e dn)(C:i∉pin:=by decide)(G:X.N[i]?=aa x:=by rfl)(A:Loc X.env.scope x:=by first|exact Or.inl rfl|exact Or.inr rfl)(B:ju e (aa (.Name x p)) pos.line X.env=pure ak:=by rfl)(I:X.fn x=ah\/X.env.scope.names.lookup x=aa .local:=by first|exact .inl rfl|exact .inr rfl):DS X E pin (.Assign [.Name x p] e pos) (cU i dn):=λF S q o H D u h=>by
 refine fM (B1 K G A bF B I) (J F S q o H _ u ?_);unfold cU at h;cases n:dn q with
 |no=>rw[n]at h;exact h.elim
 |er c s=>rw[n]at h;exact λx Q M O w L=>h x Q M o O w L (jh.refl _ _)
 |ok T g=>
  rw[n]at h;simp only[R.bind_ok]at h;intro P Y N v f a W y r;by_cases m:i<g.length
  .rw[if_pos m]at h;refine h P _ _ N (v.setOwn m y λb z=>(r b z).2) ⟨f.fro,f.keep,f.there,f.fnew,λb ⟨j,z⟩=>?_⟩ (jh.set C);rcases z with z|⟨_,z⟩
   .exact f.onew b ⟨j,z.1⟩
   .exact .inr (r b z).1
  .rw[if_neg m]at h;exact h.elim
theorem j9{c:aA}{a b:List bn}{t:aj->R Bool}(r:DT X E c t)(u:jg X E pin a d1)(s:jg X E pin b d2):DS X E pin (.If c a b pos) (cL t d1 d2):=λF S p g H D q h=>by
 refine fM (RL mP qb qb) (r F S p g H _ q (h.bindE.imp λk f o m n i v j=>?_));cases k with
 |true=>exact mT (u o m f g n D i j)
 |false=>exact mK (s o m f g n D i j)
def dJ(r:R aM):R aM:=match r with
 |.er _ _=>.no
 |r=>r
theorem lf(h:DS X.nox E0 pin l d):DS X E pin l (λa=>dJ (d a)):=λF S a b H D i q=>Bx.mk λm s I=>by
 have q:iz X.K E pin b F S H (dJ (d a)) D:=q;have j:iz X.K E0 pin b F S H (d a) D:=by
  cases e:d a with
  |no=>rw[e]at q;exact q
  |er c g=>rw[e]at q;exact q.elim
  |ok f g=>rw[e]at q;cases f <;> exact q
 exact f9 ((h F S a b H D i j).run m s (I.wish _)) (λ_ _ z=>z.unwish) λ_ _ z=>z.elim
def lv(X:Cx)(f a:aA):TI:=λb H h=>Bx (∀c s,Inv X c b H s->aq (au X.prog X.w) X.A (bh a X.env) (λv g=>aq (au X.prog X.w) X.A (nc v) (xx X c b f h) X.xe g) X.xe s)
theorem vJ{b a:aA}:PI X b a (lv X b a):=λc s _ _ _ I h=>h.run c s I
theorem Mo{f a:aA}{t:TI}(h:PI X f a t){b:St}{H:Hp}{c:It->Hp->Prop}(q:t b H c):lv X f a b H c:=⟨λg s I=>h g s b H c I q⟩
def DI(X:Cx)(E:XK)(q a:aA)(d:aj->R (List PV)):Prop:=∀F S m c H n,aJ X.K F S m c H ->
 Ok X.K E c F S H (d m) (λg _ p r i=>∀J f o,aR X.K i p g f->f.length<=bg->Walk J f o->(∀h j b,Grow (U r) (U h) p j i b->o b)->n J i)->lv X q a c H n
def fE(i:Nat)(db:aj->R aM):List PV->aj->R aM
 |[],ε=>.ok .next ε
 |x::b,ε=>match db (ε.set i (.val x))with
  |.ok .next a=>fE i db b a
  |.ok .cont a=>fE i db b a
  |.ok .brk a=>.ok .next a
  |r=>r
def ca(i:Nat)(b:aj->R (List PV))(db:aj->R aM):aj->R aM:=λε=>(b ε).bind λa ε1=>fE i db a ε1
theorem jm(i:Nat){x:Str}{p:Pos}{o:aA}{r:List bn}{di:aj->R (List PV)}{G:aj->R aM}(wy:vL (au X.prog X.w) X.A X.env X.xe)(hc:X.calm=ah)(hN:X.N.Nodup)(hi:DI X E (.Name x p) o di)(hb:jg X E pin r G)(hp:i∉pin:=by decide) (B:X.N[i]?=aa x:=by rfl) (P:Loc X.env.scope x:=by first|exact Or.inl rfl|exact Or.inr rfl) (hs:∀x,lz o X.env x=pure x:=by intro _;rfl)(hf:X.fn x=ah\/X.env.scope.names.lookup x=aa .local:=by first|exact .inl rfl|exact .inr rfl):DS X E pin (.For (.Name x p) o r [] pos) (ca i di G):=λF S ε σ H D rl h=>by
 refine fM (FX wy hc vJ (qh hN B P hf) qb hs) (hi F S ε σ H _ rl (h.bindE.imp λz K F1 S1 H1 Z g1 h1 J vs RR Y hz hw keep=>?_));refine GN hw (λk a n=>∃u w m,aJ X.K u w m a n/\Grow (U S1) (U w) F1 u H1 n/\iz X.K E pin a u w n (fE i G (z.drop k) m) D) ⟨F1,S1,K,Z,Grow.refl ..,h1⟩ (λk a n _ ⟨u,w,m,_,g,_⟩=>keep w u n g) ?_ ?_
 .rintro k v a n hv ⟨u,w,m,N,C,q⟩;obtain⟨x,B,rx⟩:=Y.back hv;have hk:k<z.length:=(cA.mp B).1;have ed:z.drop k=x::z.drop (k+1):=by rw[qx hk];congr 1;exact(cA.mp B).2
  rw[ed]at q;have L:=rx.grow C Z.fit;have r2:=N.set (i:=i) L;have Q:Grow (U w) (U λj b=>w j b/\j≠i) u u n n:=Grow.less i;show pP X r _ (a.set i (aa v)) n;refine hb u _ _ _ n _ r2 ?_;unfold fE at q;have q:=q.from Q (jh.set (x:=aa v) hp);cases e:G (m.set i (.val x))with
  |no=>rw[e]at q;exact q
  |er c y=>rw[e]at q;exact q
  |ok f y=>
   rw[e]at q;cases f with
   |next=>exact λW T I H3 M A O=>⟨W,T,y,M,(C.trans Q).trans A,q.from A O⟩
   |cont=>exact λW T I H3 M A O=>⟨W,T,y,M,(C.trans Q).trans A,q.from A O⟩
   |brk=>exact q
   |ret s=>exact q
 .rintro a n ⟨u,w,m,N,C,q⟩;have P:vs.length=z.length:=Y.len;rw[P,zu]at q;exact q u w a n N (Grow.refl ..) (jh.refl _ _)
def iZ(t:aj->R Bool)(b:aj->R aM):Nat->aj->R aM
 |0,_=>.no
 |n+1,ε=>(t ε).bind λk ε1=>match k with
  |false=>.ok .next ε1
  |true=>match b ε1 with
   |.ok .next a=>iZ t b n a
   |.ok .cont a=>iZ t b n a
   |.ok .brk a=>.ok .next a
   |r=>r
theorem NV{c:aA}{n:List bn}{t:aj->R Bool}{j:aj->R aM}(O:aj->Nat)(P:vL (au X.prog X.w) X.A X.env X.xe)(W:DT X E c t)(Y:jg X E pin n j):DS X E pin (.While c n [] pos) (λv=>iZ t j (O v) v):=λF S v σ H D Q h=>by
 refine fM (Re P mP qb) ⟨λm b u=>∃y x a,aJ X.K y x a b u/\iz X.K E pin b y x u (iZ t j m a) D,⟨O v,F,S,v,Q,h⟩,?_⟩;rintro m i H1 ⟨F1,Z,A,T,q⟩;cases m with
 |zero=>exact q.elim
 |succ m=>
  refine W F1 Z A i H1 _ T (q.bindE.imp λk p M J K N g2 g=>?_);cases k with
  |false=>exact mK (g M J i K N (Grow.refl ..) (jh.refl _ _))
  |true=>
   refine mT ⟨λb u=>∃y x a,aJ X.K y x a b u/\iz X.K E pin b y x u (iZ t j m a) D,λb u w=>⟨m,nD m,w⟩,Y M J p i K _ N ?_⟩;have g:iz X.K E pin i M J K (match j p with
    |.ok .next a=>iZ t j m a
    |.ok .cont a=>iZ t j m a
    |.ok .brk a=>.ok .next a
    |r=>r) D:=g
   cases e:j p with
   |no=>rw[e]at g;exact g
   |er c o=>rw[e]at g;exact g
   |ok f o=>
    rw[e]at g;cases f with
    |next=>exact λL I z H3 B G C=>⟨L,I,o,B,g.from G C⟩
    |cont=>exact λL I z H3 B G C=>⟨L,I,o,B,g.from G C⟩
    |brk=>exact g
    |ret s=>exact g
end
def yO(K:ay)(E:XK)(h:List V)(F:af->Prop)(S:Nat->af->Prop)(H:Hp)(r:R Slot)(Q:VK):Prop:=match r with
 |.ok s g=>∀v d e a f,aJ K d e g (h.map aa) a->Grow (U S) (λb=>U e b\/f b) F d H a->ve K a d s v f->vC d e a f->(∀b,f b->H b=ae)->Q v a
 |.er c g=>∀x d e a,aJ K d e g (h.map aa) a->Grow (U S) (U e) F d H a->E c x a
 |.no=>False
def cg(K:ay)(g:aj->R Slot):Sp:=λa H Q E=>∃F S b,aJ K F S b (a.map aa) H/\yO K E a F S H (g b) Q
structure c8(CX:ip)(P:aQ)(w:aI)(K:ay)(mg:Str->Option ai)(base:aB)(x:Str)(k:Nat)(ps:List Str)(sp:Sp):Prop where
 ex:∃f fd,mg x=aa (.ref f)/\lg P w K mg base CX k f fd ps sp/\Binds K fd ps []/\vM K (.ref f)=ah
def back:aj->aj->Option aj
 |[],_=>aa []
 |.own _::a,.own c::b=>(back a b).map (.own c::·)
 |.own _::_,_=>ae
 |s::a,_::b=>(back a b).map (s::·)
 |_::_,[]=>ae
theorem yc:∀{a c b:aj},back a c=aa b->b.length=a.length/\∀(i:Nat) (s:Slot),b[i]?=aa s->(∃g f,a[i]?=aa (.own g)/\c[i]?=aa (.own f)/\s=.own f)\/(a[i]?=aa s/\∀g,s≠.own g)
 |[],_,b,h=>by cases h;exact⟨rfl,λi s e=>by simp at e⟩
 |.own g::a,.own f::c,b,h=>by
  unfold back at h;cases e:back a c with
  |none=>rw[e]at h;cases h
  |some r=>
   rw[e]at h;cases h;obtain⟨l,q⟩:=yc e;refine⟨by simp[l],λi s d=>?_⟩;cases i with
   |zero=>simp at d;subst d;exact .inl ⟨g,f,rfl,rfl,rfl⟩
   |succ i=>simpa using q i s (by simpa using d)
 |.own g::a,.none::c,b,h=>by cases h
 |.own g::a,.val _::c,b,h=>by cases h
 |.own g::a,[],b,h=>by cases h
 |.none::a,[],b,h=>by cases h
 |.val _::a,[],b,h=>by cases h
 |.none::a,x::c,b,h=>by
  have h:(back a c).map (Slot.none::·)=aa b:=by unfold back at h;cases x <;> exact h
  cases e:back a c with
  |none=>rw[e]at h;cases h
  |some r=>
   rw[e]at h;cases h;obtain⟨l,q⟩:=yc e;refine⟨by simp[l],λi s d=>?_⟩;cases i with
   |zero=>simp at d;subst d;exact .inr ⟨rfl,λ_ z=>by cases z⟩
   |succ i=>simpa using q i s (by simpa using d)
 |.val pv::a,x::c,b,h=>by
  have h:(back a c).map (Slot.val pv::·)=aa b:=by unfold back at h;cases x <;> exact h
  cases e:back a c with
  |none=>rw[e]at h;cases h
  |some r=>
   rw[e]at h;cases h;obtain⟨l,q⟩:=yc e;refine⟨by simp[l],λi s d=>?_⟩;cases i with
   |zero=>simp at d;subst d;exact .inr ⟨rfl,λ_ z=>by cases z⟩
   |succ i=>simpa using q i s (by simpa using d)
def bS(n:Nat)(d:aj->R aM):aj->R Slot:=λe=>match d (e++dO n .none)with
 |.ok (.ret r) a=>(aO (back e a) []).bind λb _=>.ok r b
 |.ok .next a=>(aO (back e a) []).bind λb _=>.ok (.val .non) b
 |.er c a=>(aO (back e a) []).bind λb _=>.er c b
 |_=>.no
section
variable{K:ay}{F x:af->Prop}{S o:Nat->af->Prop}{c l m:aj}{f:St}{H u:Hp}{d:List V}
theorem aJ.start(r:aJ K F S c (d.map aa) H)(n:Nat):aJ K F S (c++dO n .none) (d.map aa++dO n ae) H:=by
 have y:c.length=(d.map aa).length:=r.len;have no:∀{j:Nat}{s:Slot},(c++dO n Slot.none)[j]?=aa s->s≠.none->c[j]?=aa s:=λ{j s} e w=>by
  by_cases A:j<c.length
  .rw[sV A]at e;exact e
  .rw[Cp ∅,List.getElem?_replicate]at e;split at e
   .exact absurd (cO e).symm w
   .cases e
 have up:∀{j:Nat}{v:Option V},(d.map aa)[j]?=aa v->(d.map aa++dO n ae)[j]?=aa v:=λ{j v} e=>by rw[sV (cA.mp e).1];exact e
 refine⟨by simp[y],r.ex,λj pv e=>?_,λj a e=>?_,λj b h=>?_,r.dist⟩
 .obtain⟨v,i,g⟩:=r.val j pv (no e (by intro z;cases z));exact⟨v,up i,g⟩
 .obtain⟨v,i,g⟩:=r.own j a (no e (by intro z;cases z));exact⟨v,up i,g⟩
 .obtain⟨⟨a,q⟩,p⟩:=r.foot j b h;exact⟨⟨a,by rw[sV (cA.mp q).1];exact q⟩,p⟩
theorem Fc{e:PO}{a:af}{j:af->Prop}(h:ff K H F e a j)(i:gE e=ah):∀b,j b↔b=a:=by
 cases e with
 |lst n=>exact h.2
 |dK g=>exact h.2
 |lls p=>cases i
 |ins C fs=>exact h.2
 |dT g=>exact h.2
 |inl C fs y n=>cases i
theorem Nf{e:PO}{a:af}{g:af->Prop}(h:ff K H F e a g):g a:=by
 cases e with
 |lst i=>exact(h.2 a).mpr rfl
 |dK b=>exact(h.2 a).mpr rfl
 |lls j=>obtain⟨n,_,_,_,_,w⟩:=h;exact(w a).mpr (.inl rfl)
 |ins C fs=>exact(h.2 a).mpr rfl
 |dT b=>exact(h.2 a).mpr rfl
 |inl C fs y i=>obtain⟨_,_,_,_,_,_,_,_,_,_,w⟩:=h;exact(w a).mpr (.inl rfl)
theorem aJ.back{Y:af->Prop}{D:List Nat}{n:Nat}(C:aJ K F S c (d.map aa) H)(r:aJ K x o l f u)(g:Grow (U S) Y F x H u)(p:jh D (d.map aa++dO n ae) f)(Q:∀(i:Nat) (s:PO),c[i]?=aa (.own s)->i∈D)(T:back c l=aa m):∃B,aJ K x B m (d.map aa) u/\(∀b,U B b->U o b)/\((∀(i:Nat) (s:PO),c[i]?=aa (.own s)->gE s=ah)->∀b,U S b->U B b):=by
 obtain⟨M,G⟩:=yc T;have inj:∀(i:Nat) (s:PO),c[i]?=aa (.own s)->∃a,(d.map aa)[i]?=aa (aa (.ref a))/\f[i]?=aa (aa (.ref a))/\ff K H F s a (S i):=λi s e=>by obtain⟨a,y,A⟩:=C.own i s e;refine⟨a,y,?_,A⟩;rw[p i (Q i s e),sV (cA.mp y).1];exact y
 have bk:∀(i:Nat) (s:PO),c[i]?=aa (.own s)->∃w,m[i]?=aa (.own w)/\l[i]?=aa (.own w):=λi s e=>by
  have N:i<m.length:=by rw[M];exact(cA.mp e).1
  rcases G i m[i] (by simp[N])with⟨p1,p2,q1,q2,q3⟩|⟨q1,q2⟩
  .exact⟨p2,by rw[dP N,q3],q2⟩
  .rw[e]at q1;exact absurd (cO q1).symm (q2 s)
 refine⟨λi b=>o i b/\∃s,c[i]?=aa (.own s),⟨by rw[M];exact C.len,r.ex,λi pv e=>?_,λi s e=>?_,λi b h=>?_,λi j b y A=>r.dist i j b y.1 A.1⟩,λb ⟨i,h⟩=>⟨i,h.1⟩,λP b ⟨i,h⟩=>?_⟩
 .rcases G i _ e with⟨_,_,_,_,z⟩|⟨q1,_⟩
  .cases z
  .obtain⟨v,y,A⟩:=C.val i pv q1;exact⟨v,y,A.grow g C.fit⟩
 .rcases G i _ e with⟨p1,p2,q1,q2,q3⟩|⟨_,q2⟩
  .cases q3;obtain⟨a,y,A,O⟩:=inj i p1 q1;obtain⟨X,E,I⟩:=r.own i s q2;rw[A]at E;cases E;refine⟨a,y,?_⟩;have W:(λb=>o i b/\∃s,c[i]?=aa (.own s))=o i:=by funext b;exact propext ⟨λz=>z.1,λz=>⟨z,p1,q1⟩⟩
   rw[W];exact I
  .exact absurd rfl (q2 s)
 .obtain⟨s,q⟩:=h.2;obtain⟨w,L,J⟩:=bk i s q;exact⟨⟨w,L⟩,(r.foot i b h.1).2⟩
 .obtain⟨⟨s,q⟩,_⟩:=C.foot i b h;obtain⟨a,y,A,O⟩:=inj i s q;obtain⟨w,L,J⟩:=bk i s q;obtain⟨X,E,I⟩:=r.own i w J;rw[A]at E;cases E;have e:b=a:=(Fc O (P i s q) b).mp h;exact⟨i,e ▸ Nf I,s,q⟩
end
theorem yM{K:ay}{E:XK}{a:List V}{F:af->Prop}{S:Nat->af->Prop}{H:Hp}{r:R Slot}{Q:VK}(h:yO K E a F S H r Q):r≠.no:=λz=>by rw[z]at h;exact h
theorem KS{K:ay}{g:aj->R Slot}{m:Nat}(e:∀a,g a≠.no->a.length=m):∀b H Q E,cg K g b H Q E->b.length=m:=λb H Q E ζ=>by obtain⟨F,S,a,c,ok⟩:=ζ;have:=e a (yM ok);have d:=c.len;rw[bZ]at d;lia
theorem R9{X:Cx}{E:XK}{u:List bn}{N P:List Str}{s:List V}{H:Hp}{Q:VK}{n:Nat}{g:aj->R Slot}{d:aj->R aM}{A:List Nat}(hn:N.length=P.length+n)(bp:∀a,g a≠.no->a.length=P.length) (Z:∀a,g a≠.no->∀(i:Nat) po,a[i]?=aa (.own po)->i∈A) (Y:∀a p m,g a=.ok p m->(∃pv,p=.val pv)\/∀(i:Nat) po,a[i]?=aa (.own po)->gE po=ah) (hg:∀a,g a≠.no->bS n d a=g a)(hb:jg X E A u d) (kY:cg X.K g s H Q E):pP X u {nx:=λ_ l=>Q .non l,rt:=Q} (L2.start N s) H:=by
 obtain⟨F,S,a,L,ok⟩:=kY;have hl:=bp a (yM ok);have h2:=L.len;rw[bZ]at h2;have es:L2.start N s=s.map aa++dO n ae:=by unfold L2.start;rw[show N.length-s.length=n by lia]
 rw[es];refine hb F S _ _ H _ (L.start n) ?_;have W:=Z a (yM ok);have lN:=hg a (yM ok);have K:=Y a;rw[<-lN]at ok K;unfold bS at ok K;generalize d (a++dO n .none)=r at ok K ⊢;cases r with
 |no=>exact ok
 |er c h=>
  intro x q C j l D f G;have ok:yO X.K E s F S H ((aO (back a h) []).bind λm _=>.er c m) Q:=ok;cases e:back a h with
  |none=>rw[e]at ok;exact ok.elim
  |some m=>rw[e]at ok;obtain⟨B,y,o,_⟩:=L.back D f G W e;exact ok x q B l y ⟨f.fro,f.keep,f.there,f.fnew,λb z=>f.onew b (o b z)⟩
 |ok fl h=>
  have I:∀(p:Slot),(∀m,back a h=aa m->(∃pv,p=.val pv)\/∀(i:Nat) po,a[i]?=aa (.own po)->gE po=ah)->yO X.K E s F S H ((aO (back a h) []).bind λm _=>.ok p m) Q->∀(v:V) q C j l J,aJ X.K q C h j l->Grow (U S) (λb=>U C b\/J b) F q H l->jh A (s.map aa++dO n ae) j->ve X.K l q p v J->vC q C l J->Q v l:=by
   intro p O ok v q C j l J D f G T M;cases e:back a h with
   |none=>rw[e]at ok;exact ok.elim
   |some m=>
    rw[e]at ok;obtain⟨B,y,o,up⟩:=L.back D f G W e;refine ok v q B l J y ⟨f.fro,f.keep,f.there,f.fnew,λb z=>f.onew b (z.imp (o b) id)⟩ T (λb z=>⟨(M b z).1,λw=>(M b z).2.1 (o b w),(M b z).2.2⟩) λb z=>?_;rcases O m e with⟨pv,rfl⟩|hf
    .exact absurd z (T.2 b)
    rcases f.onew b (.inr z)with w|w
    .exact absurd (o b (up hf b w)) (M b z).2.1
    .exact w
  cases fl with
  |brk=>exact ok.elim
  |cont=>exact ok.elim
  |ret p=>exact I p (λm e=>K p m (by show(aO (back a h) []).bind _=_;rw[e];rfl)) ok
  |next=>exact λq C j l D f G=>I (.val .non) (λ_ _=>.inl ⟨_,rfl⟩) ok .non q C j l (λ_=>False) D ⟨f.fro,f.keep,f.there,f.fnew,λb z=>z.elim (f.onew b) ml⟩ G ⟨rfl,λ_ z=>z⟩ λ_ z=>z.elim
theorem KF{f:af}{o:ja}{C:ip}{P:aQ}{w:aI}{K:ay}{u:Str->Option ai}{h:aB}{x b:Str}{e:bn}{N j:List Str}{k n:Nat}{g:aj->R Slot}{d:aj->R aM}{l:List Nat}(Y:pG K x b e f o)(X:cJ N j (a_ e))(O:N.length=j.length+n)(hb:∀(kV m r:ai) (B:Option af) (z v:ai) (p:List ai),p.length=j.length->hZ (kM x b (lh e) (iY e) (a_ e) .none kV m r B z v) ⟨p,[]⟩=pure (j.zip p))(y:∀c,g c≠.no->c.length=j.length) (G:∀c,g c≠.no->∀(i:Nat) po,c[i]?=aa (.own po)->i∈l) (D:∀c q W,g c=.ok q W->(∃pv,q=.val pv)\/∀(i:Nat) po,c[i]?=aa (.own po)->gE po=ah) (S:∀c,g c≠.no->bS n d c=g c)(J:∀(A:aX) (a:List Env) (s:ao) (H:Hp) (E:XK),g7 k (A.deeper (kL b (a_ e) s.heap.objs.size f o.code))->jg (j3 C P w K u h N b (a_ e) f o.code A a s H E) E l (iY e) d):lg P w K u h C (k+1) f o j (cg K g):=by obtain⟨oc,od,kV,m,r,B,z,v,F,rfl,I,T⟩:=Y.ex;exact J7 I T X (KS y) λA a s H Z Q E M L=>⟨_,qb,R9 O y G D S (J A a s H E M) L⟩
theorem F7{f:af}{u:ja}{B:ip}{P:aQ}{w:aI}{K:ay}{z:Str->Option ai}{l:aB}{x b:Str}{j:bn}{N m:List Str}{k n:Nat}{g:aj->R Slot}{d:aj->R aM}{p:List Nat}(Q:pG K x b j f u)(O:cJ N m (a_ j))(F:N.length=m.length+n)(I:∀(kV v C:ai) (M:Option af) (q J:ai) (r:List ai),r.length=m.length->hZ (kM x b (lh j) (iY j) (a_ j) .none kV v C M q J) ⟨r,[]⟩=pure (m.zip r))(L:∀c,g c≠.no->c.length=m.length) (y:∀c,g c≠.no->∀(i:Nat) o,c[i]?=aa (.own o)->i∈p/\gE o=ah) (G:∀c,g c≠.no->bS n d c=g c)(D:∀(f:af) (q:ai) (A:aX) (a:List Env) (s:ao) (H:Hp) (E:XK),g7 k (A.deeper (kL b (a_ j) s.heap.objs.size f q))->jg (j3 B P w K z l N b (a_ j) f q A a s H E) E p (iY j) d):lg P w K z l B (k+1) f u m (cg K g):=KF Q O F I L (λc h i o e=>(y c h i o e).1) (λc S T h=>.inr λi o e=>(y c (by rw[h];exact nofun) i o e).2) G λA a s H E=>D f u.code A a s H E
theorem SD{u:ip}{P:aQ}{w:aI}{K:ay}{o:Str->Option ai}{c:aB}{x:Str}{b:bn}{N h:List Str}{k n:Nat}{g:aj->R Slot}{d:aj->R aM}{j:List Nat}(D:cY K o x b)(M:cJ N h (a_ b))(B:N.length=h.length+n)(r:∀(kV p v:ai) (L:Option af) (l I:ai) (m:List ai),m.length=h.length->hZ (kM x x (lh b) (iY b) (a_ b) .none kV p v L l I) ⟨m,[]⟩=pure (h.zip m))(J:∀a,g a≠.no->a.length=h.length) (y:∀a,g a≠.no->∀(i:Nat) po,a[i]?=aa (.own po)->i∈j/\gE po=ah) (F:∀a,g a≠.no->bS n d a=g a)(z:∀(f:af) (l:ai) (A:aX) (e:List Env) (s:ao) (H:Hp) (E:XK),g7 k (A.deeper (kL x (a_ b) s.heap.objs.size f l))->jg (j3 u P w K o c N x (a_ b) f l A e s H E) E j (iY b) d):c8 u P w K o c x (k+1) h (cg K g):=by obtain⟨f,G,C,q⟩:=D.ex;exact⟨f,G,C,F7 q M B r J y F z,q.binds r,q.kp⟩
abbrev dE:=Sum PV Nat
def jX(K:ay)(b:St)(F:af->Prop)(H:Hp):List dE->List V->Prop
 |[],a=>a=[]
 |.inl pv::c,a=>∃v r,a=v::r/\aL K H F pv v/\jX K b F H c r
 |.inr i::c,a=>∃v r,a=v::r/\b[i]?=aa (aa v)/\jX K b F H c r
def DG(X:Cx)(E:XK)(f:List aA)(d:aj->R (List dE)):Prop :=
 ∀F S b a H Q,aJ X.K F S b a H->Ok X.K E a F S H (d b) (λg _ h _ e=>∀c,jX X.K a h e g c->Q c e)->rg X f a H Q
section
variable{X:Cx}{E:XK}{e:aA}{b:List aA}{de:aj->R PV}{c:aj->R (List dE)}{f:Pos}
def bN:aj->R (List dE):=λε=>.ok [] ε
def gV(d:aj->R PV)(c:aj->R (List dE)):aj->R (List dE):=λε=>(d ε).bind λx ε1=>(c ε1).bind λg a=>.ok (.inl x::g) a
def gO(i:Nat)(c:aj->R (List dE)):aj->R (List dE):=λd=>match d[i]? with
 |some (.own _)=>(c d).bind λg a=>.ok (.inr i::g) a
 |_=>.no
theorem bR:DG X E [] bN:=λF S g d H Q a h=>uG kA (h F S H a (Grow.refl ..) _ rfl)
theorem Lo(s:DE X E e de)(r:DG X E b c)(q:a9 (e::b) X.env=(ak,bh e X.env)::a9 b X.env:=by rfl):DG X E (e::b) (gV de c):=λF S j d H Q n h=>by refine uG (j7 bF jK q) (s F S j d H _ n ((Ok.bind h).imp λx a G A C g J w v m=>?_));refine r G A a d C _ g ((Ok.bind w).imp λI i D z B o y u l p=>?_);exact u D z B o (Grow.refl ..) _ ⟨v,l,rfl,m.grow y g.fit,p⟩
theorem iP(i:Nat){x:Str}{p:Pos}(v:DG X E b c)(y:X.N[i]?=aa x:=by rfl)(s:eC X.env.scope x:=by first|exact Or.inl rfl|exact Or.inr (Or.inl rfl)|exact Or.inr (Or.inr rfl))(w:(x==("__debug__":Str))=ak:=by decide)(A:(x==("__classdict__":Str))=ak:=by decide) (u:a9 (.Name x p::b) X.env=(ak,bh (.Name x p) X.env)::a9 b X.env:=by rfl):DG X E (.Name x p::b) (gO i c):=λF S m j H Q d h=>by
 unfold gO at h;split at h
 .rename_i q e;obtain⟨a,g,_⟩:=d.own i q e;refine uG (j7 (fA y s w A) jK u) ⟨_,g,v F S m j H _ d ((Ok.bind h).imp λG l D B C o I z n r=>?_)⟩;exact z D B C o (Grow.refl ..) _ ⟨_,n,rfl,g,r⟩
 .exact h.elim
end
def fR(a:aj):List dE->Option aj
 |[]=>aa []
 |.inl pv::b=>(fR a b).map (.val pv::·)
 |.inr i::b=>match a[i]? with
  |some (.own c)=>(fR a b).map (.own c::·)
  |_=>ae
def iO:aj->List dE->aj->aj
 |a,.inl _::c,_::b=>iO a c b
 |a,.inr i::c,s::b=>iO (a.set i s) c b
 |a,_,_=>a
def cV:List dE->List Nat
 |[]=>[]
 |.inl _::as=>cV as
 |.inr i::as=>i::cV as
theorem FG:∀{as:List dE}{i:Nat},i∈cV as↔∃k:Nat,as[k]?=aa (.inr i)
 |[],i=>by simp[cV]
 |.inl _::as,i=>by
  unfold cV;rw[FG];constructor
  .rintro⟨k,h⟩;exact⟨k+1,by simpa using h⟩
  .rintro⟨k,h⟩;cases k with
   |zero=>simp at h
   |succ k=>exact⟨k,by simpa using h⟩
 |.inr j::as,i=>by
  unfold cV;rw[br,FG];constructor
  .rintro(rfl|⟨k,h⟩)
   .exact⟨0,rfl⟩
   .exact⟨k+1,by simpa using h⟩
  .rintro⟨k,h⟩;cases k with
   |zero=>simp at h;exact .inl h.symm
   |succ k=>exact .inr ⟨k,by simpa using h⟩
theorem yA{d:aj}:∀{a:List dE}{c:aj},fR d a=aa c->c.length=a.length/\∀(k:Nat) (s:Slot),c[k]?=aa s->(∃pv,a[k]?=aa (.inl pv)/\s=.val pv)\/∃i f,a[k]?=aa (.inr i)/\d[i]?=aa (.own f)/\s=.own f
 |[],c,h=>by cases h;exact⟨rfl,λk s e=>by simp at e⟩
 |.inl pv::a,c,h=>by
  unfold fR at h;cases e:fR d a with
  |none=>rw[e]at h;cases h
  |some r=>
   rw[e]at h;cases h;obtain⟨l,q⟩:=yA e;refine⟨by simp[l],λk s b=>?_⟩;cases k with
   |zero=>simp at b;exact .inl ⟨pv,rfl,b.symm⟩
   |succ k=>simpa using q k s (by simpa using b)
 |.inr i::a,c,h=>by
  unfold fR at h;split at h
  .rename_i f g;cases e:fR d a with
   |none=>rw[e]at h;cases h
   |some r=>
    rw[e]at h;cases h;obtain⟨l,q⟩:=yA e;refine⟨by simp[l],λk s b=>?_⟩;cases k with
    |zero=>simp at b;exact .inr ⟨i,f,rfl,g,b.symm⟩
    |succ k=>simpa using q k s (by simpa using b)
  .cases h
theorem Aj:∀(c:List dE) (a b:aj),(iO a c b).length=a.length
 |[],a,b=>by cases b <;> rfl
 |.inl _::c,a,[]=>rfl
 |.inr _::c,a,[]=>rfl
 |.inl _::c,a,s::b=>Aj c a b
 |.inr i::c,a,s::b=>by show(iO (a.set i s) c b).length=_;rw[Aj,gb]
theorem sG:∀(a:List dE) (b c:aj) (j:Nat),j∉cV a->(iO b a c)[j]?=b[j]?
 |[],b,c,j,_=>by cases c <;> rfl
 |.inl _::a,b,[],j,_=>rfl
 |.inr _::a,b,[],j,_=>rfl
 |.inl _::a,b,s::c,j,h=>sG a b c j h
 |.inr i::a,b,s::c,j,h=>by
  have d:¬(j=i\/j∈cV a):=by simpa[cV]using h
  show(iO (b.set i s) a c)[j]?=_;rw[sG a _ c j λz=>d (.inr z),cS λz=>d (.inl z.symm)]
theorem ua:∀(a:List dE) (b c:aj) (j k:Nat) (s:Slot),(cV a).Nodup->j<b.length->a[k]?=aa (.inr j)->c[k]?=aa s->(iO b a c)[j]?=aa s
 |[],b,c,j,k,s,_,_,h,_=>by simp at h
 |_::a,b,[],j,k,s,_,_,_,h=>by simp at h
 |.inl _::a,b,t::c,j,0,s,_,_,h,_=>by simp at h
 |.inl _::a,b,t::c,j,k+1,s,nd,hj,h,g=>ua a b c j k s nd hj (by simpa using h) (by simpa using g)
 |.inr i::a,b,t::c,j,0,s,nd,hj,h,g=>by simp at h g;subst h g;have d:i∉cV a:=(kf.mp nd).1;show(iO (b.set i t) a c)[i]?=_;rw[sG a _ c i d,dY hj]
 |.inr i::a,b,t::c,j,k+1,s,nd,hj,h,g=>ua a (b.set i t) c j k s (kf.mp nd).2 (by rw[gb];exact hj) (by simpa using h) (by simpa using g)
theorem jX.len{K:ay}{c:St}{F:af->Prop}{H:Hp}:∀{a:List dE}{b:List V},jX K c F H a b->b.length=a.length
 |[],_,h=>by rw[show _=[] from h];rfl
 |.inl _::a,_,⟨v,r,e,_,h⟩=>by rw[e,d8,d8,jX.len h]
 |.inr _::a,_,⟨v,r,e,_,h⟩=>by rw[e,d8,d8,jX.len h]
theorem jX.val{K:ay}{d:St}{F:af->Prop}{H:Hp}:∀{as:List dE}{c:List V}{k:Nat}{pv:PV},jX K d F H as c->as[k]?=aa (.inl pv)->∃v,c[k]?=aa v/\aL K H F pv v
 |[],_,k,_,_,e=>by simp at e
 |.inl x::as,_,0,pv,⟨v,r,e,h,_⟩,q=>by simp at q;subst q e;exact⟨v,rfl,h⟩
 |.inr _::as,_,0,pv,_,q=>by simp at q
 |.inl x::as,_,k+1,pv,⟨v,r,e,_,h⟩,q=>by obtain⟨w,a,b⟩:=jX.val (k:=k) h (by simpa using q);subst e;exact⟨w,by simpa using a,b⟩
 |.inr x::as,_,k+1,pv,⟨v,r,e,_,h⟩,q=>by obtain⟨w,a,b⟩:=jX.val (k:=k) h (by simpa using q);subst e;exact⟨w,by simpa using a,b⟩
theorem jX.own{K:ay}{c:St}{F:af->Prop}{H:Hp}:∀{as:List dE}{d:List V}{k i:Nat},jX K c F H as d->as[k]?=aa (.inr i)->∃v,d[k]?=aa v/\c[i]?=aa (aa v)
 |[],_,k,_,_,e=>by simp at e
 |.inr x::as,_,0,pv,⟨v,r,e,h,_⟩,q=>by simp at q;subst q e;exact⟨v,rfl,h⟩
 |.inl _::as,_,0,pv,_,q=>by simp at q
 |.inl x::as,_,k+1,pv,⟨v,r,e,_,h⟩,q=>by obtain⟨w,a,b⟩:=jX.own (k:=k) h (by simpa using q);subst e;exact⟨w,by simpa using a,b⟩
 |.inr x::as,_,k+1,pv,⟨v,r,e,_,h⟩,q=>by obtain⟨w,a,b⟩:=jX.own (k:=k) h (by simpa using q);subst e;exact⟨w,by simpa using a,b⟩
section
variable{K:ay}{F A:af->Prop}{S m:Nat->af->Prop}{c s f:aj}{u:St}{H y:Hp}{as:List dE}{d:List V}
def l7(as:List dE)(S:Nat->af->Prop)(k:Nat)(b:af):Prop:=∃i,as[k]?=aa (.inr i)/\S i b
theorem yf(b:af)(h:U (l7 as S) b):U S b:=let ⟨_,i,_,h⟩:=h;⟨i,h⟩
theorem y6:∀{as:List dE}{i k l:Nat},(cV as).Nodup->as[k]?=aa (.inr i)->as[l]?=aa (.inr i)->k=l
 |[],_,_,_,_,h,_=>by simp at h
 |.inl _::as,i,0,_,_,h,_=>by simp at h
 |.inl _::as,i,_,0,_,_,h=>by simp at h
 |.inl _::as,i,k+1,l+1,nd,h1,h2=>by rw[y6 (as:=as) (i:=i) (k:=k) (l:=l) nd (by simpa using h1) (by simpa using h2)]
 |.inr j::as,i,0,0,_,_,_=>rfl
 |.inr j::as,i,0,l+1,nd,h1,h2=>by simp at h1;subst h1;exact absurd (FG.mpr ⟨l,by simpa using h2⟩) (kf.mp nd).1
 |.inr j::as,i,k+1,0,nd,h1,h2=>by simp at h2;subst h2;exact absurd (FG.mpr ⟨k,by simpa using h1⟩) (kf.mp nd).1
 |.inr j::as,i,k+1,l+1,nd,h1,h2=>by rw[y6 (as:=as) (i:=i) (k:=k) (l:=l) (kf.mp nd).2 (by simpa using h1) (by simpa using h2)]
theorem aJ.cal(r:aJ K F S c u H)(C:jX K u F H as d)(J:fR c as=aa s)(I:(cV as).Nodup):aJ K F (l7 as S) s (d.map aa) H:=by
 obtain⟨E,B⟩:=yA J;have up:∀{k:Nat}{v:V},d[k]?=aa v->(d.map aa)[k]?=aa (aa v):=λ{k v} e=>by rw[d7,e];rfl
 refine⟨by rw[E,bZ,C.len],r.ex,λk pv e=>?_,λk D e=>?_,λk b h=>?_,λk l b g o=>?_⟩
 .rcases B k _ e with⟨p,q1,n⟩|⟨_,_,_,_,z⟩
  .cases n;obtain⟨v,x,w⟩:=C.val q1;exact⟨v,up x,w⟩
  .cases z
 .rcases B k _ e with⟨_,_,z⟩|⟨i,p,q1,n,q3⟩
  .cases z
  .cases q3;obtain⟨v,x,w⟩:=C.own q1;obtain⟨a,b1,b2⟩:=r.own i D n;rw[w]at b1;cases b1;have L:l7 as S k=S i:=by
    funext b;exact propext ⟨λζ=>by obtain⟨j,g,o⟩:=ζ;rw[q1]at g;cases g;exact o,λh=>⟨i,q1,h⟩⟩
   exact⟨a,up x,by rw[L];exact b2⟩
 .obtain⟨i,g,o⟩:=h;obtain⟨⟨D,q⟩,n⟩:=r.foot i b o;have G:k<s.length:=by rw[E];exact(cA.mp g).1
  refine⟨?_,n⟩;rcases B k s[k] (by simp[G])with⟨_,z,_⟩|⟨j,p,z1,z2,z3⟩
  .rw[g]at z;cases z
  .exact⟨p,by rw[dP G,z3]⟩
 .obtain⟨i,x,w⟩:=g;obtain⟨j,b1,b2⟩:=o;have:=r.dist i j b w b2;subst this;exact y6 I x b1
theorem aJ.called{O':af->Prop}(r:aJ K F S c u H)(ha:jX K u F H as d)(hs:fR c as=aa s)(Q:(cV as).Nodup)(O:aJ K A m f (d.map aa) y)(g:Grow (U (l7 as S)) O' F A H y)(hO:∀b,U m b->O' b)(M:∀(k:Nat) i,as[k]?=aa (.inr i)->∃D,f[k]?=aa (.own D)):∃Z,aJ K A Z (iO c as f) u y/\Grow (U S) (U Z) F A H y/\∀b,U Z b->U m b\/U S b:=by
 have up:∀{k:Nat}{v:V},(d.map aa)[k]?=aa (aa v)->d[k]?=aa v:=λ{k v} e=>by
  rw[d7]at e;cases q:d[k]? with
  |none=>rw[q]at e;cases e
  |some x=>rw[q]at e;cases e;rfl
 have fit:Fit (U (l7 as S)) F H:=λb h=>r.fit b (yf b h);have L:∀i D,c[i]?=aa (.own D)->i<c.length:=λi D e=>(cA.mp e).1;have lt:∀(k:Nat) i,as[k]?=aa (.inr i)->i<c.length:=λk i e=>by
  obtain⟨hl,hg⟩:=yA hs;have E:k<s.length:=by rw[hl];exact(cA.mp e).1
  rcases hg k s[k] (by simp[E])with⟨_,z,_⟩|⟨j,p,z1,z2,z3⟩
  .rw[e]at z;cases z
  .rw[e]at z1;cases z1;exact L _ _ z2
 refine⟨λj b=>(∃k:Nat,as[k]?=aa (.inr j)/\m k b)\/(j∉cV as/\S j b),⟨by rw[Aj];exact r.len,O.ex,λj pv e=>?_,λj D e=>?_,λj b h=>?_,λi j b B C=>?_⟩,⟨g.fro,λb o e n=>g.keep b o e λz=>n (yf b z),g.there,λa z=>(g.fnew a z).imp id λw=>w.imp id (yf a),λb ⟨j,z⟩=>?_⟩,λb ⟨j,z⟩=>?_⟩
 .by_cases I:j∈cV as
  .obtain⟨k,E⟩:=FG.mp I;obtain⟨D,q⟩:=M k j E;rw[ua as c f j k _ Q (lt k j E) E q]at e;cases e
  .rw[sG as c f j I]at e;obtain⟨v,B,C⟩:=r.val j pv e;exact⟨v,B,C.grow g fit⟩
 .by_cases I:j∈cV as
  .obtain⟨k,E⟩:=FG.mp I;obtain⟨po',q⟩:=M k j E;rw[ua as c f j k _ Q (lt k j E) E q]at e;cases e;obtain⟨a,B,C⟩:=O.own k D q;obtain⟨v,T,Y⟩:=ha.own E;rw[up B]at T;cases T;have X:(λb=>(∃k:Nat,as[k]?=aa (.inr j)/\m k b)\/(j∉cV as/\S j b))=m k:=by
    funext b;refine propext ⟨λz=>?_,λz=>.inl ⟨k,E,z⟩⟩;rcases z with⟨l,z1,z2⟩|⟨z,_⟩
    .rw[y6 Q E z1];exact z2
    .exact absurd I z
   exact⟨a,Y,by rw[X];exact C⟩
  .rw[sG as c f j I]at e;obtain⟨a,B,C⟩:=r.own j D e;have X:(λb=>(∃k:Nat,as[k]?=aa (.inr j)/\m k b)\/(j∉cV as/\S j b))=S j:=by
    funext b;refine propext ⟨λz=>?_,λz=>.inr ⟨I,z⟩⟩;rcases z with⟨l,z1,z2⟩|⟨_,z⟩
    .exact absurd (FG.mpr ⟨l,z1⟩) I
    .exact z
   have h3:ff K y A D a (S j):=by refine C.mono (λ_ _ q=>q.grow g fit) (λ_ _ q=>q.grow g fit) λb o z q=>g.keep b o q λ⟨l,i,N,J⟩=>?_;have:=r.dist i j b J z;subst this;exact I (FG.mpr ⟨l,N⟩)
   exact⟨a,B,by rw[X];exact h3⟩
 .rcases h with⟨k,B,C⟩|⟨B,C⟩
  .obtain⟨⟨D,q⟩,W⟩:=O.foot k b C;exact⟨⟨D,ua as c f j k _ Q (lt k j B) B q⟩,W⟩
  .obtain⟨⟨D,q⟩,W,o,P,q4⟩:=r.foot j b C;have no:¬U (l7 as S) b:=λζ=>by obtain⟨l,i,N,J⟩:=ζ;have:=r.dist i j b J C;subst this;exact B (FG.mpr ⟨l,N⟩)
   refine⟨⟨D,by rw[sG as c f j B];exact q⟩,λz=>?_,o,g.keep b o P no,q4⟩;rcases g.fnew b z with w|w|w
   .exact W w
   .rw[P]at w;cases w
   .exact no w
 .have G:∀{i j:Nat}{b:af},(∃k:Nat,as[k]?=aa (.inr i)/\m k b)->(j∉cV as/\S j b)->False:=λ{i j b} ⟨k,N,J⟩ ⟨w3,w4⟩=>by
   obtain⟨_,_,o,P,_⟩:=r.foot j b w4;rcases g.onew b (hO b ⟨k,J⟩)with⟨l,i',z1,z2⟩|z
   .have:=r.dist i' j b z2 w4;subst this;exact w3 (FG.mpr ⟨l,z1⟩)
   .rw[P]at z;cases z
  rcases B with B|B <;> rcases C with C|C
  .obtain⟨k,T,Y⟩:=B;obtain⟨l,b1,b2⟩:=C;have:=O.dist k l b Y b2;subst this;rw[T]at b1;cases b1;rfl
  .exact(G B C).elim
  .exact(G C B).elim
  .exact r.dist i j b B.2 C.2
 .rcases z with⟨k,_,z⟩|⟨_,z⟩
  .rcases g.onew b (hO b ⟨k,z⟩)with w|w
   .exact .inl (yf b w)
   .exact .inr w
  .exact .inl ⟨j,z⟩
 .rcases z with⟨k,_,z⟩|⟨_,z⟩
  .exact .inl ⟨k,z⟩
  .exact .inr ⟨j,z⟩
end
def DR(X:Cx)(E:XK)(e:aA)(d:aj->R Slot):Prop :=
 ∀F S f a H Q,aJ X.K F S f a H->Ok X.K E a F S H (d f) (λs _ h i c=>∀v g,ve X.K c h s v g->(∀b,g b->H b=ae/\¬h b/\¬U i b/\∃o,c b=aa o/\eV o)->Q v c)->gh X e a H Q
def gq:List dE->aj->Bool
 |[],_=>ah
 |.inl _::as,_::ss=>gq as ss
 |.inr _::as,.own _::ss=>gq as ss
 |_,_=>ak
theorem pR:∀{as:List dE}{ss:aj},gq as ss=ah->∀(k:Nat) i,as[k]?=aa (.inr i)->∃a,ss[k]?=aa (.own a)
 |[],_,_,k,i,h=>by simp at h
 |.inl _::as,s::ss,q,0,i,h=>by simp at h
 |.inl _::as,s::ss,q,k+1,i,h=>by simpa using pR (as:=as) (ss:=ss) (by unfold gq at q;exact q) k i (by simpa using h)
 |.inr _::as,.own a::ss,q,0,i,h=>⟨a,rfl⟩
 |.inr _::as,.own a::ss,q,k+1,i,h=>by simpa using pR (as:=as) (ss:=ss) (by unfold gq at q;exact q) k i (by simpa using h)
 |.inr _::as,.val _::ss,q,k,i,h=>by cases q
 |.inr _::as,.none::ss,q,k,i,h=>by cases q
 |.inl _::as,[],q,k,i,h=>by cases q
 |.inr _::as,[],q,k,i,h=>by cases q
def im{e:Type}(d:aj)(b:List dE)(r:R e):R e:=match r with
 |.ok s a=>if gq b a then .ok s (iO d b a)else .no
 |.er c a=>if gq b a then .er c (iO d b a)else .no
 |.no=>.no
def aY(g:aj->R Slot)(c:aj->R (List dE)):aj->R Slot:=λε=>(c ε).bind λa ε1=>(aO (if(cV a).Nodup then fR ε1 a else ae) ε1).bind λb ε1=>im ε1 a (g b)
section
variable{l:ip}{X:Cx}{E:XK}{pin:List Nat}{e:aA}{es:List aA}{j:aj->R (List dE)}{pos:Pos}{x:Str}{k:Nat}{m:List Str}{g:aj->R Slot}{p:Pos}{d:aj->R Slot}
theorem Qn{K:ay}{F0 r:af->Prop}{S0 C:Nat->af->Prop}{a:aj}{G:St}{H n:Hp}{c:List dE}{Z:List V}{Q:VK}(A:aJ K r C a G n)(g1:Grow (U S0) (U C) F0 r H n)(P:jX K G r n c Z)(q:Ok K E G r C n ((aO (if(cV c).Nodup then fR a c else ae) a).bind λD a=>im a c (g D)) λs _ u W h=>∀v F,ve K h u s v F->(∀b,F b->H b=ae/\¬u b/\¬U W b/\∃o,h b=aa o/\eV o)->Q v h):cg K g Z n Q E:=by
 have q:=Ok.bind q;by_cases B:(cV c).Nodup
 .rw[if_pos B]at q;cases es:fR a c with
  |none=>rw[es]at q;exact q.elim
  |some D=>
   rw[es]at q;have q:=q r C n A (Grow.refl ..);dsimp only at q;refine⟨r,l7 c C,D,A.cal P es B,?_⟩;cases O:g D with
   |no=>rw[O]at q;exact q.elim
   |er cv S=>
    rw[O]at q;intro y u W h J N;unfold im at q;dsimp only at q;by_cases f:gq c S=ah
    .rw[if_pos f]at q;obtain⟨T,I,M,_⟩:=A.called P es B J N (λ_ z=>z) (pR f);exact q y u T h I M
    .rw[if_neg f]at q;exact q.elim
   |ok s S=>
    rw[O]at q;intro v u W h F J N rv L fr;unfold im at q;dsimp only at q;by_cases f:gq c S=ah
    .rw[if_pos f]at q;obtain⟨T,I,M,u2⟩:=A.called P es B J N (λ_ z=>.inl z) (pR f);refine q u T h I M v F rv λb z=>⟨pA g1 (fr b z),(L b z).1,λw=>?_,(L b z).2.2⟩
     rcases u2 b w with w|⟨i,w⟩
     .exact(L b z).2.1 w
     .obtain⟨_,_,o,Y,_⟩:=A.foot i b w;rw[fr b z]at Y;cases Y
    .rw[if_neg f]at q;exact q.elim
 .rw[if_neg B]at q;exact q.elim
theorem bT(c:c8 l X.prog X.w X.K X.mg X.base x k m (cg X.K g))(s:g7 k X.A)(r:u9 l X E)(A:DG X E (e::es) j)(w:Gl X x:=by rfl)(y:(x==("__debug__":Str))=ak:=by decide) (C:a9 (e::es) X.env=(ak,bh e X.env)::a9 es X.env:=by rfl) (B:(ef pos (a9 es X.env)).any (·.1)=ak:=by rfl):DR X E (.Call (.Name x p) (e::es) [] pos) (aY g j):=λF S i a H Q n h=>by obtain⟨f,K,u,I,z,v⟩:=c.ex;refine cn (L4 I s w u v z .nil r jK y C B) (A F S i a H _ n ((Ok.bind h).imp λL b O M N o D q J G=>?_));rw[jb];exact Qn o D G q
def BU:Slot->Option PV
 |.val pv=>aa pv
 |.own (.lst a)=>aa (.lst a)
 |_=>ae
def bo(d:aj->R Slot):aj->R PV:=λε=>(d ε).bind λs ε1=>aO (BU s) ε1
def yz:Slot->Option PO
 |.own a=>aa a
 |_=>ae
def j4(d:aj->R Slot):aj->R PO:=λε=>(d ε).bind λs a=>aO (yz s) a
theorem DR.dn(h:DR X E e d):DN X E e (j4 d):=λF S f i H Q u q=>by
 unfold j4 at q;refine h F S f i H Q u ?_;cases b:d f with
 |no=>rw[b]at q;exact q.elim
 |er c o=>rw[b]at q;exact q
 |ok s n=>
  rw[b]at q;cases s with
  |none=>exact q.elim
  |val pv=>exact q.elim
  |own I=>intro G C D w z v B r A;obtain⟨a,rfl,y⟩:=r;exact q G C D w z a B y A
theorem DR.de(h:DR X E e d):DE X E e (bo d):=λF S ε b H Q f q=>by
 unfold bo at q;cases a:d ε with
 |no=>rw[a]at q;exact q.elim
 |er c n=>refine h F S ε b H Q f ?_;rw[a]at q ⊢;exact q
 |ok s ε1=>
  cases s with
  |none=>rw[a]at q;exact q.elim
  |val pv=>refine h F S ε b H Q f ?_;rw[a]at q ⊢;exact λD A B u z v J r G=>q D A B u z v r.1
  |own w=>
   refine h.dn.de F S ε b H Q f ?_;unfold dF j4;rw[a]at q ⊢;cases w with
   |lst o=>exact q
   |dK i=>exact q
   |lls I=>exact q
   |ins C fs=>exact q
   |dT i=>exact q
   |inl C fs y o=>exact q
def ph(d:aj->R Slot):aj->R aM:=λb=>(d b).bind λs a=>.ok (.ret s) a
theorem zX(C:DR X E e d):DS X E pin (.Return (aa e) pos) (ph d):=λF S n f H D y h=>by
 refine fM (xG bF) (C F S n f H _ y ?_);unfold ph at h;cases i:d n with
 |no=>rw[i]at h;exact h.elim
 |er c r=>rw[i]at h;exact λx O K M B G=>h x O K f M B G (jh.refl _ _)
 |ok s q=>rw[i]at h;intro N J L A a v I u o;exact h v N J f L I A ⟨a.fro,a.keep,a.there,a.fnew,λb z=>z.elim (a.onew b) λw=>.inr (o b w).1⟩ (jh.refl _ _) u λb z=>(o b z).2
def qf(d:aj->R Slot):aj->R aM:=λb=>(d b).bind λ_ a=>.ok .next a
theorem xj(o:DR X E e d)(n:ju e ae pos.line X.env=pure ak:=by rfl):DS X E pin (.Expr e pos) (qf d):=λF S c a H D f h=>fM (A9 bF n) (o F S c a H _ f (h.bindE.imp λx b u r s i y q v A w z=>q u r a s i (Grow.refl ..) (jh.refl _ _)))
end
end Pu
namespace L2
section
variable{X:Cx}{l:List (af×Obj)}{i:St}{H:Hp}{s:ao}{d:eF}{x:Str}{j:List Str}{g:List Nat}
theorem FN{E m N:aA}{y:Str}{Z J F:Pos}{G k:Nat}{tgf:V->Hp->St->Prop}{A:List aA}{wi:TI}{ts:TT}{te:TE}(B:iQ X d x j g)(hk:k<=g.length)(hc:X.calm=ah)(hi:PI X N m wi)(eQ:∀C r w W O,PG (bu X d j C r w W O) N λv M H Q=>∃vs,vs.length=k+1/\M.length=j.length/\tgf v H vs/\Q (vs++M.drop (k+1)) H)(ht:∀C r w W O,si (bu X d j C r w W O) A ts) (he:∀C r w W O,PE (bu X d j C r w W O) E te) (hN:X.N.Nodup) (nQ:X.N[G]?=aa y) (hxy:Loc X.env.scope y) (nR:ju (.ListComp E [⟨N,m,A,0⟩] d J) (aa (.Name y Z)) F.line X.env=pure ah) (hf:X.fn y=ah\/X.env.scope.names.lookup y=aa .local) (hs:∀x,lz m X.env x=pure x):PS X (.Assign [.Name y Z] (.ListComp E [⟨N,m,A,0⟩] d J) F) (λD i H=>y8 wi tgf k ts te g i H λv H'=>D.nx (i.set G (aa v)) H'):=by
 intro l s i H D I h;rw[exec_Assign_Name_used _ _ _ _ nR];refine ap (wpAny_standAt (ap ?_));show aq _ X.A (do let _ <-comprehension (.ListComp E [⟨N,m,A,0⟩] d J) d X.env _ (newList []) ak (bh m X.env) (aa (mh (.Name y Z) X.env))) _ _ s;refine ap (f9 (?_:aq _ X.A _ (λ_ s'=>SP X l D .next s') X.xe s) (λ_ s' hq=>aD (aD hq)) λ_ _ e=>e);refine Ha (use:=aa (mh (.Name y Z) X.env)) B hk hc hi eQ ht he hs I h λ{K s6 H3 H5 fp σ5 a f} Y f3 I6 q=>?_;obtain⟨mm,hn6,_⟩:=I6.loc;have J6:Inv X l i _ _:=Y.unblock f3 I6 (Heap.SameBut.refl _ _);have P:K.heap.objs.size≠X.env.locals:=λe=>absurd Y.lt (by rw[<-e];exact gu _);have S:∀z c,X.env.cells.lookup z=aa c->c≠K.heap.objs.size:=λz c e e2=>by obtain⟨vv,oo,ho,_⟩:=Y.cell z c e;exact absurd (bG ho) (by rw[e2];exact gu _)
 refine wpAny_assign_Name (G1 (v:=.ref a) J6 hN nQ hxy rfl (λs7 I7 ⟨a7,sb7,ha7⟩=>?_) hf);have na7:K.heap.objs.size≠a7:=by
  rcases ha7 with z|z
  .rw[z];exact P
  .exact(S _ _ z).symm
 refine⟨mm,hn6.sameBut sb7 na7,λmB sb=>⟨_,_,?_,q⟩⟩;have T:H5 K.heap.objs.size=ae:=I6.free;refine I7.call' (s':={s7 with heap:=mB}) (ch:=[K.heap.objs.size]) rfl ⟨λb o e n hb L=>?_,λb o e n hb L=>?_,λb o e n L=>n,λb o e L=>?_,λb xs e=>e,λb o u e=>e,λb ps e=>e⟩ ?_ I7.bare λb hb=>?_
 .exact(sb.2 b (by simpa using L)).trans e
 .exact⟨o.slots,(sb.2 b (by simpa using L)).trans (by simpa using e)⟩
 .exact⟨o,(sb.2 b (by simpa using L)).trans e⟩
 .intro b u e;refine(I7.hok b u e).stay (λc v hc q=>(sb.2 c ?_).trans q) (λ_ q=>q) λ_ _ q=>q;rintro rfl;rcases hc with z|z
  .rw[<-z,T]at e;cases e
  .rw[T]at z;cases z
 .have e:b=K.heap.objs.size:=by simpa using hb
  subst e;refine⟨.inr Y.sz,P,S,λp hp e2=>?_⟩;obtain⟨e3,_⟩:=Y.pin p hp;exact absurd (bG e3) (by rw[e2];exact gu _)
theorem HG{m a:aA}{y:Str}{o u n e:Pos}{f:Nat}{h:List aA}{wi:TI}{ts:TT}{te:TE}(B:iQ X d x j g)(J:X.calm=ah)(F:PI X (.Name x o) a wi)(A:∀C b c r p,si (bu X d j C b c r p) h ts) (I:∀C b c r p,PE (bu X d j C b c r p) m te) (K:X.N.Nodup) (z:X.N[f]?=aa y) (q:Loc X.env.scope y) (w:ju (.ListComp m [⟨.Name x o,a,h,0⟩] d n) (aa (.Name y u)) e.line X.env=pure ah) (G:X.fn y=ah\/X.env.scope.names.lookup y=aa .local) (E:∀x,lz a X.env x=pure x):PS X (.Assign [.Name y u] (.ListComp m [⟨.Name x o,a,h,0⟩] d n) e) (λD i H=>y4 wi ts te g i H λv L=>D.nx (i.set f (aa v)) L):=FN B (jO _) J F (Ej B) A I K z q w G E
end
end L2
namespace Pu
open L2
def b_(ε:aj):List Nat->Option (List dE)
 |[]=>aa []
 |j::cap=>match ε[j]? with
  |some (.val pv)=>(b_ ε cap).map (.inl pv::·)
  |some (.own _)=>(b_ ε cap).map (.inr j::·)
  |_=>ae
def bX{b:Type}(cap:List Nat)(d:aj->R b)(x:PV):aj->R b:=λε=>(aO (b_ ε cap) ε).bind λa _=>(aO (if(cV a).Nodup then fR ε (.inl x::a)else ae) ε).bind λc _=>im ε (.inl x::a) (d c)
def bC{a:Type}(r:R a):R a:=match r with
 |.er _ _=>.no
 |r=>r
def iy(cap:List Nat)(dt:aj->R Bool)(de:aj->R PV):List PV->List PV->aj->R (List PV)
 |[],b,ε=>.ok b ε
 |x::d,b,ε=>(bC (bX cap dt x ε)).bind λk a=>match k with
  |true=>(bC (bX cap de x a)).bind λy c=>iy cap dt de d (b++[y]) c
  |false=>iy cap dt de d b a
def bO(cap:List Nat)(d:aj->R (List PV))(dt:aj->R Bool)(de:aj->R PV):aj->R PO:=λε=>(d ε).bind λc ε1=>(iy cap dt de c [] ε1).bind λb a=>.ok (.lst b) a
theorem ug{K:ay}{F:af->Prop}{S:Nat->af->Prop}{f:aj}{d:St}{H:Hp}(r:aJ K F S f d H):∀{b:List Nat}{i:List dE},b_ f b=aa i->∃c,jX K d F H i c/\eU d b=c.map aa
 |[],i,h=>by cases h;exact⟨[],rfl,rfl⟩
 |j::b,i,h=>by
  unfold b_ at h;split at h
  .rename_i pv e;cases q:b_ f b with
   |none=>rw[q]at h;cases h
   |some bs=>
    rw[q]at h;cases h;obtain⟨c,m,l⟩:=ug r q;obtain⟨v,g,n⟩:=r.val j pv e;refine⟨v::c,⟨v,c,rfl,n,m⟩,?_⟩;show(d[j]?).join::eU d b=_;rw[g,l];rfl
  .rename_i o e;cases q:b_ f b with
   |none=>rw[q]at h;cases h
   |some bs=>
    rw[q]at h;cases h;obtain⟨c,m,l⟩:=ug r q;obtain⟨a,g,n⟩:=r.own j o e;refine⟨.ref a::c,⟨_,c,rfl,g,m⟩,?_⟩;show(d[j]?).join::eU d b=_;rw[g,l];rfl
  .cases h
theorem Es{K:ay}{E:XK}{F:af->Prop}{S:Nat->af->Prop}{q:aj}{e:St}{H:Hp}{G:Type}{b:List Nat}{d:aj->R G}{x:PV}{v:V}{C:G->aj->(af->Prop)->(Nat->af->Prop)->Hp->Prop}(r:aJ K F S q e H) (N:aL K H F x v) (h:Ok K E e F S H (bC (bX b d x q)) C):∃L j,aJ K F L j (aa v::eU e b) H/\Ok K E0 (aa v::eU e b) F L H (d j) (λa _ p _ o=>∃i u,aJ K p u i e o/\Grow (U S) (U u) F p H o/\C a i p u o):=by
 unfold bX at h;cases B:b_ q b with
 |none=>rw[B]at h;exact h.elim
 |some f=>
  rw[B]at h;simp only[bY,R.bind_ok]at h;by_cases y:(cV f).Nodup
  .rw[if_pos y]at h;cases s:fR q (.inl x::f)with
   |none=>rw[s]at h;exact h.elim
   |some j=>
    rw[s]at h;simp only[bY,R.bind_ok]at h;obtain⟨w,T,Q⟩:=ug r B;have n:jX K e F H (.inl x::f) (v::w):=⟨v,w,rfl,N,T⟩
    have m:aa v::eU e b=(v::w).map aa:=by rw[Q];rfl
    have l:(cV (.inl x::f)).Nodup:=y;refine⟨l7 (.inl x::f) S,j,by rw[m];exact r.cal n s l,?_⟩;rw[m];cases A:d j with
    |no=>rw[A]at h;exact h.elim
    |er c D=>
     rw[A]at h;unfold im at h;dsimp only at h;by_cases g:gq (.inl x::f) D=ah
     .rw[if_pos g]at h;exact h.elim
     .rw[if_neg g]at h;exact h.elim
    |ok a D=>
     rw[A]at h;intro p u o O P;unfold im at h;dsimp only at h;by_cases g:gq (.inl x::f) D=ah
     .rw[if_pos g]at h;obtain⟨M,I,J,_⟩:=r.called n s l O P (λ_ z=>z) (pR g);exact⟨_,M,I,J,h p M o I J⟩
     .rw[if_neg g]at h;exact h.elim
  .rw[if_neg y]at h;exact h.elim
def mR(X:Cx)(a:List aA):TT:=λb H Q=>Bx (∀d s,Inv X d b H s->aq (au X.prog X.w) X.A (forIn a ah λc r=>if r=ah then do let ok <-m_ c X.env (bh c X.env);pure (ForInStep.yield ok)else pure (ForInStep.yield r)) (TP X d b Q) X.xe s)
def DF(X:Cx)(E:XK)(c:List aA)(d:aj->R Bool):Prop:=∀F S e a H Q,aJ X.K F S e a H->Ok X.K E a F S H (d e) (λb _ _ _ f=>Q b f)->mR X c a H Q
def cb:aj->R Bool:=λε=>.ok ah ε
theorem lc{X:Cx}{E:XK}:DF X E [] cb:=λF S d a H Q b h=>⟨λc s I=>Ft c s a H Q I (h F S H b (Grow.refl ..))⟩
theorem oq{X:Cx}{E:XK}{c:aA}{d:aj->R Bool}(h:DT X E c d):DF X E [c] d:=λF S b a H Q e q=>⟨λf s I=>SG mP f s a H Q I (h F S b a H Q e q)⟩
theorem Ok.bindB{K:ay}{E:XK}{b:St}{F q:af->Prop}{S m:Nat->af->Prop}{H o:Hp}{i f:Type}{D:f->aj->(af->Prop)->(Nat->af->Prop)->Hp->Prop}{r:R i}{k:i->aj->R f}(h:Ok K E b F S H (r.bind k) D)(g:Grow (U S) (U m) F q H o):Ok K E b q m o r (λa d _ _ _=>Ok K E b F S H (k a d) D):=by
 cases r with
 |no=>exact h
 |er c e=>exact λx s n p j l=>h x s n p j (g.trans l)
 |ok a e=>exact λs n p j l=>h
section
variable{X:Cx}{E:XK}{c:eF}{x:Str}{N':List Str}{cap:List Nat}
theorem Grow.stay{O a F d:af->Prop}{H b:Hp}(g:Grow O a F d H b){l:af}{o:HO}(e:H l=aa o)(n:¬O l)(f:¬F l):b l=aa o/\¬d l/\¬a l :=
 ⟨g.keep l o e n,λz=>(g.fnew l z).elim f λw=>w.elim (λq=>by rw[e]at q;cases q) n,λz=>(g.onew l z).elim n λq=>by rw[e]at q;cases q⟩
theorem aJ.lay{K:ay}{F:af->Prop}{S:Nat->af->Prop}{i:aj}{h:St}{H:Hp}{l:af}{o o':HO}(r:aJ K F S i h H)(A:H l=aa o)(no:eV o)(y:¬F l)(m:¬U S l):Grow (λb=>U S b\/b=l) (U S) F F H (L2.upd H l o')/\Fit (λb=>U S b\/b=l) F H/\aJ K F S i h (L2.upd H l o'):=by
 have f:Grow (λb=>U S b\/b=l) (U S) F F H (L2.upd H l o'):=⟨λ_ z=>z,λb o e n=>by rw[bf λz=>n (.inr z)];exact e,λb o e=>by
  by_cases p:b=l
  .subst p;exact⟨_,upd_same⟩
  .exact⟨o,by rw[bf p];exact e⟩,λ_ z=>.inl z,λ_ z=>.inl (.inl z)⟩
 have g:Fit (λb=>U S b\/b=l) F H:=λb z=>by
  rcases z with z|rfl
  .exact r.fit b z
  .exact⟨y,_,A,no⟩
 refine⟨f,g,r.len,λb z=>let ⟨o,q⟩:=r.ex b z;f.there b o q,λj pv e=>?_,λj v e=>?_,λj b z=>?_,r.dist⟩
 .obtain⟨w,d,a⟩:=r.val j pv e;exact⟨w,d,a.grow f g⟩
 .obtain⟨w,d,a⟩:=r.own j v e;refine⟨w,d,a.mono (λ_ _ q=>q.grow f g) (λ_ _ q=>q.grow f g) λb o z q=>?_⟩;rw[bf (by rintro rfl;exact m ⟨j,z⟩)];exact q
 .obtain⟨d,a,o,u,s⟩:=r.foot j b z;exact⟨d,a,o,by rw[bf (by rintro rfl;exact m ⟨j,z⟩)];exact u,s⟩
theorem Grow.lay{O d F h:af->Prop}{H f:Hp}{l:af}{o':HO}(g:Grow O d F h H f)(a:H l=ae):Grow O d F h H (L2.upd f l o'):=by
 refine⟨g.fro,λb o e n=>?_,λb o e=>?_,g.fnew,g.onew⟩
 .rw[bf (by rintro rfl;rw[a]at e;cases e)];exact g.keep b o e n
 .obtain⟨i,q⟩:=g.there b o e;exact⟨i,by rw[bf (by rintro rfl;rw[a]at e;cases e)];exact q⟩
theorem FO{elt B:aA}{px:Pos}{ifs:List aA}{di:aj->R (List PV)}{dt:aj->R Bool}{de:aj->R PV}(hi:DI X E (.Name x px) B di)(ht:∀C d f r p,DF (bu X c N' C d f r p) E0 ifs dt) (he:∀C d f r p,DE (bu X c N' C d f r p) E0 elt de){F:af->Prop}{S:Nat->af->Prop}{ε:aj}{j:St}{H:Hp}{Q:VK} (rl:aJ X.K F S ε j H) (h:Ok X.K E j F S H (bO cap di dt de ε) (λpo _ s M g=>∀a Sa,ff X.K g s po a Sa->(∀b,Sa b->H b=ae/\¬s b/\¬U M b/\∃o,g b=aa o/\eV o)->Q (.ref a) g)):y4 (lv X (.Name x px) B) (λj H Q=>∀C d f r p,mR (bu X c N' C d f r p) ifs j H Q) (λj H Q=>∀C d f r p,gh (bu X c N' C d f r p) elt j H Q) cap j H Q:=by
 refine hi F S ε j H _ rl ((Ok.bind h).imp λA ε1 O S1 H1 r1 g1 h1 J vs RR rs hz hw keep l hl=>?_);have h1:=h1.bind;have hvl:vs.length=A.length:=rs.len;have a0:Al O O H1 (upd H1 l (.lst [])):=Al.new0 hl;have nF1:¬O l:=λz=>by obtain⟨o,q⟩:=r1.ex l z;rw[hl]at q;cases q
 have nS1:¬U S1 l:=λζ=>by obtain⟨i,z⟩:=ζ;obtain⟨_,_,o,q,_⟩:=r1.foot i l z;rw[hl]at q;cases q
 have hH:H l=ae:=pA g1 hl;refine⟨λi m G g=>m=A.length-i/\i<=A.length/\∃s M Z T,aJ X.K s M Z j g/\Grow (U S1) (U M) O s H1 g/\g l=aa (.lst G)/\¬s l/\¬U M l/\aR X.K g s T G/\G.length<=i /\ Ok X.K E j O S1 H1 (iy cap dt de (A.drop i) T Z) (λys' w W S2 N=>Ok X.K E j W S2 N (R.ok (PO.lst ys') w) (λpo _ s M g=>∀a Sa,ff X.K g s po a Sa->(∀b,Sa b->H b=ae/\¬s b/\¬U M b/\∃o,g b=aa o/\eV o)->Q (.ref a) g)),⟨_,rfl,jO _,O,S1,ε1,[],r1.al a0,a0.grow,upd_same,nF1,nS1,rfl,aZ _,h1⟩,?_⟩;rintro i m G N ⟨rfl,hi,W,S2,w,T,P,L,el,nF2,nS2,n,hyl,q2⟩;have RH:=keep S2 W N L;by_cases a8:i<A.length
 .obtain⟨v,hv⟩:∃v,vs[i]?=aa v:=⟨_,dP ∅⟩
  obtain⟨go,yl⟩:=(hw N RH i).1 v hv;refine .inr ⟨go,λv' g y=>⟨[aa v'],rfl,rfl,?_⟩⟩;obtain⟨e1,e2⟩:=yl v' g y;subst e1 e2;obtain⟨px',hx,rx⟩:=rs.back hv;have ed:A.drop i=px'::A.drop (i+1):=by rw[qx a8];congr 1;exact(cA.mp hx).2
  rw[ed]at q2;have rx2:=rx.grow L r1.fit;have q3:=Ok.bindB q2 L;obtain⟨Sb,ss,rb,okb⟩:=Es P rx2 q3;intro C d f r p;refine ht C d f r p W Sb ss _ g _ rb (okb.imp λb _ F3 _ H3 _ _ ζ=>?_);obtain⟨Y,S3,r3,K,q4⟩:=ζ;obtain⟨el3,nF3,nS3⟩:=K.stay el nS2 nF2;cases b with
  |false=>exact mK ⟨_,∅,rfl,a8,F3,S3,Y,T,r3,L.trans K,el3,nF3,nS3,n.grow K P.fit,∅,q4⟩
  |true=>refine mT ?_;have q5:Ok X.K E j O S1 H1 ((bC (bX cap de px' Y)).bind λy w=>iy cap dt de (A.drop (i+1)) (T++[y]) w) _:=q4;obtain⟨Sc,sc,rc,okc⟩:=Es r3 (rx2.grow K P.fit) (Ok.bindB q5 (L.trans K));intro C d f r p;refine he C d f r p F3 Sc sc _ H3 _ rc (okc.imp λy _ F4 _ H4 _ _ ⟨ε4,S4,r4,g4,q6⟩ u ru=>?_);obtain⟨el4,nF4,nS4⟩:=g4.stay el3 nS3 nF3;have I:=(n.grow K P.fit).grow g4 r3.fit;obtain⟨gl,D,r5⟩:=r4.lay (o':=.lst (G++[u])) el4 trivial nF4 nS4;have g5:=((L.trans K).trans g4).lay (o':=.lst (G++[u])) hl;refine⟨el4,?_,_,∅,rfl,a8,F4,S4,ε4,T++[y],r5,g5,upd_same,nF4,nS4,(I.grow gl D).app (.one (ru.grow gl D)),by simp;lia,q6⟩;lia
 .have e:i=A.length:=∅
  subst e;refine .inl ⟨(hw N RH _).2 hvl.symm,?_⟩;rw[zu]at q2;exact q2 W S2 N P L W S2 N P (Grow.refl ..) l (λb=>b=l) ⟨⟨G,el,n⟩,λb=>kU⟩ λb z=>by subst z;exact⟨hH,nF2,nS2,_,el,trivial⟩
theorem iN{i d:aA}{l pos:Pos}{g:List aA}{n:aj->R (List PV)}{dt:aj->R Bool}{de:aj->R PV}(B:iQ X c x N' cap)(v:X.calm=ah)(r:DI X E (.Name x l) d n)(p:∀C a b f e,DF (bu X c N' C a b f e) E0 g dt) (u:∀C a b f e,DE (bu X c N' C a b f e) E0 i de) (q:∀x,lz d X.env x=pure x:=by intro _;rfl):DN X E (.ListComp i [⟨.Name x l,d,g,0⟩] c pos) (bO cap n dt de):=λF S w j H Q o h=>cn (NO (wi:=lv X (.Name x l) d) (ts:=λj H Q=>∀C a b f e,mR (bu X c N' C a b f e) g j H Q) (te:=λj H Q=>∀C a b f e,gh (bu X c N' C a b f e) i j H Q) (pos:=pos) B v vJ (λC a b f e m s j H Q I h=>(h C a b f e).run m s I) (λC a b f e m s j H Q I h=>(h C a b f e).run m s I) q) (FO r p u o h)
end
theorem LK(x y:Tx):tS x++tS y=tS (x++y):=by
 show(⟨x.toArray++y.toArray⟩:Str)=⟨(x++y).toArray⟩
 simp
def ba:PV->PV->Option PV
 |.int i,.int j=>aa (.int (i+j))
 |.str x,.str y=>if(x++y).length<=bv then aa (.str (x++y))else ae
 |.tup b,.tup a=>if b≠[]/\a≠[]/\b.length+a.length<=1000 then aa (.tup (b++a))else ae
 |.lst b,.lst a=>if b.length+a.length<=bv then aa (.lst (b++a))else ae
 |_,_=>ae
def lm:PV->PV->Option PV
 |.int i,.int j=>aa (.int (i-j))
 |_,_=>ae
def vB(i:Int):Bool:=decide (-(2^64)<i/\i<2^64)
def ln:PV->PV->Option PV
 |.int i,.int j=>if vB i||vB j then aa (.int (i*j))else ae
 |.str x,.int j=>if 0<=j/\j<=100/\x.length<=100 then aa (.str (dO j.toNat x).flatten)else ae
 |_,_=>ae
def gD:PV->PV->Option PV
 |.int i,.int j=>if 0<j then aa (.int (i % j))else ae
 |_,_=>ae
def uP:PV->PV->Option PV
 |.int i,.int j=>if 0<=j/\j<=1000000/\i.natAbs<2^64 then aa (.int (i^j.toNat))else ae
 |_,_=>ae
def iw:PV->Option PV
 |.int i=>aa (.int (-i))
 |_=>ae
def Gk:R2:=λx y H Q=>∃l b c a,x=.ref l/\y=.ref b/\Rd H l (.lst c)/\Rd H b (.lst a)/\c.length+a.length<=bg/\∀p,H p=ae->Q (.ref p) (upd H p (.lst (c++a)))
def xQ(K:ay):R2:=λx y H Q=>((lX λi j=>V.int (i+j)) x y H Q\/∃i j,x=.str i/\y=.str j/\i.length+j.length<=bg/\Q (.str (i++j)) H)\/(E7 K x y H Q\/Gk x y H Q)
def Gz:R2:=λx y H Q=>rI Bl (λi j=>.int (i*j)) x y H Q\/∃(z:Tx) (n:Nat),x=tV z/\y=.int n/\n<=100/\z.length<=100/\Q (tV (dO n z).flatten) H
section
variable{X:Cx}{K:ay}
theorem xq:P2 K (lX λi j=>.int (i-j)) lm:=λF H x y v u Q pv b a e q=>by
 unfold lm at e;split at e
 .cases e;exact⟨_,_,b,a,q _ F H (Al.refl ..) rfl⟩
 .cases e
theorem sQ:P2 K (rI (λ_ j=>0<j) λi j=>.int (i % j)) gD:=λF H x y v u Q pv b a e q=>by
 unfold gD at e;split at e
 .split at e
  .cases e;exact⟨_,_,b,a,by assumption,q _ F H (Al.refl ..) rfl⟩
  .cases e
 .cases e
theorem SI:P2 K (rI Fl λi j=>.int (i^j.toNat)) uP:=λF H x y v u Q pv b a e q=>by
 unfold uP at e;split at e
 .split at e
  .cases e;exact⟨_,_,b,a,by assumption,q _ F H (Al.refl ..) rfl⟩
  .cases e
 .cases e
theorem sJ:P1 K (rU λi=>.int (-i)) iw:=λF H x v Q pv a e q=>by
 unfold iw at e;split at e
 .cases e;exact⟨_,a,q _ F H (Al.refl ..) rfl⟩
 .cases e
theorem BD{d:List (af×Obj)}{c:St}{H:Hp}{s:ao}{l:af}{b:List V}(I:Inv X d c H s)(h:Rd H l (.lst b)):∃(a:List ai) (n:Nat),bA b a/\s.heap.get? l=aa {cls:=.type "list",data:=.seq a.toArray n}/\b.length<=bg:=by obtain⟨z,a,n,r,e⟩:=h.ok I.hok;exact⟨a,n,r,e,z⟩
theorem Ms:b8 X (i_ .Add) Gk:=by
 intro D s p H x y v u Q I i g h;obtain⟨l,b,z,w,rfl,rfl,f,j,C,q⟩:=h;cases i;cases g;obtain⟨c,n,r,e,_⟩:=BD I f;obtain⟨a,A,d,o,_⟩:=BD I j;have f:=r.length;have B:=d.length;refine PySem.P.add_list e o ?_ (by rw[cX,cX];lia);have m:c.toArray++a.toArray=(c++a).toArray:=by simp
 rw[m];exact⟨.ref _,_,I.lnew (t':=s.toks) (r.append d) (by rw[eY];lia),rfl,q _ I.fresh⟩
theorem fN:b8 X (i_ .Add) (xQ X.K):=(TD.or Mh).or (Tt.or Ms)
theorem fK:P2 K (xQ K) ba:=λF H x y v u Q pv l j e q=>by
 unfold ba at e;split at e
 .cases e;exact .inl (.inl ⟨_,_,l,j,q _ F H (Al.refl ..) rfl⟩)
 .rename_i x y;split at e
  .rename_i c;cases e;refine .inl (.inr ⟨_,_,l.1,j.1,?_,?_⟩)
   .rw[kt,kt];rw[eY]at c;exact c0 c kw
   .exact q _ F H (Al.refl ..) ⟨by rw[LK];rfl,c⟩
  .cases e
 .rename_i w s;split at e
  .rename_i c;cases e;obtain⟨a,n,rfl,r,f⟩:=l;obtain⟨b,m,rfl,o,d⟩:=j;have h:=f.len;have g:=d.len;refine .inr (.inl ⟨a,b,n,m,rfl,rfl,cp.of r,cp.of o,λz=>c.1 (by rw[z]at h;exact tt h.symm),by rw[h,g];exact AJ c.2.2,λz=>absurd (by rw[z]at g;exact tt g.symm) c.2.1,λ_ p i=>?_⟩);exact q _ F _ (Al.new0 i) ⟨p,_,rfl,upd_same,(Al.new0 i).reps (f.app d)⟩
  .cases e
 .rename_i w s;split at e
  .rename_i c;cases e;obtain⟨a,n,rfl,r,B,f⟩:=l;obtain⟨b,m,rfl,o,A,d⟩:=j;have h:=f.len;have g:=d.len;refine .inr (.inr ⟨a,b,n,m,rfl,rfl,r,o,by rw[h,g];exact c0 c kw,λp i=>?_⟩);exact q _ _ _ (Al.new i) ⟨p,_,rfl,.inl upd_same,.inr rfl,(Al.new i).reps (f.app d)⟩
  .cases e
 .cases e
theorem AV:b8 X (i_ .Mult) Gz:=Tn.or Pa
theorem AA:P2 K Gz ln:=λF H x y v u Q pv b a e q=>by
 unfold ln at e;split at e
 .rename_i i j;split at e
  .rename_i h;cases e;refine .inl ⟨_,_,b,a,?_,q _ F H (Al.refl ..) rfl⟩;rw[CD]at h;exact h.imp of_decide_eq_true of_decide_eq_true
  .cases e
 .rename_i x j;split at e
  .rename_i h;cases e;refine .inr ⟨x,j.toNat,b.1,?_,∅,h.2.2,q _ F H (Al.refl ..) ⟨rfl,?_⟩⟩
   .rw[show u=V.int j from a];congr 1;lia
   .rw[Oc];have c:j.toNat<=100:=∅
    exact c0 (CI c h.2.2) (by decide)
  .cases e
 .cases e
def dI(f:Int->Int->Bool):PV->PV->Option PV
 |.int i,.int j=>aa (.bl (f i j))
 |_,_=>ae
theorem ka{f:Int->Int->Bool}:P2 K (lX λi j=>.bl (f i j)) (dI f):=λF H x y v u Q pv b a e q=>by
 unfold dI at e;split at e
 .cases e;exact⟨_,_,b,a,q _ F H (Al.refl ..) rfl⟩
 .cases e
def dS:PV->Option V
 |.non=>aa .non
 |.bl b=>aa (.bl b)
 |.int i=>aa (.int i)
 |.str x=>aa (tV x)
 |_=>ae
theorem kr{H:Hp}{F:af->Prop}{x:PV}{v w:V}(r:aL K H F x v)(e:dS x=aa w):v=w:=by
 cases x <;> simp[dS]at e <;> subst e
 .exact r
 .exact r
 .exact r
 .exact r.1
theorem w_{x:PV}{w:V}(e:dS x=aa w):iT w=ah:=by
 cases x <;> simp[dS]at e <;> subst e <;> rfl
mutual
def cF:PV->PV->Option Bool
 |.tup c,y=>match y with
  |.tup a=>dW c a
  |_=>ae
 |.lst c,y=>match y with
  |.lst a=>dW c a
  |_=>ae
 |.non,y=>(dS y).map (fL .non)
 |.bl b,y=>(dS y).map (fL (.bl b))
 |.int i,y=>(dS y).map (fL (.int i))
 |.str x,y=>(dS y).map (fL (tV x))
 |.raw _,_=>ae
 |.exc _,_=>ae
def dW:List PV->List PV->Option Bool
 |[],c=>aa c.isEmpty
 |x::d,c=>match c with
  |[]=>aa ak
  |y::c=>(cF x y).bind λa=>(dW d c).map λb=>a&&b
end
mutual
def eX:PV->Nat
 |.tup a=>c_ a+1
 |.lst a=>c_ a+1
 |_=>0
def c_:List PV->Nat
 |[]=>0
 |x::a=>max (eX x) (c_ a)
end
theorem Ca{H:Hp}{d a:Nat}{x y:V}{k:Bool}(h:gX K H d x y k)(j:d<=a):gX K H a x y k:=λX f g b s u v A I e c i=>h X f g b s u v A I e c ∅
theorem yj{H:Hp}{F:af->Prop}{w:V}{y:PV}{u:V}{k:Bool}{d:Nat}(b:iT w=ah)(e:(dS y).map (fL w)=aa k)(a:aL K H F y u):gX K H d w u k:=by
 cases q:dS y with
 |none=>rw[q]at e;cases e
 |some z=>
  rw[q]at e;cases e;rw[kr a q];exact Lf b (w_ q)
theorem KM{H:Hp}{a:af}{c b:List V}(h:Rd H a (.lst c))(g:Rd H a (.lst b)):c=b:=by
 rcases h with h|⟨o,h⟩ <;> rcases g with g|⟨d,g⟩ <;> rw[h]at g <;> cases g <;> rfl
theorem Ss{a:Bool}{e:Nat->Bool}{n m:Nat}:gn (λj=>if j=0 then a else e (j-1)) (n+1) (m+1)=(a&&gn e n m):=by
 unfold gn;rw[show min (n+1) (m+1)=min n m+1 by lia,IS,qt,tm,if_pos rfl,Bool.and_assoc];congr 1;congr 1
 .simp
mutual
theorem AG{H:Hp}{F:af->Prop}:∀(x y:PV) {v:V}{k:Bool},cF x y=aa k->aL K H F x v->aL K H F y v->k=ah
 |.tup h,y,v,k,e,d,c=>by
  unfold cF at e;split at e
  .obtain⟨a,n,rfl,j,f⟩:=d;obtain⟨b,m,l,g,i⟩:=c;cases l;rw[j]at g;cases g;exact Bu h _ e f i
  .cases e
 |.lst h,y,v,k,e,d,c=>by
  unfold cF at e;split at e
  .obtain⟨a,n,rfl,j,_,f⟩:=d;obtain⟨b,m,l,g,_,i⟩:=c;cases l;rw[KM j g]at f;exact Bu h _ e f i
  .cases e
 |.non,y,v,k,e,d,c=>by
  unfold cF at e;cases q:dS y with
  |none=>rw[q]at e;cases e
  |some z=>rw[q]at e;cases e;rw[<-kr c q,show v=V.non from d];rfl
 |.bl b,y,v,k,e,d,c=>by
  unfold cF at e;cases q:dS y with
  |none=>rw[q]at e;cases e
  |some z=>rw[q]at e;cases e;rw[<-kr c q,show v=V.bl b from d];exact beq_self_eq_true b
 |.int b,y,v,k,e,d,c=>by
  unfold cF at e;cases q:dS y with
  |none=>rw[q]at e;cases e
  |some z=>rw[q]at e;cases e;rw[<-kr c q,show v=V.int b from d];exact beq_self_eq_true b
 |.str b,y,v,k,e,d,c=>by
  unfold cF at e;cases q:dS y with
  |none=>rw[q]at e;cases e
  |some z=>rw[q]at e;cases e;rw[<-kr c q,show v=tV b from d.1];exact beq_self_eq_true (tS b)
 |.raw _,_,_,_,e,_,_=>by unfold cF at e;cases e
 |.exc _,_,_,_,e,_,_=>by unfold cF at e;cases e
theorem Bu{H:Hp}{F:af->Prop}:∀(d c:List PV) {f:List V}{k:Bool},dW d c=aa k->aR K H F d f->aR K H F c f->k=ah
 |[],c,f,k,e,i,g=>by
  unfold dW at e;rw[show f=[] from i]at g;have:=g.len;cases c with
  |nil=>cases e;rfl
  |cons=>simp at this
 |x::d,c,f,k,e,i,g=>by
  unfold dW at e;obtain⟨v,r,rfl,m,l⟩:=i;cases c with
  |nil=>have:=g.len;simp at this
  |cons y c=>
   obtain⟨q,s,p,o,n⟩:=g;cases p;simp only at e;cases h:cF x y with
   |none=>rw[h]at e;cases e
   |some a=>
    cases j:dW d c with
    |none=>rw[h,j]at e;cases e
    |some b=>
     rw[h,j]at e;cases e;rw[AG x y h m o,Bu d c j l n];rfl
end
mutual
theorem Iq{H:Hp}{F:af->Prop}:∀(x y:PV) {v u:V}{k:Bool},cF x y=aa k->aL K H F x v->aL K H F y u->gX K H (eX x) v u k
 |.tup i,y,v,u,k,e,d,c=>by
  have p:=e;unfold cF at e;split at e
  .rename_i h;obtain⟨a,r,rfl,o,l⟩:=id d;obtain⟨b,q,rfl,n,j⟩:=id c;by_cases g:a=b
   .subst g;rw[AG _ _ p d c];exact Eo
   .obtain⟨f,m,rfl⟩:=u_ i h e l j;unfold eX;exact LX (cp.of o) (cp.of n) g m
  .cases e
 |.lst i,y,v,u,k,e,d,c=>by
  have p:=e;unfold cF at e;split at e
  .rename_i h;obtain⟨a,r,rfl,o,_,l⟩:=id d;obtain⟨b,q,rfl,n,_,j⟩:=id c;by_cases g:a=b
   .subst g;rw[AG _ _ p d c];exact Eo
   .obtain⟨f,m,rfl⟩:=u_ i h e l j;unfold eX;exact J3 (.inl o) (.inl n) g m
  .cases e
 |.non,y,v,u,k,e,d,c=>by unfold cF at e;rw[show v=V.non from d];exact yj rfl e c
 |.bl b,y,v,u,k,e,d,c=>by unfold cF at e;rw[show v=V.bl b from d];exact yj rfl e c
 |.int b,y,v,u,k,e,d,c=>by unfold cF at e;rw[show v=V.int b from d];exact yj rfl e c
 |.str b,y,v,u,k,e,d,c=>by unfold cF at e;rw[show v=tV b from d.1];exact yj rfl e c
 |.raw _,_,_,_,_,e,_,_=>by unfold cF at e;cases e
 |.exc _,_,_,_,_,e,_,_=>by unfold cF at e;cases e
theorem u_{H:Hp}{F:af->Prop}:∀(d c:List PV) {g i:List V}{k:Bool},dW d c=aa k->aR K H F d g->aR K H F c i -> ∃f:Nat->Bool,(∀(j:Nat) x y,g[j]?=aa x->i[j]?=aa y->gX K H (c_ d) x y (f j))/\k=gn f g.length i.length
 |[],c,g,i,k,e,n,l=>by
  unfold dW at e;rw[show g=[] from n];refine⟨λ_=>ah,λj x y h=>by simp at h,?_⟩;have:=l.len;cases e;unfold gn;cases c with
  |nil=>simp at this;simp[this]
  |cons=>rw[this];simp
 |x::d,c,g,i,k,e,n,l=>by
  unfold dW at e;obtain⟨v,r,rfl,B,A⟩:=n;cases c with
  |nil=>
   cases e;rw[show i=[] from l];exact⟨λ_=>ah,λj x y _ h=>by simp at h,by simp[gn]⟩
  |cons y c=>
   obtain⟨u,E,rfl,D,C⟩:=l;simp only at e;cases m:cF x y with
   |none=>rw[m]at e;cases e
   |some a=>
    cases o:dW d c with
    |none=>rw[m,o]at e;cases e
    |some b=>
     rw[m,o]at e;cases e;obtain⟨f,z,rfl⟩:=u_ d c o A C;refine⟨λj=>if j=0 then a else f (j-1),λj p q w s=>?_,by rw[d8,d8,Ss]⟩;cases j with
     |zero=>simp at w s;subst w s;show gX K H _ _ _ (if(0:Nat)=0 then a else f (0-1));rw[if_pos rfl];exact Ca (Iq x y m B D) (by unfold c_;exact Nat.le_max_left _ _)
     |succ j=>show gX K H _ _ _ (if j+1=0 then a else f (j+1-1));rw[if_neg ∅];exact Ca (z j p q (by simpa using w) (by simpa using s)) (show c_ d<=max (eX x) (c_ d)from Nat.le_max_right _ _)
end
def eqT(neg:Bool)(x y:PV):Option PV:=match dS x,dS y with
 |some v,aa u=>if pZ v u then aa (.bl (neg^^decide (v=u)))else ae
 |none,ae=>if eX x<=8 then(cF x y).map λk=>.bl (neg^^k)else ae
 |_,_=>ae
def Hl(K:ay):R2:=λx y H Q=>Gq x y H Q\/uF K ak x y H Q
def El(K:ay):R2:=λx y H Q=>Fu x y H Q\/uF K ah x y H Q
theorem oz(a:X.A.units+64<cLine):b8 X (dZ .Eq) (Hl X.K):=Tw.or (Ko a)
theorem rD(a:X.A.units+64<cLine):b8 X (dZ .NotEq) (El X.K):=TR.or (PN a)
theorem Hm{H:Hp}{F:af->Prop}{x y:PV}{v u:V}{k:Bool}{Q:VK}{neg:Bool}(h:dS x=ae)(e:cF x y=aa k)(B:eX x<=8)(A:aL K H F x v)(w:aL K H F y u)(q:Q (.bl (neg^^k)) H):uF K neg v u H Q:=by
 have d:∀{g:Bool},k=g->Q (.bl (if neg=ah then !g else g)) H:=λ{g} z=>by subst z;cases neg <;> simpa using q
 cases x with
 |tup c=>
  unfold cF at e;split at e
  .rename_i i;obtain⟨a,l,rfl,r,n⟩:=A;obtain⟨b,j,rfl,p,m⟩:=w;obtain⟨f,o,s⟩:=u_ c i e n m;unfold eX at B;exact⟨a,b,l,j,c_ c,f,rfl,rfl,.inr ⟨cp.of r,cp.of p⟩,∅,o,d s⟩
  .cases e
 |lst c=>
  unfold cF at e;split at e
  .rename_i i;obtain⟨a,l,rfl,r,_,n⟩:=A;obtain⟨b,j,rfl,p,_,m⟩:=w;obtain⟨f,o,s⟩:=u_ c i e n m;unfold eX at B;exact⟨a,b,l,j,c_ c,f,rfl,rfl,.inl ⟨.inl r,.inl p⟩,∅,o,d s⟩
  .cases e
 |raw _=>unfold cF at e;cases e
 |exc _=>unfold cF at e;cases e
 |non=>cases h
 |bl _=>cases h
 |int _=>cases h
 |str _=>cases h
theorem n8:P2 K (Hl K) (eqT ak):=λF H x y v u Q pv g f e q=>by
 unfold eqT at e;split at e
 .rename_i a b d h;split at e
  .rename_i i;cases e;rw[kr g d,kr f h];refine .inl ⟨i,?_⟩;have:=q (.bl (decide (a=b))) F H (Al.refl ..) (by simp[aL]);exact this
  .cases e
 .rename_i d h;split at e
  .rename_i j;cases c:cF x y with
   |none=>rw[c]at e;cases e
   |some k=>
    rw[c]at e;cases e;exact .inr (Hm (neg:=ak) d c j g f (q _ F H (Al.refl ..) rfl))
  .cases e
 .cases e
theorem sj:P2 K (El K) (eqT ah):=λF H x y v u Q pv g f e q=>by
 unfold eqT at e;split at e
 .rename_i a b d h;split at e
  .rename_i i;cases e;rw[kr g d,kr f h];refine .inl ⟨i,?_⟩;have:=q (.bl (!decide (a=b))) F H (Al.refl ..) (by simp[aL]);exact this
  .cases e
 .rename_i d h;split at e
  .rename_i j;cases c:cF x y with
   |none=>rw[c]at e;cases e
   |some k=>
    rw[c]at e;cases e;exact .inr (Hm (neg:=ah) d c j g f (q _ F H (Al.refl ..) rfl))
  .cases e
 .cases e
end
end Pu
namespace Pu
open L2
section
variable{X:Cx}{K:ay}
def w6(i j:Tx):Bool:=!(Iz (tS j) (tS i) 0 (tS j).length 1).isEmpty
def j_:List PV->Option (List V)
 |[]=>aa []
 |x::a=>(dS x).bind λv=>(j_ a).map λr=>v::r
theorem z_{H:Hp}{F:af->Prop}:∀{a:List PV}{d b:List V},aR K H F a d->j_ a=aa b->d=b/\b.all iT=ah
 |[],_,_,r,e=>by cases e;exact⟨r,rfl⟩
 |x::a,_,b,⟨v,r,rfl,g,f⟩,e=>by
  unfold j_ at e;cases q:dS x with
  |none=>rw[q]at e;cases e
  |some w=>
   cases c:j_ a with
   |none=>rw[q,c]at e;cases e
   |some j=>
    rw[q,c]at e;cases e;obtain⟨i,h⟩:=z_ f c;exact⟨by rw[kr g q,i],by rw[qt,w_ q,h];rfl⟩
def rA(neg:Bool):PV->PV->Option PV
 |.str x,.str y=>aa (.bl (neg^^w6 x y))
 |x,.lst a=>(dS x).bind λv=>(j_ a).map λb=>.bl (neg^^uS v b)
 |x,.tup a=>(dS x).bind λv=>(j_ a).map λb=>.bl (neg^^uS v b)
 |_,_=>ae
def HK(K:ay):R2:=λx y H Q=>(∃i j,x=.str i/\y=.str j/\Q (.bl (!(Iz j i 0 j.length 1).isEmpty)) H)\/AU K ak x y H Q
theorem QR:b8 X (dZ .In) (HK X.K):=Tr.or Q1
theorem E8{H:Hp}{F:af->Prop}{x:PV}{c:List PV}{v:V}{p:af}{b:List V}{Q:VK}{neg:Bool}{pv:PV}(g:aL K H F x v)(i:cz K H p b\/cp K H p b)(h:aR K H F c b)(e:((dS x).bind λv=>(j_ c).map λf=>PV.bl (neg^^uS v f))=aa pv) (q:∀w,aL K H F pv w->Q w H):AU K neg v (.ref p) H Q:=by
 cases a:dS x with
 |none=>rw[a]at e;cases e
 |some w=>
  cases d:j_ c with
  |none=>rw[a,d]at e;cases e
  |some f=>
   rw[a,d]at e;cases e;obtain⟨rfl,j⟩:=z_ h d;rw[kr g a];refine⟨p,b,rfl,i,w_ a,j,?_⟩;have:=q _ rfl;cases neg <;> simpa using this
theorem J_:P2 K (HK K) (rA ak):=λF H x y v u Q pv d c e q=>by
 unfold rA at e;split at e
 .cases e;exact .inl ⟨_,_,d.1,c.1,by have:=q _ F H (Al.refl ..) rfl;simpa[w6]using this⟩
 .obtain⟨a,h,rfl,g,_,f⟩:=c;exact .inr (E8 (neg:=ak) d (.inl (.inl g)) f e λw b=>q w F H (Al.refl ..) b)
 .obtain⟨a,h,rfl,g,f⟩:=c;exact .inr (E8 (neg:=ak) d (.inr (cp.of g)) f e λw b=>q w F H (Al.refl ..) b)
 .cases e
def rK(a:Bool):PV->PV->Option PV
 |x,.non=>match x with
  |.non=>aa (.bl (a^^ah))
  |.raw _=>ae
  |_=>aa (.bl (a^^ak))
 |_,_=>ae
theorem Kk{H:Hp}{F:af->Prop}{x:PV}{v:V}(r:aL K H F x v)(h:x≠.non)(c:∀w,x≠.raw w):decide (v=V.non)=ak:=by
 refine decide_eq_false λz=>?_;subst z;cases x with
 |non=>exact h rfl
 |raw w=>exact c w rfl
 |bl _=>cases r
 |int _=>cases r
 |str _=>cases r.1
 |tup _=>obtain⟨a,b,e,_⟩:=r;cases e
 |lst _=>obtain⟨a,b,e,_⟩:=r;cases e
 |exc _=>obtain⟨a,e,_⟩:=r;cases e
theorem Kb{H:Hp}{F:af->Prop}{x y:PV}{v u:V}{Q:VK}{pv:PV}{a:Bool}(c:aL K H F x v)(f:aL K H F y u)(e:rK a x y=aa pv)(q:∀w d b,Al F d H b->aL K b d pv w->Q w b):u=.non/\Q (.bl (a^^decide (v=V.non))) H:=by
 unfold rK at e;split at e
 .refine⟨f,?_⟩;split at e
  .cases e;rw[show v=V.non from c];exact q _ F H (Al.refl ..) rfl
  .cases e
  .rename_i h g;cases e;rw[Kk c (λz=>h z) (λw z=>g w z)];exact q _ F H (Al.refl ..) rfl
 .cases e
theorem QX:P2 K (λx y H Q=>y=.non/\Q (.bl (decide (x=.non))) H) (rK ak):=λF H x y v u Q pv b a e q=>by have:=Kb b a e q;simpa using this
def b7:List PV->Option PV
 |[.str x]=>aa (.int x.length)
 |[.lst a]=>aa (.int a.length)
 |[.tup a]=>aa (.int a.length)
 |_=>ae
theorem gY{H:Hp}{F:af->Prop}{x:PV}{a:List V}(r:aR K H F [x] a):∃v,a=[v]/\aL K H F x v:=by obtain⟨v,b,rfl,d,c⟩:=r;rw[show b=[] from c];exact⟨v,rfl,d⟩
theorem jr:PL K (λg H Q=>∃x n,g=[x]/\EV K x H n/\Q (.int n) H) b7:=λF H g i Q pv c e q=>by
 unfold b7 at e;split at e
 .cases e;obtain⟨v,rfl,h⟩:=gY c;rw[h.1];exact⟨_,_,rfl,⟨by rw[kt];exact c0 h.2 kw,rfl⟩,by rw[kt];exact q _ F H (Al.refl ..) rfl⟩
 .cases e;obtain⟨v,rfl,a,b,rfl,f,_,d⟩:=gY c;exact⟨_,_,rfl,.inl ⟨b,.inl f,rfl⟩,by rw[d.len];exact q _ F H (Al.refl ..) rfl⟩
 .cases e;obtain⟨v,rfl,a,b,rfl,f,d⟩:=gY c;exact⟨_,_,rfl,.inr ⟨b,cp.of f,rfl⟩,by rw[d.len];exact q _ F H (Al.refl ..) rfl⟩
 .cases e
def sd:List PV->Option PO
 |[.lst a]=>aa (.lst a)
 |[.tup a]=>aa (.lst a)
 |_=>ae
theorem Gp:lZ K (λh H Q=>∃p c,h=[.ref p]/\(cz K H p c\/cp K H p c)/\∀l,H l=ae->Q (.ref l) (upd H l (.lst c))) sd:=λF H h m Q n j i e q=>by
 unfold sd at e;split at e
 .cases e;obtain⟨v,rfl,a,d,rfl,g,_,f⟩:=gY i;exact⟨a,d,rfl,.inl (.inl g),λl b=>q l F _ _ (Al.new0 b) (uJ b f) (u5 b j trivial)⟩
 .cases e;obtain⟨v,rfl,a,d,rfl,g,f⟩:=gY i;exact⟨a,d,rfl,.inr (cp.of g),λl b=>q l F _ _ (Al.new0 b) (uJ b f) (u5 b j trivial)⟩
 .cases e
def ix:List PV->Option PV
 |[.lst a]=>aa (.tup a)
 |[.tup a]=>aa (.tup a)
 |_=>ae
theorem sF:PL K (λg H Q=>∃p d,g=[.ref p]/\((cz K H p d/\∀l,H l=ae->Q (.ref l) (upd H l (.tup d)))\/(cp K H p d/\Q (.ref p) H))) ix:=λF H g j Q pv h e q=>by
 unfold ix at e;split at e
 .cases e;obtain⟨v,rfl,a,b,rfl,c,_,f⟩:=gY h;exact⟨a,b,rfl,.inl ⟨.inl c,λl i=>q _ F _ (Al.new0 i) ⟨l,b,rfl,upd_same,(Al.new0 i).reps f⟩⟩⟩
 .cases e;obtain⟨v,rfl,a,b,rfl,c,f⟩:=gY h;exact⟨a,b,rfl,.inr ⟨cp.of c,q _ F H (Al.refl ..) ⟨a,b,rfl,c,f⟩⟩⟩
 .cases e
def gp:List PV->Option (List Tx)
 |[]=>aa []
 |.str x::a=>(gp a).map (x::·)
 |_=>ae
def am(ls:List Tx):List PV:=ls.map .str
theorem pr(a:List Tx):gp (am a)=aa a:=by
 induction a with
 |nil=>rfl
 |cons x a b=>show(gp (am a)).map (x::·)=_;rw[b];rfl
theorem xk:∀{a:List PV}{b:List Tx},gp a=aa b->a=am b
 |[],b,e=>by cases e;rfl
 |.str x::a,b,e=>by
  unfold gp at e;cases q:gp a with
  |none=>rw[q]at e;cases e
  |some r=>rw[q]at e;cases e;rw[xk q];rfl
 |.non::_,_,e=>by cases e
 |.bl _::_,_,e=>by cases e
 |.int _::_,_,e=>by cases e
 |.tup _::_,_,e=>by cases e
 |.lst _::_,_,e=>by cases e
 |.raw _::_,_,e=>by cases e
 |.exc _::_,_,e=>by cases e
theorem To{H:Hp}{F:af->Prop}:∀{a:List Tx}{b:List V},aR K H F (am a) b↔b=cN a/\∀x∈a,x.length<=bv
 |[],b=>by simp[am,aR,cN]
 |x::a,b=>by
  show(∃v r,b=v::r/\(v=tV x/\x.length<=bv)/\aR K H F (am a) r)↔_;constructor
  .rintro⟨v,r,rfl,⟨rfl,e⟩,h2⟩;obtain⟨rfl,d⟩:=To.mp h2;exact⟨rfl,λy c=>by
    rcases br.mp c with rfl|c
    .exact e
    .exact d y c⟩
  .rintro⟨rfl,h⟩;exact⟨tV x,cN a,rfl,⟨rfl,h x (by simp)⟩,To.mpr ⟨rfl,λy c=>h y (by simp[c])⟩⟩
def mE:List PV->Option (List Bool)
 |[]=>aa []
 |.bl b::a=>(mE a).map (b::·)
 |_=>ae
theorem FQ{H:Hp}{F:af->Prop}:∀{a:List PV}{c:List V}{bs:List Bool},aR K H F a c->mE a=aa bs->c=bs.map V.bl
 |[],_,_,r,e=>by cases e;exact r
 |.bl b::a,_,bs,⟨v,r,rfl,f,d⟩,e=>by
  unfold mE at e;cases q:mE a with
  |none=>rw[q]at e;cases e
  |some g=>rw[q]at e;cases e;rw[FQ d q,show v=V.bl b from f];rfl
 |.non::_,_,_,_,e=>by cases e
 |.str _::_,_,_,_,e=>by cases e
 |.int _::_,_,_,_,e=>by cases e
 |.tup _::_,_,_,_,e=>by cases e
 |.lst _::_,_,_,_,e=>by cases e
 |.raw _::_,_,_,_,e=>by cases e
 |.exc _::_,_,_,_,e=>by cases e
def sh:List PV->Option PV
 |[.lst a]=>(mE a).map λbs=>.bl (bs.all id)
 |_=>ae
theorem Cf:PL K (λc H Q=>∃(p:af) (bs:List Bool),c=[.ref p]/\cz K H p (bs.map V.bl)/\Q (.bl (bs.all id)) H) sh:=λF H c i Q pv g e q=>by
 unfold sh at e;split at e
 .rename_i f;cases b:mE f with
  |none=>rw[b]at e;cases e
  |some bs=>
   rw[b]at e;cases e;obtain⟨v,rfl,a,j,rfl,d,_,h⟩:=gY g;rw[FQ h b]at d;exact⟨a,bs,rfl,.inl d,q _ F H (Al.refl ..) rfl⟩
 .cases e
def vG:PV->Option String
 |.non=>aa "NoneType"
 |.bl _=>aa "bool"
 |.int _=>aa "int"
 |.str _=>aa "str"
 |.tup _=>aa "tuple"
 |.lst _=>aa "list"
 |_=>ae
def i7:List PV->Option PV
 |[x,.raw (.ty T)]=>(vG x).bind λt=>(jM [] (.type t) (.type T)).map λb=>.bl b
 |_=>ae
theorem rm:gg X (.builtin "isinstance") (λa H Q=>∃x t T b,a=[x,.ty T]/\jt X.K H x (.type t)/\jM X.K (.type t) (.type T)=aa b/\Q (.bl b) H):=by
 intro m s i H a j Q I r h;obtain⟨x,t,T,b,rfl,ty,e,q⟩:=h;cases r with
 |cons g f=>
  cases f with
  |cons d c=>
   cases c;cases d;exact MU I g ty e λl=>⟨.bl b,H,I.tok _,rfl,q⟩
theorem NC{H:Hp}{F:af->Prop}{x:PV}{v:V}{t:String}(r:aL K H F x v)(e:vG x=aa t):jt K H v (.type t):=by
 cases x with
 |non=>cases e;rw[show v=V.non from r];exact .non
 |bl b=>cases e;rw[show v=V.bl b from r];exact .bl b
 |int b=>cases e;rw[show v=V.int b from r];exact .int b
 |str b=>cases e;rw[show v=tV b from r.1];exact .str _
 |tup d=>cases e;obtain⟨a,f,rfl,c,_⟩:=r;exact .tup c
 |lst d=>
  cases e;obtain⟨a,f,rfl,c,_⟩:=r;rcases c with c|⟨o,c⟩
  .exact .lst c
  .exact .frz c
 |raw _=>cases e
 |exc _=>cases e
theorem rW:PL K (λd H Q=>∃x t T b,d=[x,.ty T]/\jt K H x (.type t)/\jM K (.type t) (.type T)=aa b/\Q (.bl b) H) i7:=λF H d j Q pv f e q=>by
 unfold i7 at e;split at e
 .rename_i x T;cases a:vG x with
  |none=>rw[a]at e;cases e
  |some t=>
   cases c:jM [] (.type t) (.type T)with
   |none=>rw[a,gR,c]at e;cases e
   |some b=>
    rw[a,gR,c]at e;cases e;obtain⟨v,l,rfl,i,h⟩:=f;obtain⟨u,rfl,g⟩:=gY h;rw[show u=V.ty T from g];exact⟨v,t,T,b,rfl,NC i a,c,q _ F H (Al.refl ..) rfl⟩
 .cases e
theorem rE{E:XK}{x:Str}{T:String}{f:Pos}(c:X.mg x=ae)(a:fF x=aa (.type T))(d:Gl X x:=by rfl)(b:x≠"__name__":=by decide)(e:(x==("__debug__":Str))=ak:=by decide):DE X E (.Name x f) (dC (.raw (.ty T))):=λF S h g H Q r q=>cn (Nu (v:=.ty T) d c a rfl b e) (q F S H r (Grow.refl ..) _ rfl)
def bB:PV->PV->Option PV
 |.lst a,.int i=>fV a i
 |.tup a,.int i=>fV a i
 |.str x,.int i=>(fV x i).map λc=>.str [c]
 |_,_=>ae
theorem Ex{H:Hp}{F:af->Prop}{a:List PV}{b:List V}{i:Int}{x:PV}(r:aR K H F a b)(e:fV a i=aa x):∃v,fV b i=aa v/\aL K H F x v:=by
 unfold fV at e ⊢;rw[r.len];cases q:gZ a.length i with
 |none=>rw[q]at e;cases e
 |some j=>rw[q]at e;exact r.get e
theorem fZ:P2 K (Hg K) bB:=λF H x y v u Q pv b f e q=>by
 unfold bB at e;split at e
 .rename_i n i;obtain⟨a,d,rfl,j,_,g⟩:=b;obtain⟨w,m,l⟩:=Ex g e;exact .inl ⟨a,d,i,w,rfl,f,.inl j,m,q _ F H (Al.refl ..) l⟩
 .rename_i n i;obtain⟨a,d,rfl,j,g⟩:=b;obtain⟨w,m,l⟩:=Ex g e;exact .inr (.inl ⟨a,d,i,w,rfl,f,cp.of j,m,q _ F H (Al.refl ..) l⟩)
 .rename_i x i;cases h:fV x i with
  |none=>rw[h]at e;cases e
  |some c=>
   rw[h]at e;cases e;rw[b.1];exact .inr (.inr ⟨_,i,c,rfl,f,by rw[kt];exact c0 b.2 kw,by rw[jJ];exact h,q _ F H (Al.refl ..) ⟨rfl,by show 1<=bv;decide⟩⟩)
 .cases e
def g9{b:Type}(a:List b)(c d:Option Int):List b:=(a.drop (HT.sIx a.length 0 c)).take (HT.sIx a.length a.length d-HT.sIx a.length 0 c)
theorem OM{b:Type}(a:List b)(c d:Option Int):(g9 a c d).length<=a.length:=by unfold g9;rw[nh,mo];lia
def fg:PV->Option Int->Option Int->Option PV
 |.str x,b,c=>aa (.str (g9 x b c))
 |.lst a,b,c=>aa (.lst (g9 a b c))
 |.tup a,b,c=>if HT.sIx a.length 0 b=0/\HT.sIx a.length a.length c=a.length then ae else aa (.tup (g9 a b c))
 |_,_,_=>ae
def FF(K:ay):V->Option Int->Option Int->Hp->VK->Prop:=λx a b H Q=>FV x a b H Q\/(Fy K x a b H Q\/GP K x a b H Q)
theorem lx:mM X (FF X.K):=Tl.or (Tp.or MO)
theorem ER{H:Hp}{F:af->Prop}{a:List PV}{b:List V}(r:aR K H F a b)(c d:Option Int):aR K H F (g9 a c d) (n4 b c d):=by unfold g9 n4;rw[r.len];exact(r.drop _).take _
theorem lu:F8 K (FF K) fg:=λF H x h i v Q pv b e q=>by
 unfold fg at e;split at e
 .cases e;rw[b.1];refine .inl ⟨_,rfl,by rw[kt];exact c0 b.2 kw,?_⟩;refine q _ F H (Al.refl ..) ⟨?_,c0 (OM ..) b.2⟩;unfold l3 g9;rw[kt,jJ];rfl
 .cases e;obtain⟨a,f,rfl,g,_,d⟩:=b;exact .inr (.inl ⟨a,f,rfl,.inl g,λp c=>q _ _ _ (Al.new c) ⟨p,_,rfl,.inl upd_same,.inr rfl,(Al.new c).reps (ER d h i)⟩⟩)
 .split at e
  .cases e
  .rename_i j;cases e;obtain⟨a,f,rfl,g,d⟩:=b;exact .inr (.inr ⟨a,f,rfl,cp.of g,by rw[d.len];exact j,λp c=>q _ _ _ (Al.new0 c) ⟨p,_,rfl,upd_same,(Al.new0 c).reps (ER d h i)⟩⟩)
 .cases e
variable{E:XK}{g l a b:aA}{d:aj->R PV}{m:aj->R (List PV)}{p f:Pos}
def dG:PV->Option (List PV)
 |.lst e=>aa e
 |.tup e=>aa e
 |.str x=>aa (x.map λc=>.str [c])
 |_=>ae
def aT(d:aj->R PV):aj->R (List PV):=λε=>(d ε).bind λx ε1=>aO (dG x) ε1
theorem AB{H:Hp}{F:af->Prop}:∀(x:Tx),aR K H F (x.map λc=>PV.str [c]) (x.map sg)
 |[]=>rfl
 |c::x=>⟨sg c,x.map sg,rfl,⟨rfl,by show 1<=bv;decide⟩,AB x⟩
theorem ee(he:DE X E l d):DI X E g l (aT d):=λF S ε Z H Rr rl h=>Bx.mk λag s I=>by
 have w:=he F S ε Z H (λv r=>∃B D u x,aJ X.K B D u Z r/\aL X.K r B x v/\Ok X.K E Z B D r (aO (dG x) u) (λpvs _ F' S' H'=>∀J L RR,aR X.K H' F' pvs L->L.length<=bg->Walk J L RR->(∀S'' F'' Y,Grow (U S') (U S'') F' F'' H' Y->RR Y)->Rr J H')) rl
  ((Ok.bind h).imp λx u B D r G g1 q v N=>⟨B,D,u,x,G,N,q⟩)
 refine aP (w.run ag s I) λv c ζ=>?_;obtain⟨x,r,y,rx,B,D,u,pv,G,N,q⟩:=ζ;cases pv with
 |lst xs=>
  obtain⟨a,M,rfl,C,hF,ra⟩:=N;cases rx;obtain⟨O,rr,pp,P⟩:=y.list (.inl C);refine IT pp.isList ?_;refine⟨c.heap.objs.size,[c.heap.objs.size],_,_,r,rfl,y.kept (t':=c.toks) λb o e=>bH _ e,Ox a _,⟨_,cW _ rfl,rfl,rfl⟩,λb T=>?_,q B D r G (Grow.refl ..) (Ae X.K a) M (λH=>cz X.K H a M) ra P OK λS2 F2 H2 g2=>.inl (g2.lst G.fit hF C)⟩;have e:b=c.heap.objs.size:=by simpa using T
  subst e;exact y.fpOk (aZ _) (y.hok.fresh (aZ _))
 |tup xs=>
  obtain⟨a,M,rfl,C,ra⟩:=N;cases rx;obtain⟨O,rr,pp,P⟩:=y.tuple (cp.of C);refine CQ (show c.heap.IsTuple a O.toArray from pp) ?_;refine⟨c.heap.objs.size,[c.heap.objs.size],_,_,r,rfl,y.kept (t':=c.toks) λb o e=>bH _ e,QT a _,⟨_,cW _ rfl,rfl,rfl⟩,λb T=>?_,q B D r G (Grow.refl ..) (Bp X.K a) M (λH=>cp X.K H a M) ra P Kv λS2 F2 H2 g2=>cp.of (g2.imm G.fit C id)⟩;have e:b=c.heap.objs.size:=by simpa using T
  subst e;exact y.fpOk (aZ _) (y.hok.fresh (aZ _))
 |str z=>
  obtain⟨rfl,P⟩:=N;obtain⟨t,rfl⟩:=rx;have qq:Rr (vF (tS z)) r:=q B D r G (Grow.refl ..) (vF (tS z)) (z.map sg) (λ_=>True) (AB z) (by rw[bZ];exact c0 P kw) (by have:=Pq (z:=tS z);rw[jJ]at this;exact this) λ_ _ _ _=>trivial;have W:∀(n:String) (j:Nat->aB->Prop),(∀i h,j i h->∃o n L,h.get? c.heap.objs.size=aa o/\o.cls=.type n/\o.data=.fields L /\ ["enumerate","zip","dict_itemiterator","dict_reverseitemiterator","odict_iterator","itertools.zip_longest","itertools.pairwise"].contains n=ak) ->
    (∀(A:aX) (i:Nat) (s:ao) (Q:ai->ao->Prop) (E:ai->ao->Prop),j i s.heap->Q (.ref c.heap.objs.size) s->aq (au X.prog X.w) A (nc (.ref c.heap.objs.size)) Q E s) ->
    (∀A:aX,A.handled=ae->Walks X.prog X.w A c.heap.objs.size [c.heap.objs.size] [c.heap.objs.size] (tS z).cps.size (SignAt (tS z)) j) ->
    j 0 (c.heap.push {cls:=.type n,data:=.fields #[.str (tS z) t,.int 0 0]}) ->
    xx X ag Z g Rr (.ref c.heap.objs.size) {c with heap:=c.heap.push {cls:=.type n,data:=.fields #[.str (tS z) t,.int 0 0]}}:=λn j q h2 h3 h4=>by
   refine⟨c.heap.objs.size,[c.heap.objs.size],j,vF (tS z),r,rfl,y.kept (t':=c.toks) λb o e=>bH _ e,QH q h2 h3,h4,λb T=>?_,qq⟩;have e:b=c.heap.objs.size:=by simpa using T
   subst e;exact y.fpOk (aZ _) (y.hok.fresh (aZ _))
  cases C:(tS z).cps.all (· < 128)
  .refine wpAny_pyIter_wide C (W "str_iterator" (λi h=>h.IsStrIter c.heap.objs.size "str_iterator" (tS z) t i) (λi h ⟨o,e1,e2,e3⟩=>⟨o,_,_,e1,e2,e3,by decide⟩) (λA i s Q E st h=>wpAny_pyIter_striter_wide st h) (λA' hA=>Walks.strWide hA _ (tS z) t) ⟨_,cW _ rfl,rfl,rfl⟩)
  .refine wpAny_pyIter_ascii C (W "str_ascii_iterator" (λi h=>h.IsStrIter c.heap.objs.size "str_ascii_iterator" (tS z) t i) (λi h ⟨o,e1,e2,e3⟩=>⟨o,_,_,e1,e2,e3,by decide⟩) (λA i s Q E st h=>wpAny_pyIter_striter_ascii st h) (λA' hA=>Walks.strAscii hA _ (tS z) t) ⟨_,cW _ rfl,rfl,rfl⟩)
 |non=>exact(show False from q).elim
 |bl _=>exact(show False from q).elim
 |int _=>exact(show False from q).elim
 |raw _=>exact(show False from q).elim
 |exc _=>exact(show False from q).elim
def eO(c:Int)(n:Nat):List PV:=(cG n).map λi=>PV.int (c+(i:Nat))
theorem Lc{H:Hp}{F:af->Prop}(c:Int)(n:Nat):aR K H F (eO c n) (rQ c n):=by
 unfold eO rQ
 induction (cG n)with
 |nil=>rfl
 |cons x h e=>exact⟨_,_,rfl,rfl,e⟩
def j8:List PV->Option (List PV)
 |[.int j]=>if j<=1000000/\-1000000<=j then aa (eO 0 j.toNat)else ae
 |_=>ae
theorem ux(w:X.mg "range"=ae)(y:DA X E [a] m)(x:Gl X "range":=by rfl)(u:a9 [a] X.env=[(ak,bh a X.env)]:=by rfl):DI X E g (.Call (.Name "range" p) [a] [] f) (dL j8 m):=λF S n e H J q h=>by
 refine Mo (Sl x w jK u) (y F S n e H _ q ((Ok.bind h).imp λC i B z A r I c D s=>?_));unfold j8 at c;split at c
 .rename_i j;split at c
  .rename_i G;obtain⟨v,rfl,o⟩:=gY s;refine⟨j,by rw[show v=V.int j from o],∅,∅,c B z A r (Grow.refl ..) _ _ _ (Lc 0 j.toNat) (by rw[Ar,sU];lia) M3 λ_ _ _ _=>trivial⟩
  .exact c.elim
 .exact c.elim
end
section
variable{K:ay}{F:af->Prop}{S:Nat->af->Prop}{f:aj}{l:St}{H:Hp}{i:Nat}{p m:List PV}{d:List V}{a:af}
theorem aJ.lstAt(r:aJ K F S f l H)(e:f[i]?=aa (.own (.lst p))):∃a c,l[i]?=aa (aa (.ref a))/\H a=aa (.lst c)/\aR K H F p c/\S i a/\∀b,S i b->b=a:=by obtain⟨a,o,⟨c,n,j⟩,g⟩:=r.own i _ e;exact⟨a,c,o,n,j,(g a).mpr rfl,λb h=>(g b).mp h⟩
theorem aJ.upd(r:aJ K F S f l H)(e:f[i]?=aa (.own (.lst p)))(D:l[i]?=aa (aa (.ref a)))(h:aR K H F m d):aJ K F S (f.set i (.own (.lst m))) l (upd H a (.lst d))/\Grow (U S) (U S) F F H (upd H a (.lst d)):=by
 obtain⟨N,J,E,M,L,y,B⟩:=r.lstAt e;rw[D]at E;cases E;have A:i<f.length:=(cA.mp e).1;have g:Grow (U S) (U S) F F H (L2.upd H a (.lst d)):=⟨λ_ z=>z,λb o q n=>by rw[bf (by rintro rfl;exact n ⟨i,y⟩)];exact q,λb o q=>by
  by_cases C:b=a
  .subst C;exact⟨_,upd_same⟩
  .exact⟨o,by rw[bf C];exact q⟩,λ_ z=>.inl z,λ_ z=>.inl z⟩
 refine⟨⟨by rw[gb];exact r.len,λb z=>let ⟨o,q⟩:=r.ex b z;g.there b o q,λj pv q=>?_,λj po q=>?_,λj b z=>?_,r.dist⟩,g⟩
 .have s:i≠j:=by rintro rfl;rw[dY A]at q;cases q
  rw[cS s]at q;obtain⟨v,x,u⟩:=r.val j pv q;exact⟨v,x,u.grow g r.fit⟩
 .by_cases s:i=j
  .subst s;rw[dY A]at q;cases q;exact⟨a,D,⟨d,upd_same,h.grow g r.fit⟩,λb=>⟨B b,λz=>by rw[z];exact y⟩⟩
  .rw[cS s]at q;obtain⟨c,x,u⟩:=r.own j po q;refine⟨c,x,u.mono (λ_ _ z=>z.grow g r.fit) (λ_ _ z=>z.grow g r.fit) λb o z w=>?_⟩;rw[bf (by rintro rfl;exact s (r.dist i j b y z))];exact w
 .obtain⟨⟨po,x⟩,u,o,I,G⟩:=r.foot j b z;by_cases s:i=j
  .subst s;rw[B b z];exact⟨⟨_,dY A⟩,by rw[<-B b z];exact u,_,upd_same,trivial⟩
  .exact⟨⟨po,by rw[cS s];exact x⟩,u,o,by rw[bf (by rintro rfl;exact s (r.dist i j b y z))];exact I,G⟩
end
section
variable{X:Cx}{E:XK}{pin:List Nat}{e b:aA}{de db:aj->R PV}{d:Pos}
def gB(a:aj)(i:Nat):Option (List PV):=match a[i]? with
 |some (.own (.lst c))=>aa c
 |_=>ae
theorem li{a:aj}{i:Nat}{c:List PV}(h:gB a i=aa c):a[i]?=aa (.own (.lst c)):=by
 unfold gB at h;split at h
 .cases h;assumption
 .cases h
def uY(i:Nat)(de:aj->R PV):aj->R aM:=λc=>(aO (gB c i) c).bind λ_ c=>(de c).bind λy a=>(aO (gB a i) a).bind λf a=>if f.length<bv then .ok .next (a.set i (.own (.lst (f++[y]))))else .no
theorem OD(i:Nat){x:Str}{p f c:Pos}(N:DE X E e de)(Q:X.N[i]?=aa x:=by rfl)(K:eC X.env.scope x:=by first|exact Or.inl rfl|exact Or.inr (Or.inl rfl)|exact Or.inr (Or.inr rfl))(O:(x==("__debug__":Str))=ak:=by decide)(bD:(x==("__classdict__":Str))=ak:=by decide) (Z:qu (.Name x p) "append" X.env (bh (.Name x p) X.env)=bh (.Name x p) X.env:=by rfl)(Y:((ef c (a9 [e] X.env)).all (λx=>!x.1)&&(vO c (vP [] X.env)).all (λx=>x.1.isSome)&&decide ([e].length+([]:List lB).length+(if([]:List lB).isEmpty then 0 else 1)<30))=ah:=by rfl)(W:(f.endLine == c.line)=ah:=by rfl) (z:a9 [e] X.env=(ak,bh e X.env)::a9 [] X.env:=by rfl) (T:(ef c (a9 [] X.env)).any (·.1)=ak:=by rfl)(L:ju (.Call (.Attribute (.Name x p) "append" f) [e] [] c) ae d.line X.env=pure ak:=by rfl):DS X E pin (.Expr (.Call (.Attribute (.Name x p) "append" f) [e] [] c) d) (uY i de):=λF S r o H D s h=>by
 unfold uY at h;cases n:gB r i with
 |none=>rw[n]at h;exact h.elim
 |some A=>
  rw[n]at h;simp only[bY,R.bind_ok]at h;obtain⟨a,B,m,P,_,_,_⟩:=s.lstAt (li n);refine fM (A9 (BO PySem.F.plainAttrs_list PySem.F.slot_list_append PySem.F.type_list_append Gi (fA Q K O bD) (j7 bF kA z) Z Y W z T) L) ⟨.ref a,m,.inl ⟨rfl,_,cz.of P⟩,?_⟩;refine N F S r o H _ s (h.bindE.imp λy l F1 S1 H1 w g1 q v G=>?_);cases j:gB l i with
  |none=>rw[j]at q;exact q.elim
  |some xs=>
   rw[j]at q;simp only[bY,R.bind_ok]at q;obtain⟨a',C,g,J,u,_,_⟩:=w.lstAt (li j);rw[m]at g;cases g;split at q
   .rename_i M;obtain⟨I,g2⟩:=w.upd (li j) m (u.app (.one G));exact⟨a,C,v,rfl,rfl,J,by rw[u.len];exact gK M kw,q F1 S1 o _ I g2 (jh.refl _ _)⟩
   .exact q.elim
def Oq:V->List V->Hp->VK->Prop:=λx f H Q=>∃l b c a,x=.ref l/\f=[.ref b]/\H l=aa (.lst c)/\Rd H b (.lst a)/\c.length+a.length<=bg/\Q .non (L2.upd H l (.lst (c++a)))
theorem OW:Cc X "list.extend" Oq:=by
 intro N s B H x G v J Q I j m h;obtain⟨l,b,D,C,rfl,rfl,i,w,L,q⟩:=h;cases j;obtain⟨u,rfl,o⟩:=m.one;cases o;obtain⟨z,c,n,r,M,e⟩:=I.lstM i;obtain⟨a,p,g,y,_⟩:=BD I w;have K:=g.length;have f:c.toArray.size+a.toArray.size<=bg:=by rw[cX,cX];lia
 have A:¬(!c.toArray.isEmpty&&IL (c.toArray.size+a.toArray.size))=ah:=by rw[QA f,zl];exact eG
 refine call_meets F.slot_list_extend ⟨_,e,rfl⟩ F.entry_list_extend (F.args_list_extend_2 _ _)
  (AutoSeq1.list_extend_list_list_0 l c.toArray n b a.toArray p A (by rw[cX];lia) ∅) ⟨e,y,?_⟩
 refine⟨.non,_,I.lset (its':=c++a) i e (by simp) (r.append g) ?_,rfl,q⟩;rw[eY];lia
def g8(i:Nat)(de:aj->R PV):aj->R aM:=λε=>(aO (gB ε i) ε).bind λ_ ε=>(de ε).bind λy ε1=>(aO (gB ε1 i) ε1).bind λc ε1=>match y with
 |.lst a=>if c.length+a.length<=bv then .ok .next (ε1.set i (.own (.lst (c++a))))else .no
 |_=>.no
theorem xU(i:Nat){x:Str}{p g f:Pos}(Q:DE X E e de)(Z:X.N[i]?=aa x:=by rfl)(N:eC X.env.scope x:=by first|exact Or.inl rfl|exact Or.inr (Or.inl rfl)|exact Or.inr (Or.inr rfl))(T:(x==("__debug__":Str))=ak:=by decide)(bD:(x==("__classdict__":Str))=ak:=by decide) (h1:qu (.Name x p) "extend" X.env (bh (.Name x p) X.env)=bh (.Name x p) X.env:=by rfl)(h2:((ef f (a9 [e] X.env)).all (λx=>!x.1)&&(vO f (vP [] X.env)).all (λx=>x.1.isSome)&&decide ([e].length+([]:List lB).length+(if([]:List lB).isEmpty then 0 else 1)<30))=ah:=by rfl)(h3:(g.endLine == f.line)=ah:=by rfl) (B:a9 [e] X.env=(ak,bh e X.env)::a9 [] X.env:=by rfl) (h5:(ef f (a9 [] X.env)).any (·.1)=ak:=by rfl)(O:ju (.Call (.Attribute (.Name x p) "extend" g) [e] [] f) ae d.line X.env=pure ak:=by rfl):DS X E pin (.Expr (.Call (.Attribute (.Name x p) "extend" g) [e] [] f) d) (g8 i de):=λF S s r H D u h=>by
 unfold g8 at h;cases o:gB s i with
 |none=>rw[o]at h;exact h.elim
 |some C=>
  rw[o]at h;simp only[bY,R.bind_ok]at h;obtain⟨a,G,n,Y,_,_,_⟩:=u.lstAt (li o);refine fM (A9 (BO PySem.F.plainAttrs_list PySem.F.slot_list_extend PySem.F.type_list_extend OW (fA Z N T bD) (j7 bF kA B) h1 h2 h3 B h5) O) ⟨.ref a,n,.inl ⟨rfl,_,cz.of Y⟩,?_⟩;refine Q F S s r H _ u (h.bindE.imp λy m F1 S1 H1 A g1 q v K=>?_);cases l:gB m i with
  |none=>rw[l]at q;exact q.elim
  |some xs=>
   rw[l]at q;simp only[bY,R.bind_ok]at q;obtain⟨a',I,j,M,z,_,_⟩:=A.lstAt (li l);rw[n]at j;cases j;split at q
   .rename_i ys;split at q
    .rename_i P;obtain⟨c,J,rfl,W,_,w⟩:=K;obtain⟨L,g2⟩:=A.upd (li l) n (z.app w);exact⟨a,c,I,J,rfl,rfl,M,W,by rw[z.len,w.len];exact c0 P kw,q F1 S1 r _ L g2 (jh.refl _ _)⟩
    .exact q.elim
   .exact q.elim
def yW(i:Nat)(db de:aj->R PV):aj->R aM:=λg=>(de g).bind λy c=>(aO (gB c i) c).bind λ_ c=>(db c).bind λk a=>(aO (gB a i) a).bind λf a=>match k with
 |.int k=>match gZ f.length k with
  |some j=>.ok .next (a.set i (.own (.lst (f.set j y))))
  |none=>.no
 |_=>.no
theorem Pl(i:Nat){x:Str}{p c:Pos}(Z:DE X E b db)(W:DE X E e de)(hN:X.N[i]?=aa x:=by rfl)(P:eC X.env.scope x:=by first|exact Or.inl rfl|exact Or.inr (Or.inl rfl)|exact Or.inr (Or.inr rfl))(Y:(x==("__debug__":Str))=ak:=by decide)(bD:(x==("__classdict__":Str))=ak:=by decide) (ha:∀v,mh (.Subscript (.Name x p) b c) X.env v=(do
   let ov <-kc [v] (bh (.Name x p) X.env)
   let iv <-kc [v,ov] (bh b X.env)
   standAt c
   kc [v,ov,iv] (setItem ov iv v)
   release [v,ov,iv] []):=by intro _;rfl) (Q:Ck [.Subscript (.Name x p) b c] e d.line X.env=pure ak:=by rfl) (O:Cm [.Subscript (.Name x p) b c] e X.env=pure ae:=by rfl)
  (h1:(qm [.Subscript (.Name x p) b c] X.env).map (·.2)=[mh (.Subscript (.Name x p) b c) X.env]:=by rfl):DS X E pin (.Assign [.Subscript (.Name x p) b c] e d) (yW i db de):=λF S B n H D L h=>by
 refine fM (AM bF (Dy (fA hN P Y bD) bF HI ha) Q O h1) (W F S B n H _ L (h.bindE.imp λy g F1 S1 H1 r g1 q v J=>?_));cases w:gB g i with
 |none=>rw[w]at q;exact q.elim
 |some C=>
  rw[w]at q;simp only[bY,R.bind_ok]at q;obtain⟨a,G,s,ha0,_,_,_⟩:=r.lstAt (li w);refine⟨.ref a,s,Z F1 S1 g n H1 _ r (q.bindE.imp λk o F2 S2 H2 A g2 f u K=>?_)⟩;cases m:gB o i with
  |none=>rw[m]at f;exact f.elim
  |some xs=>
   rw[m]at f;simp only[bY,R.bind_ok]at f;obtain⟨a',I,l,N,z,_,_⟩:=A.lstAt (li m);rw[s]at l;cases l;split at f
   .rename_i k;split at f
    .rename_i j T;obtain⟨M,g3⟩:=A.upd (li m) s (z.set (J.grow g2 r.fit) j);exact⟨a,I,k,j,rfl,K,N,by rw[z.len];exact T,f F2 S2 n _ M g3 (jh.refl _ _)⟩
    .exact f.elim
   .exact f.elim
end
mutual
def imm:PV->Bool
 |.lst _=>ak
 |.tup a=>mL a
 |_=>ah
def mL:List PV->Bool
 |[]=>ah
 |x::a=>imm x&&mL a
end
mutual
theorem aL.imm{K:ay}{H:Hp}{F i:af->Prop}:∀(x:PV) {v:V},imm x=ah->aL K H F x v->aL K H i x v
 |.non,_,_,h=>h
 |.bl _,_,_,h=>h
 |.int _,_,_,h=>h
 |.str _,_,_,h=>h
 |.raw _,_,_,h=>h
 |.exc _,_,_,h=>h
 |.lst _,_,e,_=>by simp[Pu.imm]at e
 |.tup b,_,e,⟨a,c,g,f,d⟩=>⟨a,c,g,f,aR.imm b (by simpa[Pu.imm]using e) d⟩
theorem aR.imm{K:ay}{H:Hp}{F i:af->Prop}:∀(a:List PV) {b:List V},mL a=ah->aR K H F a b->aR K H i a b
 |[],_,_,h=>h
 |x::a,_,e,⟨v,r,g,f,d⟩=>by
  have c:imm x=ah/\mL a=ah:=by simpa[mL]using e
  exact⟨v,r,g,aL.imm x c.1 f,aR.imm a c.2 d⟩
end
section
variable{K:ay}{F:af->Prop}{S:Nat->af->Prop}{d:aj}{c:St}{H:Hp}{i:Nat}{f:List PV}
theorem aJ.look(r:aJ K F S d c H)(e:d[i]?=aa (.own (.lst f))):∃a,c[i]?=aa (aa (.ref a))/\¬F a/\aL K H (λb=>F b\/b=a) (.lst f) (.ref a)/\(∀b,F b\/b=a->∃o,H b=aa o) /\ (∀{h g},Al (λb=>F b\/b=a) h H g->Al F (λb=>h b/\b≠a) H g):=by
 obtain⟨a,m,q,l,p,n,s⟩:=r.lstAt e;have j:¬F a:=(r.foot i a n).2.1;refine⟨a,q,j,⟨a,m,rfl,.inl l,.inr rfl,aR.mono (λ_ z=>.inl z) (λ_ _ _ z=>z) (λ_ _ z _=>z) _ _ p⟩,λb z=>z.elim (r.ex b) λz=>by rw[z];exact⟨_,l⟩,λ{h g} al=>⟨λb z=>⟨al.fro b (.inl z),by rintro rfl;exact j z⟩,al.same,λb z=>?_⟩⟩;rcases al.fnew b z.1 with(w|w)|w
 .exact .inl w
 .exact absurd w z.2
 .exact .inr w
end
section
variable{X:Cx}{E:XK}{e b:aA}{de db:aj->R PV}{d p:Pos}{x y:Str}{l T:String}{r:List V->Hp->VK->Prop}{f:List PV->Option PV}{g:List PV->Option PO}
def pD(o:Option PV):Option PV:=o.bind λv=>if imm v then aa v else ae
theorem Ka{o:Option PV}{v:PV}(h:pD o=aa v):o=aa v/\imm v=ah:=by
 cases o with
 |none=>cases h
 |some w=>
  have h:(if imm w then aa w else ae)=aa v:=h;split at h
  .cases h;exact⟨rfl,by assumption⟩
  .cases h
def G7:PO->Bool
 |.lst a=>mL a
 |_=>ak
def kC{c:Type}(f:List PV->Option c)(i:Nat):aj->R c:=λa=>(aO (gB a i) a).bind λh a=>aO (f [.lst h]) a
theorem Sj{F:af->Prop}{S:Nat->af->Prop}{n:aj}{m:St}{H:Hp}{Q:VK}{i:Nat}(C:PL X.K r f)(u:aJ X.K F S n m H)(h:Ok X.K E m F S H (kC (λc=>pD (f c)) i n) (λpv _ A _ j=>∀v,aL X.K j A pv v->Q v j)):∃a,m[i]?=aa (aa (.ref a))/\r [.ref a] H Q:=by
 unfold kC at h;cases s:gB n i with
 |none=>rw[s]at h;exact h.elim
 |some c=>
  rw[s]at h;simp only[bY,R.bind_ok]at h;obtain⟨a,G,K,B,D,z⟩:=u.look (li s);refine⟨a,G,?_⟩;cases q:pD (f [.lst c])with
  |none=>rw[q]at h;exact h.elim
  |some pv=>rw[q]at h;obtain⟨J,I⟩:=Ka q;exact C _ H [.lst c] [.ref a] Q pv (.one B) J λw A j al o=>h _ S j (u.al (z al)) (z al).grow w (aL.imm pv I o)
theorem GL(i:Nat)(B:gg X (.builtin l) r)(u:PL X.K r f)(w:X.mg x=ae)(o:fF x=aa (.builtin l))(C:X.N[i]?=aa y:=by rfl)(G:eC X.env.scope y:=by first|exact Or.inl rfl|exact Or.inr (Or.inl rfl)|exact Or.inr (Or.inr rfl))(A:(y==("__debug__":Str))=ak:=by decide) (J:(y==("__classdict__":Str))=ak:=by decide) (z:Gl X x:=by rfl) (v:x≠"__name__":=by decide) (n:(x==("__debug__":Str))=ak:=by decide) {c:Pos}(h:a9 [.Name y c] X.env=(ak,bh (.Name y c) X.env)::a9 [] X.env:=by rfl) (I:(ef d (a9 [] X.env)).any (·.1)=ak:=by rfl):DE X E (.Call (.Name x p) [.Name y c] [] d) (kC (λj=>pD (f j)) i):=λF S L K H Q m q=>by obtain⟨a,D,s⟩:=Sj u m q;exact cn (mY B z w o (j7 (fA C G A J) kA h) v n h I) ⟨_,D,s⟩
def vk(o:Option PO):Option PO:=o.bind λv=>if G7 v then aa v else ae
theorem QM{F:af->Prop}{S:Nat->af->Prop}{s:aj}{q:St}{H:Hp}{Q:VK}{i:Nat}(hp:lZ X.K r g)(A:aJ X.K F S s q H)(h:Ok X.K E q F S H (kC (λm=>vk (g m)) i s) (λB _ K S' n=>∀a u,ff X.K n K B a u->(∀b,u b->H b=ae/\¬K b/\¬U S' b/\∃o,n b=aa o/\eV o)->Q (.ref a) n)):∃a,q[i]?=aa (aa (.ref a))/\r [.ref a] H Q:=by
 unfold kC at h;cases J:gB s i with
 |none=>rw[J]at h;exact h.elim
 |some m=>
  rw[J]at h;simp only[bY,R.bind_ok]at h;obtain⟨a,ea,nF,Z,G,N⟩:=A.look (li J);refine⟨a,ea,?_⟩;cases I:g [.lst m]with
  |none=>rw[I]at h;exact h.elim
  |some B=>
   rw[I]at h;cases B with
   |dK D=>exact h.elim
   |lls cD=>exact h.elim
   |ins C fs=>exact h.elim
   |dT D=>exact h.elim
   |inl C fs y m=>exact h.elim
   |lst v=>
    have h:Ok X.K E q F S H (aO (if mL v then aa (PO.lst v)else ae) s) _:=h;split at h
    .rename_i hi;refine hp _ H [.lst m] [.ref a] Q _ G (.one Z) I λc K n u al ow fr=>h _ S n (A.al (N al)) (N al).grow c u ?_ λb z=>?_
     .obtain⟨⟨Y,o1,o2⟩,o3⟩:=ow;exact⟨⟨Y,o1,aR.imm v hi o2⟩,o3⟩
     .obtain⟨L,W,o,P,O⟩:=fr b z;refine⟨L,λw=>W w.1,λ⟨j,w⟩=>?_,o,P,O⟩;obtain⟨_,_,o',M,_⟩:=A.foot j b w;rw[L]at M;cases M
    .exact h.elim
theorem Pt(i:Nat)(B:gg X (.builtin l) r)(u:lZ X.K r g)(w:X.mg x=ae)(o:fF x=aa (.builtin l))(C:X.N[i]?=aa y:=by rfl)(G:eC X.env.scope y:=by first|exact Or.inl rfl|exact Or.inr (Or.inl rfl)|exact Or.inr (Or.inr rfl))(A:(y==("__debug__":Str))=ak:=by decide) (J:(y==("__classdict__":Str))=ak:=by decide) (z:Gl X x:=by rfl) (v:x≠"__name__":=by decide) (n:(x==("__debug__":Str))=ak:=by decide) {c:Pos}(h:a9 [.Name y c] X.env=(ak,bh (.Name y c) X.env)::a9 [] X.env:=by rfl) (I:(ef d (a9 [] X.env)).any (·.1)=ak:=by rfl):DN X E (.Call (.Name x p) [.Name y c] [] d) (kC (λj=>vk (g j)) i):=λF S L K H Q m q=>by obtain⟨a,D,s⟩:=QM u m q;exact cn (mY B z w o (j7 (fA C G A J) kA h) v n h I) ⟨_,D,s⟩
end
end Pu
namespace Pu
open L2
def pT(h:aB)(e T:af)(c g:ai):Prop:=∃a b f d,h.get? e=aa a/\a.cls=c/\(a.data=.fields b/\a.dict=ae)/\b[1]?=aa (.ref T)/\T≠e/\h.get? T=aa f/\f.data=.fields d/\d[3]?=aa g
def Made(h:aB)(e:af)(c:ai):Prop:=∃a b,h.get? e=aa a/\a.cls=c/\(a.data=.fields b/\a.dict=ae)/\b[1]?=aa .none
structure Kp(fs:List af)(X:af->Prop)(h h':aB):Prop where
 keep:∀b o,h.get? b=aa o->b∉fs->¬X b->h'.get? b=aa o
 slot:∀b o,h.get? b=aa o->b∈fs->¬X b->∃sl,h'.get? b=aa {o with slots:=sl}
 there:∀b o,h.get? b=aa o->∃o',h'.get? b=aa o'
theorem Kp.trans{fs:List af}{X Y:af->Prop}{h g f:aB}(a:Kp fs X h g)(b:Kp fs Y g f):Kp fs (λc=>X c\/Y c) h f where
 keep:=λc o e n x=>b.keep c o (a.keep c o e n λz=>x (.inl z)) n λz=>x (.inr z)
 slot:=λc o e n x=>by obtain⟨l,j⟩:=a.slot c o e n λz=>x (.inl z);obtain⟨d,i⟩:=b.slot c _ j n λz=>x (.inr z);exact⟨d,i⟩
 there:=λc o e=>let ⟨o',e'⟩:=a.there c o e;b.there c o' e'
theorem Kp.imp{fs d:List af}{X Y:af->Prop}{h j:aB}(a:Kp fs X h j)(f:∀b,b∈fs->b∈d)(g:∀b o,h.get? b=aa o->X b->Y b):Kp d Y h j where
 keep:=λc o e n x=>a.keep c o e (λz=>n (f c z)) λz=>x (g c o e z)
 slot:=λc o e n x=>by
  by_cases i:c∈fs
  .exact a.slot c o e i λz=>x (g c o e z)
  .exact⟨o.slots,a.keep c o e i λz=>x (g c o e z)⟩
 there:=a.there
theorem MT(f:Array ai->Array ai)(o:Obj):(nE f o).dict=o.dict:=by
 obtain⟨c,d,dt,a⟩:=o;cases dt <;> rfl
section
variable{M:Model}{A:aX}{E:ai->ao->Prop}{s:ao}
theorem Fd{z:aB}{l:Env}{g:List Env}{L e:af}{w:Obj}{G:Array ai}{B:ai}{SZ:Bool}{Q:Unit->ao->Prop}(mz:A.frames=aa (l::g)) (P:s.heap.FunFrames z (l::g)) (hf:l.frame=aa L) (S:s.heap.get? e=aa w) (I:w.data=.fields G) (X:w.dict=ae) (v:1<G.size)(h:∀K T,Kp (gi (l::g)) (λb=>b=e) s.heap K->pT K e T w.cls .none->s.heap.objs.size<=T->Q () {s with heap:=K}):aq M A (do let a <-frameOf l;let r <-entryPlaceOf L SZ;let b <-EntryCells.newEntry B a .none (dr L) .none r;lE (.ref e) 1 b) (λ_ Z=>aq M A (setFlight (.ref e) ae) Q E Z) E s:=by
 have y:e∉(l::g).filterMap (·.frame):=λhm=>by obtain⟨_,o,F,Y⟩:=P.mem hm;rw[S]at F;injection F with F;subst F;exact Y G I
 refine ap (wpAny_frameOf_fun mz P hf λc d=>?_);refine ap (wpAny_entryPlaceOf λr W=>?_);unfold EntryCells.newEntry newFields;refine ap (jN ?_ (W.sizeOk5 _ _ _ _ _));have n:c.get? e=aa w:=(d.2.1 e y).trans S;have m:=bH (h:=c) {cls:=.type "traceback",dict:=ae,data:=.fields ([B,.ref L,.none,dr L,.none]++(if r.isEmpty then dO 6 Value.none else r)).toArray} n;refine nA m I v ?_;have C:c.objs.size≠e:=sT (bG n);have j:=qy I (·.setIfInBounds 1 (Value.ref c.objs.size));have i:=nj (nE (·.setIfInBounds 1 (Value.ref c.objs.size))) m (zv j);have p:=(qr (c.push {cls:=.type "traceback",dict:=ae,data:=.fields ([B,.ref L,.none,dr L,.none]++(if r.isEmpty then dO 6 Value.none else r)).toArray}) (nE (·.setIfInBounds 1 (Value.ref c.objs.size))) (dz C)).trans (cW c rfl);unfold setFlight;refine ap (mn i j (x:=.ref c.objs.size) (by simp[v]) ?_);rw[if_pos (show(Value.ref c.objs.size != Value.none)=ah from by simp)];refine nA p rfl (by simp only[cX,eY,d8,nk] <;> lia) (h _ c.objs.size ?_ ?_ ?_)
 .have keep:∀b o,b≠e->c.get? b=aa o ->
    (((c.push {cls:=.type "traceback",dict:=ae,data:=.fields ([B,.ref L,.none,dr L,.none]++(if r.isEmpty then dO 6 Value.none else r)).toArray}).update e (nE (·.setIfInBounds 1 (Value.ref c.objs.size)))).update c.objs.size (nE (·.setIfInBounds 3 ((ae:Option af).elim Value.none λf=>dr f)))).get? b=aa o:=λb o D u=>by
   have J:c.objs.size≠b:=sT (bG u);rw[qr _ _ J,qr _ _ (dz D)];exact bH _ u
  refine⟨λb o u O H=>keep b o H ((d.2.1 b O).trans u),λb o u O H=>?_,λb o u=>?_⟩
  .obtain⟨N,q⟩:=d.2.2 b o u;exact⟨N,keep b _ H q⟩
  .by_cases D:b=e
   .subst D;exact⟨_,(qr _ _ C).trans i⟩
   .obtain⟨N,q⟩:=d.2.2 b o u;exact⟨_,keep b _ D q⟩
 .refine⟨_,_,_,_,(qr _ _ C).trans i,Jc _ _,⟨j,by rw[MT];exact X⟩,by simp[v],C,nj _ p (zv (qy rfl _)),qy rfl _,by first | (simp;done) | (rcases W with rfl|⟨_,_,_,_,_,_,_,rfl⟩ <;> simp)⟩
 .exact nq d.1.symm
theorem Py{f:aB}{d:Env}{a:List Env}{L e:af}{c:ai}{Q:Unit->ao->Prop}(o:A.frames=aa (d::a))(q:s.heap.FunFrames f (d::a))(i:d.frame=aa L)(p:Made s.heap e c)(h:∀g T,Kp (gi (d::a)) (λb=>b=e) s.heap g->pT g e T c .none->s.heap.objs.size<=T->Q () {s with heap:=g}):aq M A (leaving d (.ref e)) Q E s:=by obtain⟨v,u,j,r,⟨l,n⟩,m⟩:=p;subst r;unfold leaving noteFrame;simp only[i];refine ap (ap (mn j l m ?_));rw[if_neg (by decide)];exact Fd o q i j l n (nr.mp m).1 h
theorem OY{n:aB}{i:Env}{d:List Env}{L e T:af}{c:ai}{Q:Unit->ao->Prop}(I:A.frames=aa (i::d))(O:s.heap.FunFrames n (i::d))(w:i.frame=aa L)(K:pT s.heap e T c .none)(h:∀m p,Kp (gi (i::d)) (λb=>b=e\/b=T) s.heap m->pT m e p c .none->s.heap.objs.size<=p->Q () {s with heap:=m}):aq M A (noteFrame (.ref e) i) (λ_ H=>aq M A (setFlight (.ref e) ae) Q E H) E s:=by
 obtain⟨X,v,Y,F,x,W,⟨y,D⟩,C,G,r,j,B⟩:=K;subst W;unfold noteFrame;simp only[w];refine ap (mn x y C ?_);rw[if_pos (show(Value.ref T != Value.none)=ah from by simp)];refine ap (mn r j B ?_);rw[if_neg (show ¬((Value.none == dr L)=ah)from by simp[dr])];refine ap (nA r j (nr.mp B).1 ?_);have a:∀b,b≠T->(s.heap.update T (nE (·.setIfInBounds 3 Value.none))).get? b=s.heap.get? b:=λb f=>qr _ _ (dz f);have g:∀b o,s.heap.get? b=aa o->(∀v,o.data≠.fields v)->b≠T:=λb o f u q=>by rw[q,r]at f;injection f with f;subst f;exact u F j
 refine Fd I (O.of_keeps λb o f u=>⟨o,(a b (g b o f u)).trans f,rfl⟩) w ((a e (dz G)).trans x) y D (nr.mp C).1 λm p k P N=>?_;have J:Kp (gi (i::d)) (λb=>b=T) s.heap (s.heap.update T (nE (·.setIfInBounds 3 Value.none))):=by
  refine⟨λb o f _ l=>(a b l).trans f,λb o f _ l=>⟨o.slots,(a b l).trans f⟩,λb o f=>?_⟩;by_cases l:b=T
  .subst l;exact⟨_,nj _ r (zv (qy j _))⟩
  .exact⟨o,(a b l).trans f⟩
 refine h m p ((J.trans k).imp (λ_ z=>z) λb o _ z=>z.symm) P ?_;have S:(s.heap.update T (nE (·.setIfInBounds 3 Value.none))).objs.size<=p:=N;rwa[Jd]at S
theorem Ra{f:aB}{d:Env}{a:List Env}{L e T:af}{c:ai}{Q:Unit->ao->Prop}(j:A.frames=aa (d::a))(m:s.heap.FunFrames f (d::a))(n:d.frame=aa L)(l:pT s.heap e T c .none)(h:∀g i,Kp (gi (d::a)) (λb=>b=e\/b=T) s.heap g->pT g e i c .none->s.heap.objs.size<=i->Q () {s with heap:=g}):aq M A (leaving d (.ref e)) Q E s:=by unfold leaving;exact ap (OY j m n l h)
end
def cE(P:aQ)(w:aI):ip:=λb H s E e s'=>∃(a T:af) (c:ai) (d:Hp),e=.ref a/\s'.os=s.os/\m8 s'.gens/\Un (gi b) [] H d s.heap s'.heap/\dw P w d s'.heap/\pT s'.heap a T c .none /\
 (s.heap.get? a=ae/\s.heap.get? T=ae/\d a=ae/\d T=ae)/\E c ae d
theorem J2{P:aQ}{w:aI}{H:Hp}{h:aB}{a:af}{o:HO}(x:cc P w H h a o):∃u,h.get? a=aa u:=by
 cases o with
 |lst c=>obtain⟨_,_,_,_,e⟩:=x;exact⟨_,e⟩
 |tup c=>obtain⟨_,_,_,⟨o,e,_⟩,_⟩:=x;exact⟨_,e⟩
 |dK b=>obtain⟨_,_,_,_,o,_,_,e,_⟩:=x;exact⟨_,e⟩
 |dT b=>obtain⟨_,_,_,_,o,_,_,e,_⟩:=x;exact⟨_,e⟩
 |set S n=>obtain⟨o,_,_,_,e,_⟩:=x;exact⟨_,e⟩
 |ins C m fs=>obtain⟨_,_,_,e,_⟩:=x;exact⟨_,e⟩
 |own y=>exact x
 |xd fs=>obtain⟨_,⟨_,_,_,e,_⟩,_⟩:=x;exact⟨_,e⟩
 |rng j l=>obtain⟨_,_,_,e⟩:=x;exact⟨_,e⟩
 |frz i u=>obtain⟨e,_⟩:=x;exact⟨_,e⟩
 |tbl g=>obtain⟨_,e,_⟩:=x;exact⟨_,e⟩
 |met f y=>exact⟨_,x⟩
 |ext d=>obtain⟨_,e,_⟩:=x;exact e
theorem L7{P:aQ}{w:aI}{H:Hp}{h:aB}{a:af}(x:dw P w H h)(e:h.get? a=ae):H a=ae:=by
 cases q:H a with
 |none=>rfl
 |some u=>obtain⟨o,z⟩:=J2 (x a u q);rw[e]at z;cases z
theorem vz{fs:List af}{H c:Hp}{h b:aB}{a:af}(u:Un fs [] H c h b)(e:b.get? a=ae):h.get? a=ae:=by
 cases q:h.get? a with
 |none=>rfl
 |some o=>obtain⟨d,z⟩:=u.there a o q (by simp);rw[e]at z;cases z
theorem Hf{fs a:List af}{H p:Hp}{h l j:aB}{X:af->Prop}(u:Un fs [] H p h l)(k:Kp a X l j)(r:∀b o,h.get? b=aa o->b∈a->b∈fs)(g:∀b o,h.get? b=aa o->¬X b):Un fs [] H p h j where
 keep:=λb o e n d c=>k.keep b o (u.keep b o e n d c) (λz=>d (r b o e z)) (g b o e)
 slot:=λb o e n d c=>by
  obtain⟨q,m⟩:=u.slot b o e n d c;by_cases i:b∈a
  .obtain⟨f,s⟩:=k.slot b _ m i (g b o e);exact⟨f,s⟩
  .exact⟨q,k.keep b _ m i (g b o e)⟩
 free:=u.free
 there:=λb o e c=>let ⟨o',e'⟩:=u.there b o e c;k.there b o' e'
 tups:=u.tups
 frzs:=u.frzs
 tbls:=u.tbls
theorem FP{P:aQ}{w:aI}{fs:List af}{H:Hp}{h d:aB}{X:af->Prop}(x:dw P w H h)(k:Kp fs X h d)(f:∀b∈fs,H b=ae)(g:∀b,X b->H b=ae):dw P w H d:=λb u e=>
 (x b u e).stay (λc v a q=>k.keep c v q (λz=>by
   have:=f c z;rcases a with rfl|a
   .rw[e]at this;cases this
   .rw[a]at this;cases this) λz=>by
   have:=g c z;rcases a with rfl|a
   .rw[e]at this;cases this
   .rw[a]at this;cases this) (λ_ q=>q) λ_ _ q=>q
section
variable{P:aQ}{w:aI}{K:ay}{n:Str->Option ai}{l:aB}{N:List Str}{j:Str}{g:eF}{f:af}{p:ai}{A:aX}{i:List Env}{d:ao}{m:Hp}{E:XK}
theorem c7:u9 (cE P w) (j3 (cE P w) P w K n l N j g f p A i d m E) E:=λag Y H s e s' I h=>by
 obtain⟨a,T,c,X,rfl,J,M,un,B,Q,⟨S,W,G,Z⟩,O⟩:=h;have r:=I.call' (s':=s') (ch:=[]) J un B M (λb z=>absurd z (by simp));refine Ra (L:=d.heap.objs.size) I.ok.frames r.stack rfl Q λmB F k C y=>?_;have pN:(j3 (cE P w) P w K n l N j g f p A i d m E).ex=[]:=rfl;have v:d.heap.get? a=ae:=vz I.base S;have D:d.heap.get? T=ae:=vz I.base W;have x:d.heap.get? F=ae:=vz r.base (Iw y);have u:∀b o,d.heap.get? b=aa o->b≠a/\b≠T:=λb o e=>⟨(by rintro rfl;rw[v]at e;cases e),(by rintro rfl;rw[D]at e;cases e)⟩
 refine⟨a,F,c,X,rfl,r.os,r.bare,Hf r.base k (λb o e z=>?_) (λb o e z=>z.elim (u b o e).1 (u b o e).2),FP r.hok k r.stkFree (λb z=>by rcases z with rfl|rfl <;> assumption),C,⟨v,x,G,r.hok.fresh y⟩,O⟩;rcases br.mp (I.stkSub b z)with q|q
 .exact absurd (bG e) (by rw[q];exact gu _)
 .exact q
end
section
variable{X:Cx}{E:XK}{pin:List Nat}{e:aA}{de:aj->R PV}{x:Str}{C:af}{i:List ai}{d f B:String}{l g j:Pos}
def DC(X:Cx)(E:XK):Prop:=∀(n:List (af×Obj)) (m:St) (H:Hp) (s:ao) (a:af) (c:ai) (h:aB),Inv X n m H s->(∀b o,s.heap.get? b=aa o->h.get? b=aa o)->Made h a c->s.heap.get? a=ae->(E c ae H)->X.xe (.ref a) {s with heap:=h}
def An(c:ai)(de:aj->R PV):aj->R aM:=λb=>(de b).bind λ_ a=>.er c a
theorem OP{h c:aB}{e:af}{a:ai}{b:List ai}(m:Heap.MadeExcOf h c e a b):Made c e a:=by obtain⟨t,n,_,_⟩:=m.there;exact⟨_,_,n,rfl,⟨rfl,rfl⟩,rfl⟩
theorem Gr(hx:DC X E)(hc:X.calm=ah)(O:OwnCls x C i d X.mg X.base)(Q:ExcBaseFacts B d f i)(he:DE X.nox E0 e de)(hg:Gl X x:=by rfl)(hd:(x==("__debug__":Str))=ak:=by decide)(M:a9 [e] X.env=[(ak,bh e X.env)]:=by rfl):DS X E pin (.Raise (aa (.Call (.Name x l) [e] [] g)) ae j) (An (.ref C) (λw=>bC (de w))):=λF S w n H D Z q=>Bx.mk λP s I=>by
 obtain⟨W,N,nm,qn,bs,hdct,sn,sub,ab,col,dd,k0,k1,k2,k3,k5,mN,hC,hN,J,T⟩:=O.obj;refine wpAny_Raise_call_subT (C:=C) (nm:=nm) (q:=qn) (N:=N) (bs:=bs) (bm:=W) (hdct:=hdct) (sn:=sn) (sub:=sub) (ab:=ab) (col:=col) (dd:=dd) (k0:=k0) (k1:=k1) (k2:=k2) (k3:=k3) (k5:=k5)
  Q (mN:=mN) (T.hasType Q.hasBase) (I.ok.hd hc) (by rw[M];rfl) J (B9 I hg O.bound ⟨rfl,?_⟩ hd)
 have q2:Ok X.K E0 n F S H (de w) (λ_ b r o p=>iz X.K E pin n r o p (.er (.ref C) b) D):=by
  have q:iz X.K E pin n F S H ((bC (de w)).bind λ_ b=>.er (.ref C) b) D:=q;cases K:de w with
  |no=>rw[K]at q;exact q.elim
  |er c A=>rw[K]at q;exact q.elim
  |ok v A=>rw[K]at q;exact λF' S' H' r' g'=>q.from g' (jh.refl _ _)
 rw[M];refine Cu (f9 (Co (f9 ((he F S w n H (λv p=>∃r o b,aJ X.K r o b n p/\iz X.K E pin n r o p (.er (.ref C) b) D) Z (q2.imp λv b r o p L g1 h v' rv=>⟨r,o,b,L,h⟩)).run P s (I.wish _)) (λu Y ⟨v,p,y,L,r,o,b,G,ok⟩=>?_) λ_ _ z=>z.elim)) (λ_ _ z=>z) λ_ _ z=>z);have y:=y.unwish;refine IA ⟨rfl,(by show 1<=bg;decide),y.bk _ _ hC,hN.keeps y.bk,T.keeps y.bk,λh' a m=>?_⟩;exact hx P n p Y a (.ref C) h' y m.keeps (OP m) m.new (ok ae r o n p G (Grow.refl ..) (jh.refl _ _))
end
section
variable{P:aQ}{w:aI}{K:ay}{m:Str->Option ai}{j:aB}{N:List Str}{i:Str}{g:eF}{f:af}{n:ai}{A:aX}{h:List Env}{d:ao}{l:Hp}{E:XK}
theorem Ev:DC (j3 (cE P w) P w K m j N i g f n A h d l E) E:=λM D H s a c B I G F new J=>by
 have p:Inv _ M D H {s with heap:=B}:=I.kept (t':=s.toks) G;refine Py (s:={s with heap:=B}) (L:=d.heap.objs.size) I.ok.frames p.stack rfl F λO C k x v=>?_;have r:d.heap.get? a=ae:=vz I.base new;have u:d.heap.get? C=ae:=vz p.base (Iw v);have y:H a=ae:=L7 I.hok new;refine⟨a,C,c,H,rfl,p.os,p.bare,Hf p.base k (λb o e z=>?_) (λb o e z=>by rw[show b=a from z,r]at e;cases e),FP p.hok k p.stkFree (λb z=>by rw[show b=a from z];exact y),x,⟨r,u,y,p.hok.fresh v⟩,J⟩;rcases br.mp (I.stkSub b z)with q|q
 .exact absurd (bG e) (by rw[q];exact gu _)
 .exact q
end
def XP(X:Cx)(g:List (af×Obj))(d:St)(h:ai->Hp->Prop)(e:ai)(f:ao):Prop:=∃a b,Inv X g d b a/\cE X.prog X.w X.stack b a (λc _ i=>h c i) e f
abbrev vH(X:Cx)(a:af):Cx:={X with A:=X.A.mark (aa (.ref a)),calm:=ak,xe:=λ_ _=>False}
section
variable{X:Cx}{K:ay}
variable{E:XK}{e:aA}{de:aj->R PV}{a:Pos}{y:Str}
def pL(b:List PV)(y:PV):Option PV:=(dS y).bind λv=>(j_ b).map λc=>.int (c.countP λz=>fL z v)
end
def gA(g:Tx):List Tx->Tx
 |[]=>[]
 |[x]=>x
 |x::y::r=>x++g++gA g (y::r)
theorem DZ(a b:Tx):tS (a++b)=tS a++tS b:=by apply Str.ext';simp[tS,Str.cps_append]
theorem Gv(g:Tx):∀a:List Tx,Str.join (tS g) (a.map tS)=tS (gA g a)
 |[]=>rfl
 |[x]=>rfl
 |x::y::r=>by show tS x++tS g++Str.join (tS g) ((y::r).map tS)=tS (x++g++gA g (y::r));rw[Gv g (y::r),DZ,DZ]
theorem GS(g:Tx)(a:List Tx):Txt.join (tS g) (a.map tS)=tS (gA g a):=by unfold Txt.join;rw[StrLaws.glued_eq_join,Gv]
theorem D4(c:Nat):∀l:List Nat,PyProof.Rows.cnt c l=(l.count c:Nat)
 |[]=>rfl
 |a::l=>by
  rw[PyProof.Rows.cnt_cons,D4 c l,zw];by_cases h:a=c
  .simp[h];lia
  .simp[h]
theorem LZ(c:Nat)(x:Tx):Txt.count (tS x) (tS [c])=(x.count c:Nat):=by have:=PyProof.Rows.count_cnt (tS x) c;rw[jJ,D4]at this;exact this
theorem K0(c:Nat)(x:Tx):w6 [c] x=x.contains c:=by unfold w6;have:=StrLaws.found_one (tS x) c;rw[jJ]at this;rw[show(tS [c])=⟨#[c]⟩from rfl,this];simp[List.contains_eq_mem]
theorem BZ:∀{b:List Tx}{a:List ai},bA (cN b) a->d9 a (b.map tS)
 |[],_,r=>by cases r;exact .nil
 |x::b,_,r=>by
  cases r with
  |cons d c=>obtain⟨t,rfl⟩:=d;exact .cons _ t (BZ c)
section
variable{X:Cx}{K:ay}
def hU(g:Tx)(ls:List Tx):Nat:=(ls.map ng).sum+ls.length*g.length
theorem Gb(g:Tx):∀a,(gA g a).length<=hU g a
 |[]=>jO _
 |[x]=>by simp[gA,hU]
 |x::y::r=>by have h:=Gb g (y::r);show(x++g++gA g (y::r)).length<=_;generalize gA g (y::r)=z at h;unfold hU at *;simp only[eY,bE,gS,d8,CS]at *;lia
def Az(K:ay):V->List V->Hp->VK->Prop:=λx b H Q=>∃g p a,x=tV g/\b=[.ref p]/\(cz K H p (cN a)\/cp K H p (cN a))/\hU g a<=bv/\Q (tV (gA g a)) H
theorem EU:vK X "str.join" (Az X.K):=by
 intro B s y H x z v A Q I m o h;obtain⟨g,p,b,rfl,rfl,d,w,q⟩:=h;obtain⟨t,rfl⟩:=m;obtain⟨u,rfl,n⟩:=vals1 o;cases n;have c:((b.map tS).map (·.length)).sum+(b.map tS).length*(tS g).length<=16777216:=by
  have e:((b.map tS).map (·.length))=b.map ng:=by rw[cB];exact jP λa _=>kt a
  rw[e,bZ,kt];unfold hU bv at w;lia
 rcases d with d|d
 .obtain⟨l,i,j,r⟩:=I.list d;exact join_list j.isList (by simpa using BZ i) c λf k=>⟨tV (gA g b),H,I.tok _,(by rw[GS];exact⟨f,rfl⟩),q⟩
 .obtain⟨l,i,j,r⟩:=I.tuple d;exact join_tuple j (by simpa using BZ i) c λf k=>⟨tV (gA g b),H,I.tok _,(by rw[GS];exact⟨f,rfl⟩),q⟩
def E5:V->List V->Hp->VK->Prop:=λx a H Q=>∃y c,x=tV y/\a=[tV [c]]/\Q (.int (y.count c:Nat)) H
theorem O_:vK X "str.count" E5:=by intro i s d H x e v f Q I a b h;obtain⟨y,c,rfl,rfl,q⟩:=h;obtain⟨t,rfl⟩:=a;obtain⟨u,rfl,g,rfl⟩:=vals1 b;exact SC.count ⟨.int _,H,I.tok _,⟨_,by rw[LZ]⟩,q⟩
def PM(K:ay)(r:V->List V->Hp->VK->Prop)(f:Tx->List PV->Option PV):Prop:=∀(F:af->Prop) (H:Hp) (x:Tx) (b:List PV) (c:List V) (Q:VK) (pv:PV),x.length<=bv->aR K H F b c->f x b=aa pv->(∀w d a,Al F d H a->aL K a d pv w->Q w a)->r (tV x) c H Q
def yx:PV->Option Tx
 |.str x=>aa x
 |_=>ae
def l4(f:Tx->List PV->Option PV)(d:aj->R PV)(B:aj->R (List PV)):aj->R PV:=λc=>(d c).bind λx a=>(aO (yx x) a).bind λy a=>(B a).bind λe b=>aO (f y e) b
variable{E:XK}{o e:aA}{A:List aA}{d:aj->R PV}{B:aj->R (List PV)}{i:Str}{m b:Pos}{C:String}{r:V->List V->Hp->VK->Prop}{f:Tx->List PV->Option PV}
theorem AL(g:PySem.Slot "str" i C)(Y:typeOf (.builtin C)=pure (.type "method_descriptor"))(hm:vK X C r)(hp:PM X.K r f)(ho:DE X E o d)(ha:DA X E (e::A) B)(W:qu o i X.env (bh o X.env)=bh o X.env:=by rfl)(L:((ef b (a9 (e::A) X.env)).all (λx=>!x.1)&&(vO b (vP [] X.env)).all (λx=>x.1.isSome)&&decide ((e::A).length+([]:List lB).length+(if([]:List lB).isEmpty then 0 else 1)<30))=ah:=by rfl)(T:(m.endLine == b.line)=ah:=by rfl) (hs:a9 (e::A) X.env=(ak,bh e X.env)::a9 A X.env:=by rfl) (I:(ef b (a9 A X.env)).any (·.1)=ak:=by rfl):DE X E (.Call (.Attribute o i m) (e::A) [] b) (l4 f d B):=λF S D n H Q N h=>by
 refine cn (BO PySem.F.plainAttrs_str g Y hm bF jK W L T hs I) (ho F S D n H _ N ((Ok.bind h).imp λx c z s u P g1 l v M=>?_));cases x <;> first|exact(show False from l).elim|skip
 rename_i y;obtain⟨rfl,hz⟩:=M;refine⟨rfl,?_⟩;have l:Ok X.K E n z s u ((B c).bind λG a=>aO (f y G) a) _:=l;refine ha z s c n u _ P ((Ok.bind l).imp λq a F2 S2 H2 O g2 j J Z=>?_);cases e:f y q with
 |none=>rw[e]at j;exact j.elim
 |some pv=>rw[e]at j;exact hp F2 H2 y q J Q pv hz Z e λw F' H' al p=>j F' S2 H' (O.al al) al.grow w p
def mH(g:Tx):List PV->Option PV
 |[.lst c]=>(gp c).bind λa=>if hU g a<=bv then aa (.str (gA g a))else ae
 |[.tup c]=>(gp c).bind λa=>if hU g a<=bv then aa (.str (gA g a))else ae
 |_=>ae
theorem Gd:PM K (Az K) mH:=λF H g D G Q pv I w e q=>by
 have l:∀(n:List PV) (p:af) (c:List V),aR K H F n c->(cz K H p c\/cp K H p c)->((gp n).bind λj=>if hU g j<=bv then aa (PV.str (gA g j))else ae)=aa pv->Az K (tV g) [.ref p] H Q:=λn p c h z e=>by
  cases s:gp n with
  |none=>rw[s]at e;cases e
  |some j=>
   rw[s,gR]at e;split at e
   .rename_i x;cases e;have y:=(To.mp (xk s ▸ h)).1;subst y;exact⟨g,p,j,rfl,rfl,z,x,q _ F H (Al.refl ..) ⟨rfl,c0 (Gb g j) x⟩⟩
   .cases e
 unfold mH at e;split at e
 .obtain⟨v,rfl,a,c,rfl,u,_,h⟩:=gY w;exact l _ a c h (.inl (.inl u)) e
 .obtain⟨v,rfl,a,c,rfl,u,h⟩:=gY w;exact l _ a c h (.inr (cp.of u)) e
 .cases e
def xF(y:Tx):List PV->Option PV
 |[.str [c]]=>aa (.int (y.count c:Nat))
 |_=>ae
theorem P9:PM K E5 xF:=λF H y g h Q pv j a e q=>by
 unfold xF at e;split at e
 .rename_i c;cases e;obtain⟨v,rfl,rfl,_⟩:=gY a;exact⟨y,c,rfl,rfl,q _ F H (Al.refl ..) rfl⟩
 .cases e
theorem Qv(D:X.calm=ah):gg X (.type "list") (λF H Q=>∃y:Tx,F=[tV y]/\y.length<=bv/\∀l,H l=ae->Q (.ref l) (upd H l (.lst (y.map sg)))):=by
 intro ag s σ H F us Q I r h;obtain⟨y,rfl,J,q⟩:=h;obtain⟨u,rfl,t,rfl⟩:=vals1 r;have M:(tS y).cps.size=y.length:=by simp[tS]
 refine PySem.call_list_str (I.ok.hd D) (tS y) t (hn:=by rw[M];exact c0 J kw) λh' W a P hk hS Y=>?_;refine⟨.ref s.heap.objs.size,_,I.laid (t':=W) hk (aZ _) (show cc X.prog X.w _ h' _ (.lst (y.map sg))from⟨by rw[bZ];exact c0 J kw,a.toList,P,?_,by simpa using hS⟩),rfl,q _ (I.hok.fresh (aZ _))⟩;obtain⟨g,w⟩:=Y;rw[M]at g;have O:∀j v,a.toList[j]?=aa v->SignAt (tS y) j v:=λj v e=>w j v (by simpa using e);have N:a.toList.length=y.length:=by simpa using g
 generalize a.toList=L at O N;have x:∀(p:Tx) (L:List ai) (n:Nat),L.length=p.length->(∀(j:Nat) (v:ai),L[j]?=aa v->∃t,∀c,p[j]?=aa c->v=Value.str (tS [c]) t)->bA (p.map sg) L:=by
  intro p
  induction p with
  |nil=>intro L n g _;have:L=[]:=tt g;subst this;exact .nil
  |cons c p Z=>
   intro L n g w;cases L with
   |nil=>cases g
   |cons v L=>obtain⟨t,e⟩:=w 0 v rfl;have e:=e c rfl;subst e;exact .cons ⟨t,rfl⟩ (Z L (n+1) (by simpa using g) λj v e=>by obtain⟨t,z⟩:=w (j+1) v (by simpa using e);exact⟨t,λc D=>z c (by simpa using D)⟩)
 refine x y L 0 N λj v e=>?_;obtain⟨c,u,T,S⟩:=O j v e;refine⟨u,λP G=>?_⟩;have e5:y[j]?=aa c:=by simpa[tS]using T
 rw[e5]at G;cases G;exact S
end
section
variable{K:ay}{F u:af->Prop}{S B:Nat->af->Prop}{ε A:aj}{y:St}{H H':Hp}{i:Nat}{po:PO}
theorem aJ.hide(r:aJ K F S ε y H)(i:Nat):aJ K F (λj b=>S j b/\j≠i) (ε.set i .none) y H:=by
 have g:∀(j:Nat) (s:Slot),s≠.none->(ε.set i .none)[j]?=aa s->ε[j]?=aa s/\j≠i:=λj s m e=>by
  by_cases c:i=j
  .subst c;rw[List.getElem?_set]at e;simp only[if_true]at e;split at e
   .exact absurd (cO e).symm m
   .cases e
  .rw[cS c]at e;exact⟨e,dz c⟩
 refine⟨by rw[gb];exact r.len,r.ex,λj pv e=>r.val j pv (g j _ (by intro z;cases z) e).1,λj po e=>?_,λj b h=>?_,λj k b f d=>r.dist j k b f.1 d.1⟩
 .obtain⟨o,c⟩:=g j _ (by intro z;cases z) e;obtain⟨a,f,d⟩:=r.own j po o;have n:(λb=>S j b/\j≠i)=S j:=by funext b;simp[c]
  exact⟨a,f,by rw[n];exact d⟩
 .obtain⟨⟨po,q⟩,l⟩:=r.foot j b h.1;exact⟨⟨po,by rw[cS (dz h.2)];exact q⟩,l⟩
theorem _root_.Pu.Grow.wide{O P a F u:af->Prop}{H H':Hp}(g:Grow O a F u H H')(h:∀b,O b->P b):Grow P a F u H H' :=⟨g.fro,λb o q n=>g.keep b o q λz=>n (h b z),g.there,λb z=>(g.fnew b z).imp id λw=>w.imp id (h b),λb z=>(g.onew b z).imp (h b) id⟩
theorem aJ.unhide(r:aJ K F S ε y H)(e:ε[i]?=aa (.own po))(m:aJ K u B A y H')(g:Grow (U λj b=>S j b/\j≠i) (U B) F u H H')(I:A[i]?=aa .none):∃v,v i=S i/\aJ K u v (A.set i (.own po)) y H'/\Grow (U S) (U v) F u H H'/\(∀b o,S i b->H b=aa o->H' b=aa o):=by
 have G:i<A.length:=(cA.mp I).1;have D:∀b,S i b->¬U (λj b=>S j b/\j≠i) b:=λb h ⟨j,z,c⟩=>c (r.dist j i b z h);have E:∀b o,S i b->H b=aa o->H' b=aa o:=λb o h q=>g.keep b o q (D b h);have L:∀b,B i b->False:=λb h=>by
  obtain⟨⟨po,q⟩,_⟩:=m.foot i b h;rw[I]at q;cases q
 have l:Fit (U λj b=>S j b/\j≠i) F H:=λb ⟨j,z,_⟩=>(r.foot j b z).2;have s:∀b,S i b->¬u b/\¬U B b:=λb h=>by
  obtain⟨_,d,o,C,_⟩:=r.foot i b h;refine⟨λz=>?_,λz=>?_⟩
  .rcases g.fnew b z with w|w|w
   .exact d w
   .rw[C]at w;cases w
   .exact D b h w
  .rcases g.onew b z with w|w
   .exact D b h w
   .rw[C]at w;cases w
 refine⟨λj b=>if j=i then S i b else B j b,by simp,⟨by rw[gb];exact m.len,m.ex,λj pv q=>?_,λj p q=>?_,λj b h=>?_,λj k b f d=>?_⟩,⟨g.fro,λb o q n=>g.keep b o q λ⟨j,z⟩=>n ⟨j,z.1⟩,g.there,λb z=>(g.fnew b z).imp id λw=>w.imp id λ⟨j,w⟩=>⟨j,w.1⟩,λb ⟨j,z⟩=>?_⟩,E⟩
 .have c:i≠j:=by rintro rfl;rw[dY G]at q;cases q
  rw[cS c]at q;exact m.val j pv q
 .by_cases c:i=j
  .subst c;rw[dY G]at q;cases q;obtain⟨a,f,d⟩:=r.own i _ e;refine⟨a,f,?_⟩;simp only[if_true];exact d.mono (λ_ _ z=>z.grow g l) (λ_ _ z=>z.grow g l) λb o z w=>E b o z w
  .rw[cS c]at q;obtain⟨a,f,d⟩:=m.own j p q;exact⟨a,f,by simp only[if_neg (dz c)];exact d⟩
 .by_cases c:j=i
  .subst c;simp only[if_true]at h;obtain⟨_,d,o,C,M⟩:=r.foot j b h;exact⟨⟨po,dY G⟩,(s b h).1,o,E b o h C,M⟩
  .simp only[if_neg c]at h;obtain⟨⟨p,q⟩,J⟩:=m.foot j b h;exact⟨⟨p,by rw[cS (dz c)];exact q⟩,J⟩
 .by_cases c:j=i
  .by_cases x:k=i
   .rw[c,x]
   .simp only[if_pos c]at f;simp only[if_neg x]at d;exact absurd ⟨k,d⟩ (s b f).2
  .by_cases x:k=i
   .simp only[if_neg c]at f;simp only[if_pos x]at d;exact absurd ⟨j,f⟩ (s b d).2
   .simp only[if_neg c]at f;simp only[if_neg x]at d;exact m.dist j k b f d
 .by_cases c:j=i
  .simp only[if_pos c]at z;exact .inl ⟨i,z⟩
  .simp only[if_neg c]at z;exact(g.onew b ⟨j,z⟩).imp (λ⟨k,w⟩=>⟨k,w.1⟩) id
variable{a b:af}{m:List (List PV)}{f:List af}{j:Nat}{C:List PV}{l:List V}
theorem gH.len(h:gH K H F m f):f.length=m.length:=by
 unfold gH at h
 induction h with
 |nil=>rfl
 |cons _ _ c=>simp[c]
theorem gH.get(h:gH K H F m f)(e:m[j]?=aa C):∃b l,f[j]?=aa b/\H b=aa (.lst l)/\aR K H F C l:=by
 unfold gH at h
 induction h generalizing j with
 |nil=>simp at e
 |cons r _ c=>
  cases j with
  |zero=>simp at e;subst e;obtain⟨l,g,d⟩:=r;exact⟨_,l,rfl,g,d⟩
  |succ j=>obtain⟨b,l,q⟩:=c (j:=j) (by simpa using e);exact⟨b,l,by simpa using q⟩
theorem gH.set(h:gH K H F m f)(z:f.Nodup)(e:f[j]?=aa b){H':Hp}(s:∀x v,aR K H F x v->aR K H' F x v)(q:∀c o,c∈f->c≠b->H c=aa o->H' c=aa o)(I:∃n,H' b=aa (.lst n)/\aR K H' F C n):gH K H' F (m.set j C) f:=by
 unfold gH at h ⊢
 induction h generalizing j with
 |nil=>exact .nil
 |cons r G E=>
  rename_i x c m f;have g:=kf.mp z;cases j with
  |zero=>simp at e;subst e;refine .cons I ?_;exact gH.mono (K:=K) s (λd o p=>q d o (by simp[p]) (by rintro rfl;exact g.1 p)) G
  |succ j=>
   have w:f[j]?=aa b:=by simpa using e
   have D:b∈f:=jw w;obtain⟨l,L,J⟩:=r;exact .cons ⟨l,q c _ (by simp) (by rintro rfl;exact g.1 D) L,s _ _ J⟩ (E g.2 w λd o p=>q d o (by simp[p]))
theorem aJ.updL(r:aJ K F S ε y H)(e:ε[i]?=aa (.own (.lls m)))(Z:y[i]?=aa (aa (.ref a)))(Y:H a=aa (.lst (f.map .ref)))(W:gH K H F m f)(L:f.Nodup)(M:a∉f)(P:∀b,S i b↔b=a\/b∈f)(O:f[j]?=aa b)(h:aR K H F C l):aJ K F S (ε.set i (.own (.lls (m.set j C)))) y (L2.upd H b (.lst l))/\Grow (U S) (U S) F F H (L2.upd H b (.lst l)):=by
 have N:b∈f:=jw O;have E:S i b:=(P b).mpr (.inr N);have X:a≠b:=by rintro rfl;exact M N
 have G:i<ε.length:=(cA.mp e).1;have g:Grow (U S) (U S) F F H (L2.upd H b (.lst l)):=⟨λ_ z=>z,λc o q n=>by rw[bf (by rintro rfl;exact n ⟨i,E⟩)];exact q,λc o q=>by
  by_cases s:c=b
  .subst s;exact⟨_,upd_same⟩
  .exact⟨o,by rw[bf s];exact q⟩,λ_ z=>.inl z,λ_ z=>.inl z⟩
 refine⟨⟨by rw[gb];exact r.len,λb z=>let ⟨o,q⟩:=r.ex b z;g.there b o q,λk pv q=>?_,λk po q=>?_,λk c z=>?_,r.dist⟩,g⟩
 .have p:i≠k:=by rintro rfl;rw[dY G]at q;cases q
  rw[cS p]at q;obtain⟨v,D,x⟩:=r.val k pv q;exact⟨v,D,x.grow g r.fit⟩
 .by_cases p:i=k
  .subst p;rw[dY G]at q;cases q;exact⟨a,Z,f,by rw[bf X];exact Y,W.set L O (λ_ _ z=>z.grow g r.fit) (λc o _ s w=>by rw[bf s];exact w) ⟨l,upd_same,h.grow g r.fit⟩,L,M,P⟩
  .rw[cS p]at q;obtain⟨c,D,x⟩:=r.own k po q;refine⟨c,D,x.mono (λ_ _ z=>z.grow g r.fit) (λ_ _ z=>z.grow g r.fit) λd o z w=>?_⟩;rw[bf (by rintro rfl;exact p (r.dist i k d E z))];exact w
 .obtain⟨⟨po,D⟩,x,o,T,Q⟩:=r.foot k c z;have I:∃J,(L2.upd H b (.lst l)) c=aa J/\eV J:=by
   by_cases s:c=b
   .subst s;exact⟨_,upd_same,trivial⟩
   .exact⟨o,by rw[bf s];exact T,Q⟩
  by_cases p:i=k
  .subst p;exact⟨⟨_,dY G⟩,x,I⟩
  .exact⟨⟨po,by rw[cS p];exact D⟩,x,I⟩
theorem gH.frz(h:gH K H F m f)(c:∀b∈f,F b):aR K H F (m.map .lst) (f.map .ref):=by
 unfold gH at h
 induction h with
 |nil=>rfl
 |cons r _ d=>obtain⟨l,n,g⟩:=r;exact⟨_,_,rfl,⟨_,l,rfl,.inl n,c _ (by simp),g⟩,d λb e=>c b (by simp[e])⟩
theorem aJ.frzL(r:aJ K F S ε y H)(e:ε[i]?=aa (.own (.lls m))):∃a u B,aJ K u B (ε.set i (.val (.lst (m.map .lst)))) y H/\Grow (U S) (U B) F u H H/\y[i]?=aa (aa (.ref a))/\aL K H u (.lst (m.map .lst)) (.ref a):=by
 obtain⟨a,G,f,L,I,P,Q,E⟩:=r.own i _ e;have D:i<ε.length:=(cA.mp e).1;have g:∀b,F b->F b\/S i b:=λb h=>.inl h;have mono:∀x v,aL K H F x v->aL K H (λb=>F b\/S i b) x v:=aL.mono g (λ_ _ _ q=>q) (λ_ _ q _=>q);have c:∀x v,aR K H F x v->aR K H (λb=>F b\/S i b) x v:=aR.mono g (λ_ _ _ q=>q) (λ_ _ q _=>q);have w:aL K H (λb=>F b\/S i b) (.lst (m.map .lst)) (.ref a):=⟨a,_,rfl,.inl L,.inr ((E a).mpr (.inl rfl)),(I.mono c λ_ _ _ z=>z).frz λb J=>.inr ((E b).mpr (.inr J))⟩
 refine⟨a,λb=>F b\/S i b,λj b=>S j b/\j≠i,⟨by rw[gb];exact r.len,λb h=>?_,λj pv q=>?_,λj po q=>?_,λj b h=>?_,λj k b N M=>r.dist j k b N.1 M.1⟩,?_,G,w⟩
 .rcases h with h|h
  .exact r.ex b h
  .obtain⟨_,_,o,q,_⟩:=r.foot i b h;exact⟨o,q⟩
 .by_cases d:i=j
  .subst d;rw[dY D]at q;cases q;exact⟨_,G,w⟩
  .rw[cS d]at q;obtain⟨v,p,n⟩:=r.val j pv q;exact⟨v,p,mono _ _ n⟩
 .by_cases d:i=j
  .subst d;rw[dY D]at q;cases q
  .rw[cS d]at q;obtain⟨v,p,n⟩:=r.own j po q;refine⟨v,p,?_⟩;have s:=n.mono (H':=H) mono c λ_ _ _ z=>z;have O:(λb=>S j b/\j≠i)=S j:=by funext b;simp[dz d]
   rw[O];exact s
 .obtain⟨⟨po,p⟩,n,s⟩:=r.foot j b h.1;refine⟨⟨po,by rw[cS (dz h.2)];exact p⟩,λz=>?_,s⟩;rcases z with z|z
  .exact n z
  .exact h.2 (r.dist j i b h.1 z)
 .refine⟨λ_ h=>.inl h,λb o h _=>h,λb o h=>⟨o,h⟩,λb h=>?_,λb ⟨j,h⟩=>.inl ⟨j,h.1⟩⟩;rcases h with h|h
  .exact .inl h
  .exact .inr (.inr ⟨i,h⟩)
end
section
variable{X:Cx}{E:XK}{pin:List Nat}{e b b1:aA}{de db d1:aj->R PV}{d:Pos}
def kF(a:aj)(i:Nat):Option (List (List PV)):=match a[i]? with
 |some (.own (.lls c))=>aa c
 |_=>ae
theorem vc{a:aj}{i:Nat}{c:List (List PV)}(h:kF a i=aa c):a[i]?=aa (.own (.lls c)):=by
 unfold kF at h;split at h
 .cases h;assumption
 .cases h
def yQ(i:Nat):aj->R PV:=λa=>(aO (kF a i) a).bind λc a=>.ok (.lst (c.map .lst)) (a.set i (.val (.lst (c.map .lst))))
theorem JU(i:Nat){x:Str}{d:Pos}(n:X.N[i]?=aa x:=by rfl)(l:eC X.env.scope x:=by first|exact Or.inl rfl|exact Or.inr (Or.inl rfl)|exact Or.inr (Or.inr rfl))(m:(x==("__debug__":Str))=ak:=by decide)(q:(x==("__classdict__":Str))=ak:=by decide):DE X E (.Name x d) (yQ i):=λF S f v H Q r h=>by
 unfold yQ at h;cases c:kF f i with
 |none=>rw[c]at h;exact h.elim
 |some w=>rw[c]at h;obtain⟨a,u,s,j,g,p,o⟩:=r.frzL (vc c);exact cn (fA n l m q) ⟨_,p,h u s H j g _ o⟩
def uo(i:Nat):aj->R PV:=λa=>(aO (kF a i) a).bind λc a=>.ok (.int (c.length:Nat)) a
theorem P6(i:Nat){y:Str}{p c:Pos}(m:X.mg "len"=ae)(s:X.N[i]?=aa y:=by rfl)(u:eC X.env.scope y:=by first|exact Or.inl rfl|exact Or.inr (Or.inl rfl)|exact Or.inr (Or.inr rfl))(o:(y==("__debug__":Str))=ak:=by decide) (z:(y==("__classdict__":Str))=ak:=by decide) (n:Gl X "len":=by rfl)(g:a9 [.Name y c] X.env=(ak,bh (.Name y c) X.env)::a9 [] X.env:=by rfl) (w:(ef d (a9 [] X.env)).any (·.1)=ak:=by rfl):DE X E (.Call (.Name "len" p) [.Name y c] [] d) (uo i):=λF S j A H Q r h=>by
 unfold uo at h;cases f:kF j i with
 |none=>rw[f]at h;exact h.elim
 |some x=>rw[f]at h;obtain⟨a,v,G,q,l,B,C,D⟩:=r.own i _ (vc f);refine cn (mY iU n m rfl (j7 (fA s u o z) kA g) (by decide) (by decide) g w) ⟨_,v,.ref a,x.length,rfl,.inl ⟨_,cz.of q,?_⟩,h F S H r (Grow.refl ..) _ rfl⟩;rw[bZ,l.len]
def yI(i:Nat)(d1 db de:aj->R PV):aj->R aM:=λl=>(de l).bind λy f=>(aO (kF f i) f).bind λ_ f=>(d1 f).bind λn a=>(aO (kF a i) a).bind λg a=>(aO ((iV n).bind (gZ g.length)) a).bind λj a=>
 (db (a.set i .none)).bind λm c=>match c[i]?,g[j]? with
  |some .none,aa h=>(aO ((iV m).bind (gZ h.length)) c).bind λo c=>.ok .next (c.set i (.own (.lls (g.set j (h.set o y)))))
  |_,_=>.no
theorem Io{K:ay}{H:Hp}{F:af->Prop}{x:PV}{v:V}{k:Int}(h:aL K H F x v)(e:iV x=aa k):v=.int k:=by
 cases x <;> simp[iV]at e;subst e;exact h
theorem SA(i:Nat){x:Str}{p l g:Pos}(h1:DE X E b1 d1)(hb:DE X E b db)(he:DE X E e de)(hN:X.N[i]?=aa x:=by rfl)(hv:eC X.env.scope x:=by first|exact Or.inl rfl|exact Or.inr (Or.inl rfl)|exact Or.inr (Or.inr rfl))(hd:(x==("__debug__":Str))=ak:=by decide)(bD:(x==("__classdict__":Str))=ak:=by decide) (hpx:A8 b1:=by exact λ_ _=>rfl) (ha:∀v,mh (.Subscript (.Subscript (.Name x p) b1 l) b g) X.env v=(do
   let ov <-kc [v] (bh (.Subscript (.Name x p) b1 l) X.env)
   let iv <-kc [v,ov] (bh b X.env)
   standAt g
   kc [v,ov,iv] (setItem ov iv v)
   release [v,ov,iv] []):=by intro _;rfl) (hs:Ck [.Subscript (.Subscript (.Name x p) b1 l) b g] e d.line X.env=pure ak:=by rfl) (hw:Cm [.Subscript (.Subscript (.Name x p) b1 l) b g] e X.env=pure ae:=by rfl)
  (ho:(qm [.Subscript (.Subscript (.Name x p) b1 l) b g] X.env).map (·.2)=[mh (.Subscript (.Subscript (.Name x p) b1 l) b g) X.env]:=by rfl):DS X E pin (.Assign [.Subscript (.Subscript (.Name x p) b1 l) b g] e d) (yI i d1 db de):=λF S ε r H D rl h=>by
 refine fM (AM bF (Dy (FD fP (fA hN hv hd bD) bF hpx) bF HI ha) hs hw ho) (he F S ε r H _ rl (h.bindE.imp λy A F1 S1 H1 Q g1 q v rv=>?_));cases e0:kF A i with
 |none=>rw[e0]at q;exact q.elim
 |some xss0=>
  rw[e0]at q;simp only[bY,R.bind_ok]at q;obtain⟨a,ea,_⟩:=Q.own i _ (vc e0);refine⟨.ref a,ea,h1 F1 S1 A r H1 _ Q (q.bindE.imp λk1 u F2 S2 H2 n g2 f u1 O=>?_)⟩;cases K:kF u i with
  |none=>rw[K]at f;exact f.elim
  |some cD=>
   rw[K]at f;simp only[bY,R.bind_ok]at f;obtain⟨a',C,as,o6,W,nd,na,G⟩:=n.own i _ (vc K);rw[ea]at C;cases C;cases m:(iV k1).bind (gZ cD.length)with
   |none=>rw[m]at f;exact f.elim
   |some j1=>
    rw[m]at f;simp only[bY,R.bind_ok]at f;cases e3:iV k1 with
    |none=>rw[e3]at m;cases m
    |some i1=>
     rw[e3,gR]at m;have hj1:=(As m).2.1;obtain⟨L,B⟩:∃L,cD[j1]?=aa L:=⟨_,dP hj1⟩
     obtain⟨c,vs,hc,fI,hr⟩:=W.get B;refine .inl ⟨a,_,i1,.ref c,rfl,Io O e3,cz.of o6,?_,?_⟩
     .unfold fV;rw[bZ,W.len,m,gR,d7,hc];rfl
     .have P:=n.hide i;refine hb F2 _ _ r H2 _ P ?_;cases e4:db (u.set i .none)with
      |no=>rw[e4]at f;exact f.elim
      |er c ε'=>rw[e4]at f;exact λx F' S' H' r' g'=>f x F' S' r H' r' (g'.wide λb ⟨j,z⟩=>⟨j,z.1⟩) (jh.refl _ _)
      |ok k2 s=>
       rw[e4]at f;intro F3 S3 H3 r3 g3 u2 N;simp only[R.bind_ok]at f;rw[B]at f;cases J:s[i]? with
       |none=>rw[J]at f;exact f.elim
       |some sl=>
        rw[J]at f;cases sl with
        |val _=>exact f.elim
        |own _=>exact f.elim
        |none=>
         dsimp only at f;cases e6:iV k2 with
         |none=>rw[e6]at f;exact f.elim
         |some i2=>
          rw[e6,gR]at f;cases e7:gZ L.length i2 with
          |none=>rw[e7]at f;exact f.elim
          |some j2=>
           rw[e7]at f;simp only[bY,R.bind_ok]at f;obtain⟨S4,eS,r4,I,Y⟩:=n.unhide (vc K) r3 g3 J;have hi:i<s.length:=(cA.mp J).1;have hS4:∀b,S4 i b↔b=a\/b∈as:=by rw[eS];exact G
           have hcS:S2 i c:=(G c).mpr (.inr (jw hc));have T:gH X.K H3 F3 cD as:=W.mono (λ_ _ z=>z.grow I n.fit) λb o hb w=>Y b o ((G b).mpr (.inr hb)) w;have ha4:=Y a _ ((G a).mpr (.inl rfl)) o6;have Z:=hr.grow I n.fit;have M:=(rv.grow g2 Q.fit).grow I n.fit;obtain⟨r5,g5⟩:=r4.updL (i:=i) (dY hi) ea ha4 T nd na hS4 hc (Z.set M j2);rw[List.set_set]at r5;exact⟨c,vs,i2,j2,rfl,Io N e6,Y c _ hcS fI,by rw[hr.len];exact e7,f F3 S4 r _ r5 (I.trans g5) (jh.refl _ _)⟩
end
def pq(a:List Nat)(de:aj->R PO):List PV->List (List PV)->aj->R (List (List PV))
 |[],d,c=>.ok d c
 |x::f,d,c=>(bC (bX a de x c)).bind λy b=>match y with
  |.lst e=>pq a de f (d++[e]) b
  |_=>.no
def yJ(c:List Nat)(g:aj->R (List PV))(de:aj->R PO):aj->R PO:=λd=>(g d).bind λf b=>(pq c de f [] b).bind λe a=>.ok (.lls e) a
theorem NH{K:ay}{E:XK}{F:af->Prop}{S:Nat->af->Prop}{u:aj}{f:St}{H:Hp}{I:Type}{e:List Nat}{d:aj->R I}{x:PV}{v:V}{C:I->aj->(af->Prop)->(Nat->af->Prop)->Hp->Prop}(r:aJ K F S u f H) (P:aL K H F x v) (h:Ok K E f F S H (bC (bX e d x u)) C):∃M l,aJ K F M l (aa v::eU f e) H/\Ok K E0 (aa v::eU f e) F M H (d l) (λa _ s Y q=>∃j p,aJ K s p j f q/\Grow (U S) (U p) F s H q/\(∀b,U p b->U Y b\/U S b)/\C a j s p q):=by
 unfold bX at h;cases D:b_ u e with
 |none=>rw[D]at h;exact h.elim
 |some g=>
  rw[D]at h;simp only[bY,R.bind_ok]at h;by_cases A:(cV g).Nodup
  .rw[if_pos A]at h;cases w:fR u (.inl x::g)with
   |none=>rw[w]at h;exact h.elim
   |some l=>
    rw[w]at h;simp only[bY,R.bind_ok]at h;obtain⟨y,X,W⟩:=ug r D;have o:jX K f F H (.inl x::g) (v::y):=⟨v,y,rfl,P,X⟩
    have n:aa v::eU f e=(v::y).map aa:=by rw[W];rfl
    have m:(cV (.inl x::g)).Nodup:=A;refine⟨l7 (.inl x::g) S,l,by rw[n];exact r.cal o w m,?_⟩;rw[n];cases B:d l with
    |no=>rw[B]at h;exact h.elim
    |er c G=>
     rw[B]at h;unfold im at h;dsimp only at h;by_cases i:gq (.inl x::g) G=ah
     .rw[if_pos i]at h;exact h.elim
     .rw[if_neg i]at h;exact h.elim
    |ok a G=>
     rw[B]at h;intro s p q Q T;unfold im at h;dsimp only at h;by_cases i:gq (.inl x::g) G=ah
     .rw[if_pos i]at h;obtain⟨N,J,L,O⟩:=r.called o w m Q T (λ_ z=>z) (pR i);exact⟨_,N,J,L,O,h s N q J L⟩
     .rw[if_neg i]at h;exact h.elim
  .rw[if_neg A]at h;exact h.elim
theorem gH.snoc{K:ay}{H:Hp}{F:af->Prop}{d:List (List PV)}{e:List af}{c:List PV}{b:af}{a:List V}(h:gH K H F d e)(g:H b=aa (.lst a))(f:aR K H F c a):gH K H F (d++[c]) (e++[b]):=zi h ⟨a,g,f⟩
section
variable{X:Cx}{E:XK}{n:eF}{x:Str}{N':List Str}{cap:List Nat}
theorem Si{elt O:aA}{px:Pos}{di:aj->R (List PV)}{de:aj->R PO}(hi:DI X E (.Name x px) O di)(he:∀C d f N M,DN (bu X n N' C d f N M) E0 elt de){F:af->Prop}{S:Nat->af->Prop}{ε:aj}{B:St}{H:Hp}{Q:VK} (rl:aJ X.K F S ε B H) (h:Ok X.K E B F S H (yJ cap di de ε) (λpo _ G W r=>∀a Sa,ff X.K r G po a Sa->(∀b,Sa b->H b=ae/\¬G b/\¬U W b/\∃o,r b=aa o/\eV o)->Q (.ref a) r)):y4 (lv X (.Name x px) O) (λB H Q=>∀C d f N M,mR (bu X n N' C d f N M) [] B H Q) (λB H Q=>∀C d f N M,gh (bu X n N' C d f N M) elt B H Q) cap B H Q:=by
 refine hi F S ε B H _ rl ((Ok.bind h).imp λK ε1 F1 S1 H1 r1 g1 h1 J vs RR rs hz hw keep l hl=>?_);have h1:=h1.bind;have hvl:vs.length=K.length:=rs.len;have a0:Al F1 F1 H1 (upd H1 l (.lst [])):=Al.new0 hl;have nF1:¬F1 l:=λz=>by obtain⟨o,q⟩:=r1.ex l z;rw[hl]at q;cases q
 have nS1:¬U S1 l:=λζ=>by obtain⟨i,z⟩:=ζ;obtain⟨_,_,o,q,_⟩:=r1.foot i l z;rw[hl]at q;cases q
 have hH:H l=ae:=pA g1 hl;refine⟨λi m Y r=>m=K.length-i/\i<=K.length/\∃G W ε' T u,aJ X.K G W ε' B r/\Grow (U S1) (U W) F1 G H1 r/\Y=u.map .ref/\r l=aa (.lst Y)/\¬G l/\¬U W l/\gH X.K r G T u/\u.Nodup/\l∉u/\(∀b∈u,H b=ae/\¬G b/\¬U W b)/\u.length<=i /\ Ok X.K E B F1 S1 H1 (pq cap de (K.drop i) T ε') (λys' D F2 S2 H2=>Ok X.K E B F2 S2 H2 (R.ok (PO.lls ys') D) (λpo _ G W r=>∀a Sa,ff X.K r G po a Sa->(∀b,Sa b->H b=ae/\¬G b/\¬U W b/\∃o,r b=aa o/\eV o)->Q (.ref a) r)),⟨_,rfl,jO _,F1,S1,ε1,[],[],r1.al a0,a0.grow,rfl,upd_same,nF1,nS1,Paired.nil,vR,(by simp),(by simp),aZ _,h1⟩,?_⟩;rintro i m Y H2 ⟨rfl,hi,F2,S2,D,T,u,r2,g2,rfl,el,nF2,nS2,p,nd,nl,A,hyl,q2⟩;have RH:=keep S2 F2 H2 g2;by_cases a8:i<K.length
 .obtain⟨v,hv⟩:∃v,vs[i]?=aa v:=⟨_,dP ∅⟩
  obtain⟨go,yl⟩:=(hw H2 RH i).1 v hv;refine .inr ⟨go,λv' r y=>⟨[aa v'],rfl,rfl,?_⟩⟩;obtain⟨e1,e2⟩:=yl v' r y;subst e1 e2;obtain⟨px',hx,rx⟩:=rs.back hv;have ed:K.drop i=px'::K.drop (i+1):=by rw[qx a8];congr 1;exact(cA.mp hx).2
  rw[ed]at q2;have rx2:=rx.grow g2 r1.fit;intro C d f N M;have e0:=lc (X:=bu X n N' C d f N M) (E:=E0);refine Bx.mk λag s I=>?_;refine Ft ag s _ r _ I ?_;simp only[if_true];have q5:Ok X.K E B F1 S1 H1 ((bC (bX cap de px' D)).bind λy D=>match y with
   |.lst Y=>pq cap de (K.drop (i+1)) (T++[Y]) D
   |_=>.no) _:=q2
  obtain⟨Sc,sc,rc,okc⟩:=NH r2 rx2 (Ok.bindB q5 g2);intro C d f N M;refine he C d f N M F2 Sc sc _ r _ rc (okc.imp λy _ F4 S4b H4 _ _ ⟨ε4,S4,r4,g4,u4,q6⟩ a Sa ow fr=>?_);obtain⟨el4,nF4,nS4⟩:=g4.stay el nS2 nF2;cases y with
  |dK _=>exact q6.elim
  |lls _=>exact q6.elim
  |ins _ _=>exact q6.elim
  |dT _=>exact q6.elim
  |inl _ _ _ _=>exact q6.elim
  |lst Y=>
   obtain⟨⟨us,hA,hR⟩,mC⟩:=ow;obtain⟨f1,f2,f3,o,f4,f5⟩:=fr a ((mC a).mpr rfl);have nS4a:¬U S4 a:=λz=>(u4 a z).elim f3 λζ=>by obtain⟨j,w⟩:=ζ;obtain⟨_,_,o',w1,_⟩:=r2.foot j a w;rw[f1]at w1;cases w1
   have gx:a≠l:=by rintro rfl;rw[el]at f1;cases f1
   have kpA:∀b o,b∈u->r b=aa o->H4 b=aa o/\¬F4 b/\¬U S4 b:=λb o g w=>g4.stay w (A b g).2.2 (A b g).2.1;have inA:∀b∈u,∃vs,r b=aa (.lst vs):=λb g=>by
    obtain⟨j,hj⟩:=zx g;obtain⟨xs',Dp⟩:∃z,T[j]?=aa z:=by have:=(cA.mp hj).1;rw[p.len]at this;exact⟨_,dP this⟩
    obtain⟨b',L,k1,k2,_⟩:=p.get Dp;rw[hj]at k1;cases k1;exact⟨L,k2⟩
   have Z:gH X.K H4 F4 T u:=p.mono (λ_ _ z=>z.grow g4 r2.fit) λb o g w=>(kpA b o g w).1;have haas:a∉u:=λz=>by obtain⟨L,w⟩:=inA a z;rw[f1]at w;cases w
   obtain⟨gl,P,r5⟩:=r4.lay (o':=.lst (u.map .ref++[.ref a])) el4 trivial nF4 nS4;have g5:=(g2.trans g4).lay (o':=.lst (u.map .ref++[.ref a])) hl;have hHa:H a=ae:=pA g1 (pA g2 f1);refine⟨el4,?_,_,∅,rfl,a8,F4,S4,ε4,T++[Y],u++[a],r5,g5,by simp,upd_same,nF4,nS4,?_,?_,?_,?_,by simp;lia,q6⟩
   .rw[bZ];lia
   .exact gH.snoc (Z.mono (λ_ _ z=>z.grow gl P) λb o g w=>by rw[bf (by rintro rfl;exact nl g)];exact w) (by rw[bf gx];exact hA) (hR.grow gl P)
   .rw[v6];refine⟨nd,by simp,λb g c hc=>?_⟩;simp at hc;subst hc;rintro rfl;exact haas g
   .simp only[gv,gQ,not_or];exact⟨nl,dz gx⟩
   .intro b g;simp only[gv,gQ]at g;rcases g with g|rfl
    .obtain⟨L,w⟩:=inA b g;exact⟨(A b g).1,(kpA b _ g w).2⟩
    .exact⟨hHa,f2,nS4a⟩
 .have e:i=K.length:=∅
  subst e;refine .inl ⟨(hw H2 RH _).2 hvl.symm,?_⟩;rw[zu]at q2;refine q2 F2 S2 H2 r2 g2 F2 S2 H2 r2 (Grow.refl ..) l (λb=>b=l\/b∈u) ⟨u,el,p,nd,nl,λb=>kU⟩ λb z=>?_;rcases z with rfl|g
  .exact⟨hH,nF2,nS2,_,el,trivial⟩
  .obtain⟨j,hj⟩:=zx g;obtain⟨xs',Dp⟩:∃z,T[j]?=aa z:=by have:=(cA.mp hj).1;rw[p.len]at this;exact⟨_,dP this⟩
   obtain⟨b',L,k1,k2,_⟩:=p.get Dp;rw[hj]at k1;cases k1;exact⟨(A b g).1,(A b g).2.1,(A b g).2.2,_,k2,trivial⟩
variable{pin:List Nat}
theorem Pn{F:af->Prop}{S:Nat->af->Prop}{g:aj}{d:St}{H:Hp}{D:j5}{i:Nat}{dn:aj->R PO}(C:i∉pin)(K:aJ X.K F S g d H)(h:iz X.K E pin d F S H (cU i dn g) D):Ok X.K E d F S H (dn g) (λu _ l s f=>∀a r,ff X.K f l u a r->(∀b,r b->H b=ae/\¬l b/\¬U s b/\∃o,f b=aa o/\eV o)->D.nx (d.set i (aa (.ref a))) f):=by
 unfold cU at h;cases q:dn g with
 |no=>rw[q]at h;exact h.elim
 |er c w=>rw[q]at h;exact λx l s f A G=>h x l s d f A G (jh.refl _ _)
 |ok u m=>
  rw[q]at h;simp only[R.bind_ok]at h;intro J L I y e a r B v;by_cases p:i<m.length
  .rw[if_pos p]at h;refine h J _ _ I (y.setOwn p B λb z=>(v b z).2) ⟨e.fro,e.keep,e.there,e.fnew,λb ⟨j,z⟩=>?_⟩ (jh.set C);rcases z with z|⟨_,z⟩
   .exact e.onew b ⟨j,z.1⟩
   .exact .inr (v b z).1
  .rw[if_neg p]at h;exact h.elim
theorem EC{F:af->Prop}{S:Nat->af->Prop}{j:aj}{e:St}{H:Hp}{D:j5}{i:Nat}{dn:aj->R PO}(P:i∉pin)(rl:aJ X.K F S j e H)(h:iz X.K E pin e F S H (bM i (dF dn) j) D):Ok X.K E e F S H (dn j) (λp _ m s g=>∀a d,ff X.K g m p a d->(∀b,d b->H b=ae/\¬m b/\¬U s b/\∃o,g b=aa o/\eV o)->D.nx (e.set i (aa (.ref a))) g):=by
 unfold bM dF at h;cases r:dn j with
 |no=>rw[r]at h;exact h.elim
 |er c I=>rw[r]at h;exact λx m s g M Z=>h x m s e g M Z (jh.refl _ _)
 |ok p G=>
  rw[r]at h;intro B A l L f a d N v;cases p with
  |dK q=>exact h.elim
  |lls cD=>exact h.elim
  |ins C fs=>exact h.elim
  |dT q=>exact h.elim
  |inl C fs y u=>exact h.elim
  |lst u=>
   have W:∀b,d b->¬U A b/\∃o,l b=aa o:=λb z=>let ⟨_,_,x3,o,x4,_⟩:=v b z;⟨x3,o,x4⟩
   obtain⟨⟨J,Q,O⟩,T⟩:=N;have Y:Grow (U S) (U A) F (λb=>B b\/d b) H l:=⟨λb z=>.inl (f.fro b z),f.keep,f.there,λb z=>z.elim (f.fnew b) λw=>.inr (.inl (v b w).1),f.onew⟩
   have K:aL X.K l (λb=>B b\/d b) (.lst u) (.ref a):=⟨a,J,rfl,.inl Q,.inr ((T a).mpr rfl),aR.mono (λ_ z=>.inl z) (λ_ _ _ z=>z) (λ_ _ z _=>z) _ _ O⟩
   exact h _ _ _ l ((L.more W).set K) (Y.trans (Grow.less i)) (jh.set P)
section
variable{b a:aA}{y:Str}{f g d c:Pos}{j:aj->R (List PV)}{dt:aj->R Bool}{de:aj->R PV}{l:aj->R PO}{e:List aA}
theorem Kl(i:Nat)(P:X.N.Nodup)(B:iQ X n x N' cap)(O:X.calm=ah)(L:DI X E (.Name x f) a j)(G:∀C m o q p,DF (bu X n N' C m o q p) E0 e dt) (N:∀C m o q p,DE (bu X n N' C m o q p) E0 b de)(K:i∉pin:=by decide) (z:X.N[i]?=aa y:=by rfl) (A:Loc X.env.scope y:=by first|exact Or.inl rfl|exact Or.inr rfl) (w:ju (.ListComp b [⟨.Name x f,a,e,0⟩] n d) (aa (.Name y g)) c.line X.env=pure ah:=by rfl)(M:X.fn y=ah\/X.env.scope.names.lookup y=aa .local:=by first|exact .inl rfl|exact .inr rfl) (J:∀x,lz a X.env x=pure x:=by intro _;rfl):DS X E pin (.Assign [.Name y g] (.ListComp b [⟨.Name x f,a,e,0⟩] n d) c) (bM i (dF (bO cap j dt de))):=λF S T r H D v h=>fM (HG (wi:=lv X (.Name x f) a) (ts:=λr H Q=>∀C m o q p,mR (bu X n N' C m o q p) e r H Q) (te:=λr H Q=>∀C m o q p,gh (bu X n N' C m o q p) b r H Q) B O vJ (λC m o q p u s r H Q I h=>(h C m o q p).run u s I) (λC m o q p u s r H Q I h=>(h C m o q p).run u s I) P z A w M J) (FO L G N v (EC K v h))
theorem OE(i:Nat)(O:X.N.Nodup)(B:iQ X n x N' cap)(N:X.calm=ah)(K:DI X E (.Name x f) a j)(M:∀C m o q p,DN (bu X n N' C m o q p) E0 b l)(J:i∉pin:=by decide) (z:X.N[i]?=aa y:=by rfl) (A:Loc X.env.scope y:=by first|exact Or.inl rfl|exact Or.inr rfl) (w:ju (.ListComp b [⟨.Name x f,a,[],0⟩] n d) (aa (.Name y g)) c.line X.env=pure ah:=by rfl)(L:X.fn y=ah\/X.env.scope.names.lookup y=aa .local:=by first|exact .inl rfl|exact .inr rfl) (G:∀x,lz a X.env x=pure x:=by intro _;rfl):DS X E pin (.Assign [.Name y g] (.ListComp b [⟨.Name x f,a,[],0⟩] n d) c) (cU i (yJ cap j l)):=λF S P r H D v h=>fM (HG (wi:=lv X (.Name x f) a) (ts:=λr H Q=>∀C m o q p,mR (bu X n N' C m o q p) [] r H Q) (te:=λr H Q=>∀C m o q p,gh (bu X n N' C m o q p) b r H Q) B N vJ (λC m o q p u s r H Q I h=>(h C m o q p).run u s I) (λC m o q p u s r H Q I h=>(h C m o q p).run u s I) O z A w L G) (Si K M v (Pn J v h))
end
def rh:List PV->Option PO
 |[.str y]=>aa (.lst (y.map λc=>.str [c]))
 |_=>ae
theorem O7{K:ay}:lZ K (λb H Q=>∃y:Tx,b=[tV y]/\y.length<=bv/\∀l,H l=ae->Q (.ref l) (upd H l (.lst (y.map sg)))) rh:=λF H b g Q h f c e q=>by
 unfold rh at e;split at e
 .cases e;obtain⟨v,rfl,rfl,d⟩:=gY c;exact⟨_,rfl,d,λl a=>q l F _ _ (Al.new0 a) (uJ a (AB _)) (u5 a f trivial)⟩
 .cases e
end
def fX(a:List Nat):Nat->aj->Bool
 |_,[]=>ah
 |i,.own c::b=>a.contains i&&gE c&&fX a (i+1) b
 |i,_::b=>fX a (i+1) b
theorem uA{c:List Nat}:∀{b:aj}{k:Nat},fX c k b=ah->∀(i:Nat) a,b[i]?=aa (.own a)->k+i∈c/\gE a=ah
 |[],_,_,i,a,e=>by simp at e
 |.own q::b,k,h,0,a,e=>by simp only[CT,Option.some.injEq,Slot.own.injEq]at e;subst e;simp only[fX,h_]at h;exact⟨by simpa using h.1.1,h.1.2⟩
 |.own q::b,k,h,i+1,a,e=>by simp only[fX,h_]at h;have:=uA (k:=k+1) h.2 i a (by simpa using e);rwa[v7,zy]at this
 |.val q::b,k,h,0,a,e=>by simp at e
 |.none::b,k,h,0,a,e=>by simp at e
 |.val q::b,k,h,i+1,a,e=>by have:=uA (k:=k+1) (by simpa[fX]using h) i a (by simpa using e);rwa[v7,zy]at this
 |.none::b,k,h,i+1,a,e=>by have:=uA (k:=k+1) (by simpa[fX]using h) i a (by simpa using e);rwa[v7,zy]at this
def bU(len:Nat)(b:List Nat)(g:aj->R Slot):aj->R Slot:=λa=>if a.length=len/\fX b 0 a=ah then g a else .no
theorem dA{q:ip}{P:aQ}{w:aI}{K:ay}{o:Str->Option ai}{g:aB}{x:Str}{c:bn}{N b:List Str}{k n:Nat}{d:aj->R aM}{pin:List Nat}(D:cY K o x c)(G:cJ N b (a_ c))(y:N.length=b.length+n)(B:∀(kV p u:ai) (F:Option af) (l C:ai) (m:List ai),m.length=b.length->hZ (kM x x (lh c) (iY c) (a_ c) .none kV p u F l C) ⟨m,[]⟩=pure (b.zip m))(v:∀(f:af) (l:ai) (A:aX) (j:List Env) (s:ao) (H:Hp) (E:XK),g7 k (A.deeper (kL x (a_ c) s.heap.objs.size f l))->jg (j3 q P w K o g N x (a_ c) f l A j s H E) E pin (iY c) d):c8 q P w K o g x (k+1) b (cg K (bU b.length pin (bS n d))):=by
 have no:∀{a},bU b.length pin (bS n d) a≠.no->a.length=b.length/\fX pin 0 a=ah:=λ{a} h=>by
  unfold bU at h;by_cases z:a.length=b.length/\fX pin 0 a=ah
  .exact z
  .rw[if_neg z]at h;exact absurd rfl h
 exact SD D G y B (λa h=>(no h).1) (λa h i r e=>by have:=uA (no h).2 i r e;rwa[nG]at this) (λa h=>by unfold bU;rw[if_pos (no h)]) v
theorem Nc{f:af}{r:ja}{u:ip}{P:aQ}{w:aI}{K:ay}{q:Str->Option ai}{j:aB}{x a:Str}{g:bn}{N c:List Str}{k n:Nat}{d:aj->R aM}{pin:List Nat}(J:pG K x a g f r)(I:cJ N c (a_ g))(C:N.length=c.length+n)(D:∀(kV p y:ai) (G:Option af) (m F:ai) (o:List ai),o.length=c.length->hZ (kM x a (lh g) (iY g) (a_ g) .none kV p y G m F) ⟨o,[]⟩=pure (c.zip o))(B:∀(f:af) (m:ai) (A:aX) (l:List Env) (s:ao) (H:Hp) (E:XK),g7 k (A.deeper (kL a (a_ g) s.heap.objs.size f m))->jg (j3 u P w K q j N a (a_ g) f m A l s H E) E pin (iY g) d):lg P w K q j u (k+1) f r c (cg K (bU c.length pin (bS n d))):=by
 have no:∀{b},bU c.length pin (bS n d) b≠.no->b.length=c.length/\fX pin 0 b=ah:=λ{b} h=>by
  unfold bU at h;by_cases z:b.length=c.length/\fX pin 0 b=ah
  .exact z
  .rw[if_neg z]at h;exact absurd rfl h
 exact F7 J I C D (λb h=>(no h).1) (λb h i v e=>by have:=uA (no h).2 i v e;rwa[nG]at this) (λb h=>by unfold bU;rw[if_pos (no h)]) B
theorem Hy{P:List ai->Prop}(h:∀a,P [a])(c:List ai)(d:c.length=1):P c:=by
 cases c with
 |nil=>cases d
 |cons a r=>cases r with
  |nil=>exact h a
  |cons b r=>cases d
theorem HX{P:List ai->Prop}(h:∀a b,P [a,b])(c:List ai)(d:c.length=2):P c:=by
 cases c with
 |nil=>cases d
 |cons a r=>exact Hy (P:=λr=>P (a::r)) (h a) r (zz d)
theorem E6{P:List ai->Prop}(h:∀a b c,P [a,b,c])(d:List ai)(e:d.length=3):P d:=by
 cases d with
 |nil=>cases e
 |cons a r=>exact HX (P:=λr=>P (a::r)) (h a) r (zz e)
theorem Rs{P:List ai->Prop}(h:∀a b c d,P [a,b,c,d])(e:List ai)(f:e.length=4):P e:=by
 cases e with
 |nil=>cases f
 |cons a r=>exact E6 (P:=λr=>P (a::r)) (h a) r (zz f)
theorem TB{d:ja}{c:List Str}(h:∀a,hZ d ⟨[a],[]⟩=pure (c.zip [a]))(b:List ai)(e:b.length=1):hZ d ⟨b,[]⟩=pure (c.zip b):=Hy (P:=λb=>hZ d ⟨b,[]⟩=pure (c.zip b)) h b e
theorem Tk{e:ja}{d:List Str}(h:∀a b,hZ e ⟨[a,b],[]⟩=pure (d.zip [a,b]))(c:List ai)(f:c.length=2):hZ e ⟨c,[]⟩=pure (d.zip c):=HX (P:=λc=>hZ e ⟨c,[]⟩=pure (d.zip c)) h c f
theorem Tu{f:ja}{e:List Str}(h:∀a b c,hZ f ⟨[a,b,c],[]⟩=pure (e.zip [a,b,c]))(d:List ai)(g:d.length=3):hZ f ⟨d,[]⟩=pure (e.zip d):=E6 (P:=λd=>hZ f ⟨d,[]⟩=pure (e.zip d)) h d g
theorem TQ{g:ja}{f:List Str}(h:∀a b c d,hZ g ⟨[a,b,c,d],[]⟩=pure (f.zip [a,b,c,d]))(e:List ai)(i:e.length=4):hZ g ⟨e,[]⟩=pure (f.zip e):=Rs (P:=λe=>hZ g ⟨e,[]⟩=pure (f.zip e)) h e i
theorem i6{P:aQ}{w:aI}{X:Cx}:u9 (cE P w) X E0:=λ_ _ _ _ _ _ _ h=>by obtain⟨a,T,c,b,_,_,_,_,_,_,_,z⟩:=h;exact z.elim
theorem jn:fF "len"=aa (.builtin "len"):=by decide +kernel
theorem B_:fF "all"=aa (.builtin "all"):=by decide +kernel
theorem mQ:fF "sorted"=aa (.builtin "sorted"):=by decide +kernel
theorem r8:fF "isinstance"=aa (.builtin "isinstance"):=by decide +kernel
theorem Pk:fF "int"=aa (.type "int"):=by decide +kernel
theorem O9:fF "bool"=aa (.type "bool"):=by decide +kernel
theorem NI:fF "str"=aa (.type "str"):=by decide +kernel
theorem xH:fF "list"=aa (.type "list"):=by decide +kernel
theorem n_:fF "tuple"=aa (.type "tuple"):=by decide +kernel
theorem Nz:fF "set"=aa (.type "set"):=by decide +kernel
def pY:aA->Bool
 |.Starred _ _=>ah
 |_=>ak
theorem kn{e:aA}{es:List aA}{env:Env}(h:pY e=ak):a9 (e::es) env=(ak,bh e env)::a9 es env:=by
 cases e <;> first|rfl|cases h
section
variable{X:Cx}{E:XK}{e:aA}{a:List aA}{d:aj->R PV}{b:aj->R (List PV)}{c:aj->R (List dE)}
theorem aW(g:DE X E e d)(f:DA X E a b)(h:pY e=ak:=by rfl):DA X E (e::a) (aC d b):=NZ g f (kn h)
theorem aU(g:DE X E e d)(f:DG X E a c)(h:pY e=ak:=by rfl):DG X E (e::a) (gV d c):=Lo g f (kn h)
end
def yg:List ai:=[.type "ValueError",.type "Exception",.type "BaseException",.type "object"]
theorem Rg{K:ay}{h:aB}{C:af}{B:List ai}{nw:String}(X:K.In h)(q:tz K C B nw=ah):∃g N v o bs D i a F c E A z y x w f,h.get? C=aa (excClassObj v o C N bs g D i a F c E A z y x w nw)/\h.Ns N f/\f "__init__"=ae/\OwnTail h B g:=by
 unfold tz at q;split at q
 case h_2=>cases q
 case h_1 d0 cdata slots look=>
  split at q
  case h_2=>cases q
  case h_1 C2 tl s0 s1 s2 s3 nn s5 em es=>
   rw[h_,h_,h_,h_,h_]at q;obtain⟨⟨⟨⟨⟨u,s⟩,e⟩,r⟩,b⟩,p⟩:=q;have n:=beq_iff_eq.mp u;have m:=beq_iff_eq.mp s;have d:=beq_iff_eq.mp p;subst n m;cases cdata;dsimp only at em e b d;subst em;have l:=Je _ |>.mp e
   subst l;have j:slots=#[s0,s1,s2,s3,aa (.builtin nn),s5]:=by cases slots;exact congrArg Array.mk es
   subst j;exact⟨tl,_,_,_,_,_,_,_,_,_,d0,s0,s1,s2,s3,s5,_,X _ _ look,Heap.Ns.of_isNs (PySem.W.isNs_of_in X b),PySem.W.nsMap_none_of_in X b d,PySem.W.tail_of_in X r⟩
theorem Ls{K:ay}{h:aB}{a:Str->Option ai}{x:Str}{C:af}{B:List ai}{nw:String}(X:K.In h)(e:a x=aa (.ref C))(q:tz K C B nw=ah):OwnCls x C B nw a h:=⟨e,Rg X q⟩
def subB(K:ay)(D C:af):Bool:=match K.lookup C with
 |some ⟨_,_,.cls a,_⟩=>a.mro.contains (.ref D)
 |_=>ak
def F_(K:ay)(C:af):Bool :=
 zc K (.ref C) "__getattribute__" == aa (aa (.builtin "BaseException.__getattribute__"))&&zc K (.ref C) "__getattr__" == aa ae&&zc K (.ref C) "__class__" == aa (aa (.builtin "object.__class__")) &&
 PySem.W.specialIn K (.builtin "object.__class__") "__get__" == aa (aa (.builtin "getset_descriptor.__get__"))&&PySem.W.takesIn K (.builtin "object.__class__") == aa ah&&PySem.W.mroIn K C (.type "object") == aa ah&&PySem.W.mroIn K C (.type "BaseException") == aa ah&&(PySem.W.clsIn K C).isSome
def zS(K:ay):Bool:=K.all λp=>match p.2.cls with
 |.type t=>t != "list"
 |_=>ah
theorem Hc{a:af}{o:Obj}:∀{K:ay},K.lookup a=aa o->(a,o)∈K
 |[],e=>by cases e
 | (b,u)::K,e=>by
  rw[kR]at e;cases q:a == b with
  |true=>rw[q]at e;cases e;rw[beq_iff_eq.mp q];exact f8 ..
  |false=>rw[q]at e;exact fj _ (Hc e)
theorem FS{K:ay}{H:Hp}{F:af->Prop}:∀a:List Int,aR K H F (a.map .int) (a.map V.int)
 |[]=>rfl
 |x::a=>⟨.int x,a.map V.int,rfl,rfl,FS a⟩
theorem QI{K:ay}{H:Hp}{a:af}{b:List V}(h:zS K=ah)(s:cz K H a b):Rd H a (.lst b):=by
 rcases s with s|⟨o,d,n,c,e,_⟩
 .exact s
 .have:=ki.mp h _ (Hc c);rw[e]at this;simp at this
theorem Ro{K:ay}{g:aj->R Slot}{H:Hp}{a:af}{c:List Int}{E:XK}(d:Rd H a (.lst (c.map V.int)))(h:g [.val (.lst (c.map .int))]=.ok (.val (.bl ah)) [.val (.lst (c.map .int))]):cg K g [.ref a] H (λv _=>v=.bl ah) E:=by
 refine⟨λb=>b=a,λ_ _=>False,[.val (.lst (c.map .int))],⟨rfl,λb e=>?_,λi pv e=>?_,λi l e=>?_,λi b z=>z.elim,λi j b z=>z.elim⟩,?_⟩
 .subst e;rcases d with d|⟨o,d⟩ <;> exact⟨_,d⟩
 .cases i with
  |zero=>cases e;exact⟨_,rfl,a,_,rfl,d,rfl,FS c⟩
  |succ i=>simp at e
 .cases i with
  |zero=>cases e
  |succ i=>simp at e
 .rw[h];exact λv q n p m _ _ f _ _=>f.1
theorem TJ{K:ay}{x:Str}{i:Int}{t:Tok}(e:fo K cZ x=aa (aa (.int i t))):∃t,fo K cZ x=aa (aa (.int i t)):=⟨t,e⟩
theorem TC{K:ay}{x:Str}{l:Tx}{t:Tok}(e:fo K cZ x=aa (aa (.str (tS l) t))):∃t,fo K cZ x=aa (aa (.str (tS l) t)):=⟨t,e⟩
def c9(K:ay)(x:Str)(a:bn):Prop:=∃f oc e kV g d i b h c,fo K cZ x=aa (aa (.ref f))/\K.lookup f=aa ⟨oc,e,.func (kM x x (lh a) (iY a) (a_ a) .none kV g d i b h),c⟩/\zf K b x=ah/\vM K (.ref f)=ah
theorem Tj{K:ay}{x:Str}{b:bn}{f:af}{oc kV i g d j:ai}{h m:Option af}{e:Array (Option ai)}(a:fo K cZ x=aa (aa (.ref f)))(l:K.lookup f=aa ⟨oc,h,.func (kM x x (lh b) (iY b) (a_ b) .none kV i g m d j),e⟩)(c:zf K d x=ah) (k:vM K (.ref f)=ah):c9 K x b:=⟨f,oc,h,kV,i,g,m,d,j,e,a,l,c,k⟩
theorem c9.at{K:ay}{h:aB}{b:Str->Option ai}{x:Str}{st:bn}(d:c9 K x st)(X:K.In h)(G:h.Ns cZ b):cY K b x st:=by obtain⟨f,oc,i,kV,j,g,o,n,m,e,a,l,c,k⟩:=d;exact⟨f,_,nH X G a,G5 l c k⟩
def ji(a:List (aF×PV))(k:aF):Option PV:=(a.find? λb=>decide (b.1=k)).map (·.2)
def nZ(a:List (aF×PV))(k:aF)(v:PV):List (aF×PV):=if(a.any λb=>decide (b.1=k))=ah then a.map (λb=>if b.1=k then(b.1,v)else b)else a++[(k,v)]
def jl:PV->Option aF
 |.int i=>aa (.inl i)
 |.str x=>aa (.inr (tS x))
 |_=>ae
section
variable{K:ay}{F:af->Prop}{S:Nat->af->Prop}{ε:aj}{l:St}{H:Hp}{i:Nat}{d:List (aF×PV)}{f:List (aF×V)}{a:af}
theorem sE{x:PV}{v:V}{k:aF}(r:aL K H F x v)(e:jl x=aa k):v=kV k:=by
 cases x <;> simp[jl]at e
 .subst e;exact r
 .subst e;exact r.1
theorem i8.len(h:i8 K H F d f):f.length=d.length:=by
 unfold i8 at h
 induction h with
 |nil=>rfl
 |cons _ _ b=>simp[b]
theorem i8.val(h:i8 K H F d f)(k:aF):(∃x v,ji d k=aa x/\jH f k=aa v/\aL K H F x v)\/(ji d k=ae/\jH f k=ae):=by
 unfold i8 at h
 induction h with
 |nil=>exact .inr ⟨rfl,rfl⟩
 |@cons p q ps qs r _ ih=>
  by_cases e:p.1=k
  .refine .inl ⟨p.2,q.2,by simp[ji,lC,e],?_,r.2⟩;rw[yF (by rw[<-r.1];exact e)]
  .have b:¬q.1=k:=by rw[<-r.1];exact e
   rw[xX b];have:ji (p::ps) k=ji ps k:=by simp[ji,lC,e]
   rw[this];exact ih
theorem i8.any(h:i8 K H F d f)(k:aF):(d.any λb=>decide (b.1=k))=f.any λb=>decide (b.1=k):=by
 unfold i8 at h
 induction h with
 |nil=>rfl
 |cons r _ c=>rw[oH,oH,c,r.1]
theorem i8.put(h:i8 K H F d f)(k:aF){x:PV}{v:V}(r:aL K H F x v):i8 K H F (nZ d k x) (fQ f k v):=by
 unfold nZ fQ;rw[h.any k];split
 .rename_i b;clear b;unfold i8 at h ⊢
  induction h with
  |nil=>exact .nil
  |@cons p q ps qs r1 _ ih=>
   refine .cons ?_ ih;dsimp only;by_cases e:p.1=k
   .rw[if_pos e,if_pos (by rw[<-r1.1];exact e)];exact⟨r1.1,r⟩
   .rw[if_neg e,if_neg (by rw[<-r1.1];exact e)];exact r1
 .exact zi h ⟨rfl,r⟩
theorem aJ.dkAt(r:aJ K F S ε l H)(e:ε[i]?=aa (.own (.dK d))):∃a f,l[i]?=aa (aa (.ref a))/\H a=aa (.dK f)/\i8 K H F d f/\S i a/\∀b,S i b->b=a:=by obtain⟨a,n,⟨g,m,j⟩,c⟩:=r.own i _ e;exact⟨a,g,n,m,j,(c a).mpr rfl,λb h=>(c b).mp h⟩
theorem aJ.updO{p po':PO}{o':HO}(r:aJ K F S ε l H)(e:ε[i]?=aa (.own p))(P:gE p=ah)(G:l[i]?=aa (aa (.ref a)))(O:eV o')(h:∀A,(∀x v,aL K H F x v->aL K A F x v)->(∀x v,aR K H F x v->aR K A F x v)->A a=aa o'->∀J:af->Prop,(∀b,J b↔b=a)->ff K A F po' a J):aJ K F S (ε.set i (.own po')) l (L2.upd H a o')/\Grow (U S) (U S) F F H (L2.upd H a o'):=by
 obtain⟨Q,I,N⟩:=r.own i p e;rw[G]at I;cases I;have s:=Fc N P;have C:S i a:=(s a).mpr rfl;have E:∀b,S i b->b=a:=λb z=>(s b).mp z;have B:i<ε.length:=(cA.mp e).1;have g:Grow (U S) (U S) F F H (L2.upd H a o'):=⟨λ_ z=>z,λb o q n=>by rw[bf (by rintro rfl;exact n ⟨i,C⟩)];exact q,λb o q=>by
  by_cases D:b=a
  .subst D;exact⟨_,upd_same⟩
  .exact⟨o,by rw[bf D];exact q⟩,λ_ z=>.inl z,λ_ z=>.inl z⟩
 refine⟨⟨by rw[gb];exact r.len,λb z=>let ⟨o,q⟩:=r.ex b z;g.there b o q,λj pv q=>?_,λj p q=>?_,λj b z=>?_,r.dist⟩,g⟩
 .have m:i≠j:=by rintro rfl;rw[dY B]at q;cases q
  rw[cS m]at q;obtain⟨v,y,u⟩:=r.val j pv q;exact⟨v,y,u.grow g r.fit⟩
 .by_cases m:i=j
  .subst m;rw[dY B]at q;cases q;exact⟨a,G,h _ (λ_ _ z=>z.grow g r.fit) (λ_ _ z=>z.grow g r.fit) upd_same _ s⟩
  .rw[cS m]at q;obtain⟨c,y,u⟩:=r.own j p q;refine⟨c,y,u.mono (λ_ _ z=>z.grow g r.fit) (λ_ _ z=>z.grow g r.fit) λb o z w=>?_⟩;rw[bf (by rintro rfl;exact m (r.dist i j b C z))];exact w
 .obtain⟨⟨p,y⟩,u,o,M,L⟩:=r.foot j b z;by_cases m:i=j
  .subst m;rw[E b z];exact⟨⟨_,dY B⟩,by rw[<-E b z];exact u,_,upd_same,O⟩
  .exact⟨⟨p,by rw[cS m];exact y⟩,u,o,by rw[bf (by rintro rfl;exact m (r.dist i j b C z))];exact M,L⟩
end
def d_(b:aj)(i:Nat):Option (List (aF×PV)):=match b[i]? with
 |some (.own (.dK a))=>aa a
 |_=>ae
theorem l_{b:aj}{i:Nat}{a:List (aF×PV)}(h:d_ b i=aa a):b[i]?=aa (.own (.dK a)):=by
 unfold d_ at h;split at h
 .cases h;assumption
 .cases h
section
variable{X:Cx}{E:XK}{pin:List Nat}{e b c:aA}{de db f:aj->R PV}{d:Pos}
def xS:aj->R PO:=λa=>.ok (.dK []) a
theorem Lu:DN X E (.Dict [] [] d) xS:=λF S l i H Q g h=>cn Md λp a=>by
 have al:Al F F H (upd H p (.dK [])):=Al.new0 a;refine h F S _ (g.al al) al.grow p (λb=>b=p) ⟨⟨[],upd_same,.nil⟩,λb=>kU⟩ λb z=>?_;subst z;refine⟨a,λz=>?_,λ⟨j,z⟩=>?_,_,upd_same,trivial⟩
 .obtain⟨o,q⟩:=g.ex b z;rw[a]at q;cases q
 .obtain⟨_,_,o,q,_⟩:=g.foot j b z;rw[a]at q;cases q
def kE(i:Nat)(db:aj->R PV):aj->R PV:=λε=>(aO (d_ ε i) ε).bind λ_ ε=>(db ε).bind λk ε1=>(aO (d_ ε1 i) ε1).bind λa ε1=>aO ((jl k).bind λk=>ji a k) ε1
theorem Fz(i:Nat){y:Str}{A:Pos}(hu:X.A.units+64<cLine)(L:DE X E b db)(N:X.N[i]?=aa y:=by rfl)(O:eC X.env.scope y:=by first|exact Or.inl rfl|exact Or.inr (Or.inl rfl)|exact Or.inr (Or.inr rfl))(K:(y==("__debug__":Str))=ak:=by decide) (P:(y==("__classdict__":Str))=ak:=by decide) (I:A2 b:=by exact λ_ _=>rfl):DE X E (.Subscript (.Name y A) b d) (kE i db):=λF S o z H Q p h=>by
 unfold kE at h;cases n:d_ o i with
 |none=>rw[n]at h;exact h.elim
 |some s=>
  rw[n]at h;simp only[bY,R.bind_ok]at h;obtain⟨a,B,w,_⟩:=p.dkAt (l_ n);refine cn (JW ∅ (fA N O K P) bF I) ⟨.ref a,w,L F S o z H _ p ((Ok.bind h).imp λk j Y T W r g1 q u C=>?_)⟩;cases m:d_ j i with
  |none=>rw[m]at q;exact q.elim
  |some G=>
   rw[m]at q;simp only[bY,R.bind_ok]at q;obtain⟨a',Z,g,M,J,_⟩:=r.dkAt (l_ m);rw[w]at g;cases g;cases l:jl k with
   |none=>rw[l]at q;exact q.elim
   |some D=>
    rw[l,gR]at q;rw[sE C l];rcases J.val D with⟨x,v,h1,h2,h3⟩|⟨h1,h2⟩
    .rw[h1]at q;exact⟨a,v,rfl,by rw[<-h2];exact mI.k M,q Y T W r (Grow.refl ..) v h3⟩
    .rw[h1]at q;exact q.elim
def l9(i:Nat)(db f:aj->R PV):aj->R PV:=λg=>(aO (d_ g i) g).bind λ_ g=>(db g).bind λk h=>(f h).bind λz a=>(aO (d_ a i) a).bind λj a=>aO ((jl k).map λk=>(ji j k).getD z) a
theorem GY(i:Nat){y:Str}{j g:Pos}(hu:X.A.units+64<cLine)(hb:DE X E b db)(hc:DE X E c f)(hN:X.N[i]?=aa y:=by rfl)(eI:eC X.env.scope y:=by first|exact Or.inl rfl|exact Or.inr (Or.inl rfl)|exact Or.inr (Or.inr rfl))(hd:(y==("__debug__":Str))=ak:=by decide) (bD:(y==("__classdict__":Str))=ak:=by decide)(l:qu (.Name y j) "get" X.env (bh (.Name y j) X.env)=bh (.Name y j) X.env:=by rfl) (B:(g.endLine == d.line)=ah:=by rfl) (s1:pY b=ak:=by rfl) (Z:pY c=ak:=by rfl):DE X E (.Call (.Attribute (.Name y j) "get" g) [b,c] [] d) (l9 i db f):=λF S J I H Q L h=>by
 have K:a9 [b,c] X.env=[(ak,bh b X.env),(ak,bh c X.env)]:=by rw[kn s1,kn Z];rfl
 have m:M2 X (.Name y j) "get" g b c d:=⟨l,by rw[K];rfl,B,by rw[K];rfl⟩
 unfold l9 at h;cases G:d_ J i with
 |none=>rw[G]at h;exact h.elim
 |some M=>
  rw[G]at h;simp only[bY,R.bind_ok]at h;obtain⟨a,Y,O,A,_⟩:=L.dkAt (l_ G);refine cn (Mj ∅ (fA hN eI hd bD) bF bF m) ⟨.ref a,O,a,rfl,.inl ⟨_,.inl A⟩,hb F S J I H _ L ((Ok.bind h).imp λk p F1 S1 H1 r1 g1 q u ru=>?_)⟩;refine hc F1 S1 p I H1 _ r1 ((Ok.bind q).imp λz o W P T s g2 q w r=>?_);cases D:d_ o i with
  |none=>rw[D]at q;exact q.elim
  |some kvs=>
   rw[D]at q;simp only[bY,R.bind_ok]at q;obtain⟨a',ws,n,N,hk,_⟩:=s.dkAt (l_ D);rw[O]at n;cases n;cases C:jl k with
   |none=>rw[C]at q;exact q.elim
   |some ky=>
    rw[C,oK]at q;rw[sE ru C];rcases hk.val ky with⟨x,v,l,h2,B⟩|⟨l,h2⟩
    .rw[l]at q;exact⟨aa v,by rw[<-h2];exact mI.k N,q W P T s (Grow.refl ..) v B⟩
    .rw[l]at q;exact⟨ae,by rw[<-h2];exact mI.k N,q W P T s (Grow.refl ..) w r⟩
def jF(i:Nat)(db de:aj->R PV):aj->R aM:=λj=>(de j).bind λy g=>(aO (d_ g i) g).bind λ_ g=>(db g).bind λk a=>(aO (d_ a i) a).bind λh a=>(aO (jl k) a).bind λk a=>if h.length<bv then .ok .next (a.set i (.own (.dK (nZ h k y))))else .no
theorem yY(i:Nat){y:Str}{C j:Pos}(hu:X.A.units+64<cLine)(hb:DE X E b db)(he:DE X E e de)(hN:X.N[i]?=aa y:=by rfl)(eI:eC X.env.scope y:=by first|exact Or.inl rfl|exact Or.inr (Or.inl rfl)|exact Or.inr (Or.inr rfl))(hd:(y==("__debug__":Str))=ak:=by decide) (bD:(y==("__classdict__":Str))=ak:=by decide) (Y:ju e (aa (.Subscript (.Name y C) b j)) d.line X.env=pure ak:=by rfl):DS X E pin (.Assign [.Subscript (.Name y C) b j] e d) (jF i db de):=λF S K o H D P h=>by
 refine fM (EG ∅ (fA hN eI hd bD) bF bF Y) (he F S K o H _ P (h.bindE.imp λy l F1 S1 H1 r g1 q v N=>?_));cases B:d_ l i with
 |none=>rw[B]at q;exact q.elim
 |some I=>
  rw[B]at q;simp only[bY,R.bind_ok]at q;obtain⟨a,L,z,ha0,_⟩:=r.dkAt (l_ B);refine⟨.ref a,z,hb F1 S1 l o H1 _ r (q.bindE.imp λk p F2 S2 H2 G g2 g u O=>?_)⟩;cases n:d_ p i with
  |none=>rw[n]at g;exact g.elim
  |some w=>
   rw[n]at g;simp only[bY,R.bind_ok]at g;obtain⟨a',M,m,ha,J,_⟩:=G.dkAt (l_ n);rw[z]at m;cases m;cases A:jl k with
   |none=>rw[A]at g;exact g.elim
   |some s=>
    rw[A]at g;simp only[bY,R.bind_ok]at g;split at g
    .rename_i Z;rw[sE O A];have eJ:=J.put s (N.grow g2 r.fit);obtain⟨Q,g3⟩:=G.updO (po':=.dK (nZ w s y)) (o':=.dK (fQ M s v)) (l_ n) rfl z trivial λH' W m2 x Sa T=>⟨⟨_,x,eJ.mono W⟩,T⟩
     exact⟨a,_,rfl,za.k ha (by rw[J.len];exact gK Z kw),g F2 S2 o _ Q g3 (jh.refl _ _)⟩
    .exact g.elim
end
section
variable{X:Cx}
theorem KV.at{kvs:List (aF×V)}{a:List (aF×ai)}(r:KV kvs a){i:Nat}{k:aF}{u:ai}(h:a[i]?=aa (k,u)):∃v,kvs[i]?=aa (k,v)/\RelV v u:=by
 unfold KV at r
 induction r generalizing i with
 |nil=>simp at h
 |@cons p q ps qs r1 _ ih=>
  cases i with
  |zero=>simp at h;subst h;exact⟨p.2,by simp[show k=p.1 from r1.1.symm],r1.2⟩
  |succ i=>exact ih (by simpa using h)
end
section
variable{X:Cx}{E:XK}{pin:List Nat}{e b c o:aA}{de db n d:aj->R PV}{m:aj->R (List PV)}{g p q l:Pos}
def A_(i j:Nat)(d:aj->R PV):aj->R aM:=λε=>(d ε).bind λx ε1=>match x with
 |.tup [a,b]=>.ok .next ((ε1.set i (.val a)).set j (.val b))
 |_=>.no
theorem R4(i j:Nat){x y:Str}{k:Nat}{f s r:Pos}(hc:X.calm=ah)(A:X.N.Nodup)(he:DE X E e de)(hp:i∉pin:=by decide)(Q:j∉pin:=by decide)(hi:X.N[i]?=aa x:=by rfl)(hj:X.N[j]?=aa y:=by rfl)(W:Loc X.env.scope x:=by first|exact Or.inl rfl|exact Or.inr rfl) (T:Loc X.env.scope y:=by first|exact Or.inl rfl|exact Or.inr rfl)(hf:X.fn x=ah\/X.env.scope.names.lookup x=aa .local:=by first|exact .inl rfl|exact .inr rfl) (u:X.fn y=ah\/X.env.scope.names.lookup y=aa .local:=by first|exact .inl rfl|exact .inr rfl)(Z:Ck [.Tuple [.Name x s,.Name y r] k f] e g.line X.env=pure ak:=by rfl) (Y:Cm [.Tuple [.Name x s,.Name y r] k f] e X.env=pure ae:=by rfl):DS X E pin (.Assign [.Tuple [.Name x s,.Name y r] k f] e g) (A_ i j de):=λF S G B H D M h=>by
 refine fM (AM bF (GX hc (y3 (qh A hi W hf) (y3 (qh A hj T u) GQ))) Z Y rfl) (he F S G B H _ M (h.bindE.imp λz C F1 S1 H1 P g1 w v K=>?_));split at w
 .rename_i a b;obtain⟨p,us,rfl,dR,L⟩:=K;obtain⟨J,ra,rfl,O,I,rb,rfl,N,rfl⟩:=L;refine⟨p,_,rfl,cp.of dR,rfl,J,_,rfl,I,_,rfl,rfl,?_⟩;exact w F1 _ _ H1 ((P.set O).set N) ((Grow.less i).trans (Grow.less j)) ((jh.set hp).trans (jh.set Q))
 .exact w.elim
def MN(K:ay)(r:V->List V->Hp->VK->Prop)(i:TE)(t:TA):TE:=λf H Q=>i f H λx h=>(∃p a,x=.ref p/\h p=aa (.tup a))/\t f h λa j=>r x a j Q
theorem Kq{i:Str}{w:String}{r:V->List V->Hp->VK->Prop}{B:TE}{t:TA}{j f:Pos}{es:List aA}(u:PySem.Slot "tuple" i w)(oY:typeOf (.builtin w)=pure (.type "method_descriptor"))(hm:vK X w r)(ho:PE X o B)(ha:PA X (e::es) t)(W:qu o i X.env (bh o X.env)=bh o X.env:=by rfl)(N:((ef f (a9 (e::es) X.env)).all (λx=>!x.1)&&(vO f (vP [] X.env)).all (λx=>x.1.isSome)&&decide ((e::es).length+([]:List lB).length+(if([]:List lB).isEmpty then 0 else 1)<30))=ah:=by rfl)(T:(j.endLine == f.line)=ah:=by rfl) (hs:a9 (e::es) X.env=(ak,bh e X.env)::a9 es X.env:=by rfl) (K:(ef f (a9 es X.env)).any (·.1)=ak:=by rfl):PE X (.Call (.Attribute o i j) (e::es) [] f) (MN X.K r B t):=by
 intro A s y H Q I h;refine wpAny_Call_method_late W N T rfl (aP (ho A s y H _ I h) λv C h'=>?_);obtain⟨x,G,F,S,⟨p,J,rfl,hp⟩,Z⟩:=h';cases S;obtain⟨_,its,_,⟨ob,e1,e2,_⟩,o2,e3,e4⟩:=(show cc X.prog X.w G C.heap p (.tup J)from F.hok p _ hp)
 refine⟨"tuple",w,PySem.F.plainAttrs_tuple,u,oY,⟨ob,e1,e2⟩,λa z=>?_,?_⟩
 .cases z;exact⟨o2,e3,e4⟩
 have D:=ha f A C y G _ F Z;rw[hs]at D ⊢;refine IK (by show(ak||(ef f (a9 es X.env)).any (·.1))=ak;rw[K] <;> rfl) (Cu ?_);exact aP D λM O h2=>by obtain⟨L,H2,I2,P,Y⟩:=h2;exact hm A O y H2 (.ref p) L (.ref p) M Q I2 rfl P Y
def rH(f:List PV->PV->Option PV)(d de:aj->R PV):aj->R PV:=λε=>(d ε).bind λx h=>match x with
 |.tup i=>(de h).bind λk a=>aO (f i k) a
 |_=>.no
theorem Gh{f a:Pos}(W:DE X E o d)(Z:DE X E e de)(T:qu o "count" X.env (bh o X.env)=bh o X.env:=by rfl)(P:(f.endLine == a.line)=ah:=by rfl) (eQ:pY e=ak:=by rfl):DE X E (.Call (.Attribute o "count" f) [e] [] a) (rH pL d de):=λF S J B H Q N h=>by
 have y:=kn (es:=[]) (env:=X.env) eQ;refine cn (Kq PySem.F.slot_tuple_count PySem.F.type_tuple_count JR bF (j7 bF kA y) T (by rw[y];rfl) P y rfl) (W F S J B H _ N ((Ok.bind h).imp λx j F1 S1 H1 s g1 A v L=>?_));split at A
 .rename_i K;obtain⟨p,C,rfl,D,M⟩:=L;refine⟨⟨p,C,rfl,D⟩,Z F1 S1 j B H1 _ s ((Ok.bind A).imp λk I F2 S2 H2 O G q w r=>?_)⟩;unfold pL at q;cases i:dS k with
  |none=>rw[i]at q;exact q.elim
  |some z=>
   cases u:j_ K with
   |none=>rw[i,u]at q;exact q.elim
   |some ws=>rw[i,u]at q;obtain⟨rfl,Y⟩:=z_ (M.grow G s.fit) u;rw[kr r i];exact⟨p,C,z,rfl,rfl,cp.of (G.imm s.fit D id),w_ i,Y,q F2 S2 H2 O (Grow.refl ..) _ rfl⟩
 .exact A.elim
end
section
variable{X:Cx}
theorem Fk:∀(a:List ai) (ss:List Str),a.length=ss.length->(∀(i:Nat) v x,a[i]?=aa v->ss[i]?=aa x->∃t,v=.str x t)->d9 a ss
 |[],[],_,_=>.nil
 |v::a,x::ss,b,h=>by obtain⟨t,rfl⟩:=h 0 v x rfl rfl;exact .cons x t (Fk a ss (zz b) λi v x d c=>h (i+1) v x (by simpa using d) (by simpa using c))
 |[],_::_,b,_=>by cases b
 |_::_,[],b,_=>by cases b
theorem Sm(S:X.calm=ah):gg X (.builtin "sorted") (λo H Q=>∃(d:af) (kvs:List (aF×V)) (a:List Tx),o=[.ref d]/\H d=aa (.dK kvs)/\kvs.map (·.1)=a.map (λx=>Sum.inr (tS x))/\a.length<64/\∀l,H l=ae->Q (.ref l) (upd H l (.lst (cN (aV a))))):=by
 intro ag s F H o us Q I r h;obtain⟨d,kvs,a,rfl,P,A,w,q⟩:=h;obtain⟨u,rfl,J⟩:=vals1 r;cases J;obtain⟨z,N,p,b,Z⟩:=Bj I.hok P;obtain⟨ep,G⟩:=Z.dictAt;have D:p.length=a.length:=by have g:=congrArg ng A;simp only[bZ]at g;rw[<-b.length];exact g
 refine M0 (PySem.W.kdu_collect (PySem.W.kdl_dict (knd:=gF X.prog X.w) (kvs:=p) (ep:=ep) N) (xg (I.ok.hd S)) G (by rw[<-b.length];exact z) λB j aw k m=>?_);have f:d9 aw.toList (a.map tS):=by
  refine Fk _ _ (by rw[bZ,fk,m.1,D]) λi v x g c=>?_;obtain⟨L,y,Y,W⟩:=m.2 i v (by rw[<-oO];exact g);obtain⟨wv,T,_⟩:=KV.at b Y;have n:(kvs.map (·.1))[i]?=aa L:=by rw[d7,T];rfl
  rw[A,d7]at n;rw[d7]at c;cases C:a[i]? with
  |none=>rw[C]at c;cases c
  |some l=>
   rw[C]at n c;cases n;cases c;exact Value.isStrOf_shape W
 have E:Inv X ag F H {s with heap:=B,toks:=j}:=I.kept (t':=j) k;refine⟨a.map tS,f,by rw[fk,m.1,D];exact w,λc K aN e M O b1 b2 b3=>?_⟩;exact⟨.ref _,_,Inv.sorted (s1:={s with heap:=B,toks:=j}) (ss:=a.map tS) E rfl w M O b1 b2 b3,rfl,q _ E.fresh⟩
def p_:List (aF×PV)->Option (List Tx)
 |[]=>aa []
 | (.inr k,_)::r=>(p_ r).map (k.cps.toList::·)
 |_=>ae
theorem GM:∀{a:List (aF×PV)}{b:List Tx},p_ a=aa b->a.map (·.1)=b.map (λx=>Sum.inr (tS x))
 |[],b,h=>by cases h;rfl
 | (.inr k,_)::r,b,h=>by simp only[p_,kQ]at h;obtain⟨l,c,rfl⟩:=h;rw[bE,bE,GM c,pU]
 | (.inl _,_)::_,_,h=>by cases h
def xP(b:List (aF×PV)):Option PO:=(p_ b).bind λa=>if a.length<64/\(∀x∈a,x.length<=bv)then aa (.lst (am (aV a)))else ae
def oB(i:Nat):aj->R PO:=λε=>(aO (d_ ε i) ε).bind λa ε=>aO (xP a) ε
theorem i8.keys{K:ay}{H:Hp}{F:af->Prop}{a:List (aF×PV)}{b:List (aF×V)}(h:i8 K H F a b):b.map (·.1)=a.map (·.1):=by
 unfold i8 at h
 induction h with
 |nil=>rfl
 |cons r _ c=>rw[bE,bE,c,r.1]
theorem NY{E:XK}(i:Nat){y:Str}{u p f:Pos}(I:X.calm=ah)(B:X.mg "sorted"=ae)(K:X.N[i]?=aa y:=by rfl)(M:eC X.env.scope y:=by first|exact Or.inl rfl|exact Or.inr (Or.inl rfl)|exact Or.inr (Or.inr rfl))(G:(y==("__debug__":Str))=ak:=by decide) (N:(y==("__classdict__":Str))=ak:=by decide) (D:Gl X "sorted":=by rfl):DN X E (.Call (.Name "sorted" p) [.Name y u] [] f) (oB i):=λF S s O H Q d h=>by
 unfold oB at h;cases n:d_ s i with
 |none=>rw[n]at h;exact h.elim
 |some g=>
  rw[n]at h;simp only[bY,R.bind_ok]at h;obtain⟨a,v,L,J,C,P,_⟩:=d.dkAt (l_ n);unfold xP at h;cases m:p_ g with
  |none=>rw[m]at h;exact h.elim
  |some q=>
   rw[m,gR]at h;split at h
   .rename_i r;refine cn (mY (Sm I) D B mQ (j7 (fA K M G N) kA (kn rfl)) (by decide) (by decide) (kn rfl) rfl) ⟨.ref a,L,a,v,q,rfl,J,by rw[C.keys];exact GM m,r.1,λl e=>?_⟩;have al:Al F F H (L2.upd H l (.lst (cN (aV q)))):=Al.new0 e;refine h F S _ (d.al al) al.grow l (λc=>c=l) ⟨⟨_,upd_same,To.mpr ⟨rfl,λx A=>r.2 x ((fc _).mem_iff.mp A)⟩⟩,λc=>kU⟩ λb z=>?_;subst z;exact⟨e,λz=>zA (d.ex _ z) (λo w=>by rw[e]at w;cases w),λ⟨j,z⟩=>zA (d.foot j b z).2.2 (λo w=>by rw[e]at w;cases w.1),_,upd_same,trivial⟩
   .exact h.elim
end
end Pu
namespace L2
def ye:Bool->Keyed->Array Keyed->Nat->Nat->Nat->StateT bK Sem (Option Nat):=sortPriv% PySem.Builtin.gallop
def GR:Array Keyed->Array Keyed->StateT bK Sem (Array Keyed):=sortPriv% PySem.Builtin.mergeLo
def GU:Array Keyed->Array Keyed->StateT bK Sem (Array Keyed):=sortPriv% PySem.Builtin.mergeHi
def kO(κ:KeyKind)(p:Keyed):κ.α:=(κ.keyOf p.1).getD κ.dflt
def gW(b:KeyKind)(p:Keyed):Prop:=∃a,b.keyOf p.1=aa a
theorem gW.k{κ:KeyKind}{p:Keyed}(h:gW κ p):κ.keyOf p.1=aa (kO κ p):=by obtain⟨a,e⟩:=h;unfold kO;rw[e];rfl
def hG(κ:KeyKind)(kz:gw)(c:aQ)(w:aI)(A:aX)(s:ao):Prop :=
 ∀(E:ai->ao->Prop) (x y:ai) (a b:κ.α) {Q:Bool->ao->Prop},κ.keyOf x=aa a->κ.keyOf y=aa b->Q (κ.blt a b) s->aq (au c w) A (keyLt' kz x y) Q E s
theorem OneLt.ok{κ:KeyKind}(e:κ.OneLt){prog:aQ}{w:aI}{A:aX}{s:ao}:hG κ oneType' prog w A s:=λE x y a b _ d c h=>by rw[keyLt'_oneType];exact e prog w A E s x y a b d c h
structure SB(kz:gw)(st:bK):Prop where
 kind:kindOf st=kz
 failed:failedOf st=ae
section
variable{a:aQ}{w:aI}{A:aX}{E:ai->ao->Prop}{s:ao}{d:KeyKind}{f:gw}
theorem vI(i:hG d f a w A s){b:bK}{x y:Keyed}{Q:Option Bool->bK->Prop}(g:SB f b)(e:gW d x)(c:gW d y)(h:Q (aa (d.blt (kO d x) (kO d y))) b):wpS (au a w) A E s (lt' x y) Q b:=by rw[lt'_eq];refine aK (lG ?_);rw[g.kind];exact aK (tD (CK (i _ x.1 y.1 _ _ e.k c.k ⟨rfl,aS h⟩)))
theorem fz{c:bK}{b:Array Keyed}{i:Nat}(e:i<b.size){Q:Keyed->bK->Prop}(h:Q b[i] c):wpS (au a w) A E s (elem' b i) Q c:=by rw[elem'_eq,getElem?_pos b i e];exact aS h
def DU(c:Bool)(e:Keyed)(h:Array Keyed)(g i:Nat):StateT bK Sem (Option Bool) :=elem' h (g+i) >>= λx=>if c=ah then lt' x e else lt' e x >>= λb=>pure (b.map (!·))
def l0(d:KeyKind)(b:Bool)(c x:Keyed):Bool:=if b=ah then d.blt (kO d x) (kO d c)else !d.blt (kO d c) (kO d x)
theorem M9(o:hG d f a w A s){j:bK}{c:Bool}{g:Keyed}{e:Array Keyed}{b i:Nat}{Q:Option Bool->bK->Prop}(n:SB f j)(m:gW d g)(p:b+i<e.size)(l:gW d e[b+i])(h:Q (aa (l0 d c g e[b+i])) j):wpS (au a w) A E s (DU c g e b i) Q j:=by
 refine aK (fz p ?_);cases c
 .rw[if_neg (by simp)];exact aK (vI o n m l (aS h))
 .rw[if_pos rfl];exact vI o n l m h
theorem G2(hO:hG d f a w A s){K:bK}(hk:SB f K){G:Bool}{L:Keyed}{z:Array Keyed}{u n b:Nat}{Q:Option Nat->bK->Prop}(qJ:gW d L)(hn:u+n<=z.size)(hA:∀i (g:i<z.size),gW d z[i]) (B:Nat->Bool) (hB:∀i (g:i<n),B i=l0 d G L (z[u+i]'∅))(mono:∀i j,i<=j->j<n->B j=ah->B i=ah) (hh:b<n)(h:∀r,r<=n->(∀i,i<r->B i=ah)->(∀i,r<=i->i<n->B i=ak)->Q (aa r) K):wpS (au a w) A E s (ye G L z u n b) Q K:=by
 have O:∀{i:Nat}{Q:Option Bool->bK->Prop},i<n->Q (aa (B i)) K->wpS (au a w) A E s (DU G L z u i) Q K:=λ{i Q} g q=>M9 hO hk qJ ∅ (hA _ _) (by rw[<-hB i g];exact q);have dn:∀{i j:Nat},i<=j->j<n->B i=ak->B j=ak:=λ{i j} bL hj hf=>by
  cases e:B j with
  |false=>rfl
  |true=>rw[mono i j bL hj e]at hf;cases hf
 unfold ye;refine aK (O hh ?_);cases hr:B b with
 |true=>
  dsimp only;rw[if_pos rfl];refine aK (gT (gU (I:=λx c m=>m=K/\∃l o,c=(ae,l,o)/\l<o/\x<o/\l<n-b/\B (b+l)=ah) (Q:=λc m=>m=K/\∃l o,c=(ae,l,o)/\l<o/\l<n-b/\B (b+l)=ah/\(n-b<=o\/(o<n-b/\B (b+o)=ak))) ?_ ?_ ?_) ?_)
  .rintro x c m _ P ⟨rfl,l,o,rfl,J,T,H,p⟩;dsimp only;by_cases v:o ≥ n-b
   .rw[if_pos v];exact aS ⟨rfl,l,o,rfl,J,H,p,.inl v⟩
   .rw[if_neg v];refine aK (O ∅ ?_);cases e:B (b+o)with
    |true=>exact aS ⟨rfl,o,2*o+1,rfl,∅,∅,∅,e⟩
    |false=>exact aS ⟨rfl,l,o,rfl,J,H,p,.inr ⟨∅,e⟩⟩
  .rintro c m ⟨rfl,l,o,rfl,J,T,H,p⟩;exact⟨rfl,l,o,rfl,J,H,p,.inl ∅⟩
  .exact⟨rfl,0,1,rfl,∅,∅,∅,hr⟩
  rintro c m ⟨rfl,l,o,rfl,J,H,p,M⟩;dsimp only;have Z:b+l+1<=b+min o (n-b):=∅
  have Y:b+min o (n-b)<=n:=∅
  have X:∀i,i<b+l+1->B i=ah:=λi g=>mono i (b+l) ∅ ∅ p;have W:∀i,b+min o (n-b)<=i->i<n->B i=ak:=by
   intro i g N;rcases M with M|⟨M,S⟩
   .lia
   .exact dn (i:=b+o) ∅ N S
  clear M;generalize b+l+1=lo at *;generalize b+min o (n-b)=g at *;refine aK (gT (gU (I:=λx c y=>y=m/\∃l r,c=(ae,l,r)/\l<=r/\r<=n/\r-l<=n-x/\(∀i,i<l->B i=ah)/\(∀i,r<=i->i<n->B i=ak)) (Q:=λc y=>y=m/\∃l r,c=(ae,l,r)/\r<=n/\(∀i,i<r->B i=ah)/\(∀i,r<=i->i<n->B i=ak)) ?_ ?_ ?_) ?_)
  .rintro x c y _ P ⟨rfl,l,r,rfl,a1,F,a3,D,C⟩;dsimp only;by_cases v:l ≥ r
   .rw[if_pos v];have:l=r:=∅
    subst this;exact aS ⟨rfl,l,l,rfl,F,D,C⟩
   .rw[if_neg v];refine aK (O ∅ ?_);cases e:B (l+(r-l) / 2)with
    |true=>exact aS ⟨rfl,_,r,rfl,∅,F,∅,λi g=>mono _ _ ∅ ∅ e,C⟩
    |false=>exact aS ⟨rfl,l,_,rfl,∅,∅,∅,D,λi g N=>dn (i:=l+(r-l) / 2) g N e⟩
  .rintro c y ⟨rfl,l,r,rfl,a1,F,a3,D,C⟩;have:l=r:=∅
   subst this;exact⟨rfl,l,l,rfl,F,D,C⟩
  .exact⟨rfl,lo,g,rfl,Z,Y,∅,X,W⟩
  .rintro c y ⟨rfl,l,r,rfl,F,D,C⟩;exact aS (h r F D C)
 |false=>
  dsimp only;rw[if_neg (by simp)];refine aK (gT (gU (I:=λx c m=>m=K/\∃l o,c=(ae,l,o)/\l<o/\x<o/\l<=b/\B (b-l)=ak) (Q:=λc m=>m=K/\∃l o,c=(ae,l,o)/\l<o/\l<=b/\B (b-l)=ak/\(b+1<=o\/(o<=b/\B (b-o)=ah))) ?_ ?_ ?_) ?_)
  .rintro x c m _ P ⟨rfl,l,o,rfl,J,T,H,p⟩;dsimp only;by_cases v:o ≥ b+1
   .rw[if_pos v];exact aS ⟨rfl,l,o,rfl,J,H,p,.inl v⟩
   .rw[if_neg v];refine aK (O ∅ ?_);cases e:B (b-o)with
    |false=>exact aS ⟨rfl,o,2*o+1,rfl,∅,∅,∅,e⟩
    |true=>exact aS ⟨rfl,l,o,rfl,J,H,p,.inr ⟨∅,e⟩⟩
  .rintro c m ⟨rfl,l,o,rfl,J,T,H,p⟩;exact⟨rfl,l,o,rfl,J,H,p,.inl ∅⟩
  .exact⟨rfl,0,1,rfl,∅,∅,∅,hr⟩
  rintro c m ⟨rfl,l,o,rfl,J,H,p,M⟩;dsimp only;have Z:b+1-min o (b+1)<=b-l:=∅
  have Y:b-l<=n:=∅
  have X:∀i,i<b+1-min o (b+1)->B i=ah:=by
   intro i g;rcases M with M|⟨M,S⟩
   .lia
   .exact mono i (b-o) ∅ ∅ S
  have W:∀i,b-l<=i->i<n->B i=ak:=λi g N=>dn (i:=b-l) ∅ N p;clear M p;generalize b+1-min o (b+1)=lo at *;generalize b-l=g at *;refine aK (gT (gU (I:=λx c y=>y=m/\∃l r,c=(ae,l,r)/\l<=r/\r<=n/\r-l<=n-x/\(∀i,i<l->B i=ah)/\(∀i,r<=i->i<n->B i=ak)) (Q:=λc y=>y=m/\∃l r,c=(ae,l,r)/\r<=n/\(∀i,i<r->B i=ah)/\(∀i,r<=i->i<n->B i=ak)) ?_ ?_ ?_) ?_)
  .rintro x c y _ P ⟨rfl,l,r,rfl,a1,F,a3,D,C⟩;dsimp only;by_cases v:l ≥ r
   .rw[if_pos v];have:l=r:=∅
    subst this;exact aS ⟨rfl,l,l,rfl,F,D,C⟩
   .rw[if_neg v];refine aK (O ∅ ?_);cases e:B (l+(r-l) / 2)with
    |true=>exact aS ⟨rfl,_,r,rfl,∅,F,∅,λi g=>mono _ _ ∅ ∅ e,C⟩
    |false=>exact aS ⟨rfl,l,_,rfl,∅,∅,∅,D,λi g N=>dn (i:=l+(r-l) / 2) g N e⟩
  .rintro c y ⟨rfl,l,r,rfl,a1,F,a3,D,C⟩;have:l=r:=∅
   subst this;exact⟨rfl,l,l,rfl,F,D,C⟩
  .exact⟨rfl,lo,g,rfl,Z,Y,∅,X,W⟩
  .rintro c y ⟨rfl,l,r,rfl,F,D,C⟩;exact aS (h r F D C)
end
section
variable{κ:KeyKind}{kz:gw}
def bP(κ:KeyKind)(x y:Keyed):Prop:=κ.kle (kO κ x) (kO κ y)
theorem bP.trans{x y z:Keyed}(b:bP κ x y)(a:bP κ y z):bP κ x z:=qz b a
structure MS(κ:KeyKind)(T o ra rb:List Keyed):Prop where
 perm:(o++(ra++rb)).Perm T
 so:o.Pairwise (bP κ)
 sa:ra.Pairwise (bP κ)
 sb:rb.Pairwise (bP κ)
 oa:∀x∈o,∀y∈ra,bP κ x y
 ob:∀x∈o,∀y∈rb,bP κ x y
theorem MS.stepA{T o x e d:List Keyed}(h:MS κ T o (x++e) d)(g:∀u∈x,∀v∈d,bP κ u v):MS κ T (o++x) e d:=by
 obtain⟨m,l,c,j,f,i⟩:=h;rw[CU]at c;refine⟨by simpa[gP]using m,?_,c.2.1,j,?_,?_⟩
 .rw[CU];exact⟨l,c.1,λu a v b=>f u a v (qk _ b)⟩
 .intro u a v b;rcases gv.mp a with a|a
  .exact f u a v (i9 _ b)
  .exact c.2.2 u a v b
 .intro u a v b;rcases gv.mp a with a|a
  .exact i u a v b
  .exact g u a v b
theorem MS.swap{T o b a:List Keyed}(h:MS κ T o b a):MS κ T o a b :=⟨(zp _ List.perm_append_comm).trans h.perm,h.so,h.sb,h.sa,h.ob,h.oa⟩
theorem MS.stepB{T o x a b:List Keyed}(h:MS κ T o a (x++b))(c:∀u∈x,∀v∈a,bP κ u v):MS κ T (o++x) a b :=(h.swap.stepA c).swap
def gI(κ:KeyKind)(T:List Keyed)(r:Array Keyed):Prop:=r.toList.Perm T/\r.toList.Pairwise (bP κ)
theorem MS.endA{T o a:List Keyed}{r:Array Keyed}(h:MS κ T o a [])(e:r.toList=o++a):gI κ T r:=by obtain⟨f,d,c,i,b,g⟩:=h;refine⟨by rw[e];simpa using f,?_⟩;rw[e,CU];exact⟨d,c,b⟩
theorem MS.last{T o b a:List Keyed}{r:Array Keyed}(h:MS κ T o b a)(c:∀u∈a,∀v∈b,bP κ u v)(e:r.toList=o++(a++b)):gI κ T r:=by
 have d:MS κ T o b (a++[]):=by simpa using h
 exact(d.stepB c).endA (by rw[e];simp)
theorem lq(a:Array Keyed)(i j:Nat):(a.extract i j).toList=(a.toList.drop i).take (j-i):=by simp[Array.toList_extract,List.extract_eq_take_drop]
theorem rY(a:Array Keyed)(i:Nat):(a.extract i a.size).toList=a.toList.drop i:=by rw[lq,nt];simp
theorem FL{a:Array Keyed}{i:Nat}(h:i<a.size):a.toList.drop i=a[i]::a.toList.drop (i+1):=by rw[qx (by simpa using h)];simp
theorem Ic(a:Array Keyed)(i k:Nat):a.toList.drop i=(a.extract i (i+k)).toList++a.toList.drop (i+k):=by rw[lq,show i+k-i=k by lia,<-List.drop_drop,kh]
theorem re{a:Array Keyed}{i:Nat}{x:Keyed}(h:x∈a.toList.drop i):∃j,∃d:j<a.size,i<=j/\a[j]=x:=by
 obtain⟨k,c,e⟩:=nI h;rw[zB]at e;have b:i+k<a.size:=by simp at c;lia
 exact⟨i+k,b,∅,by simpa using e⟩
theorem FI{a:Array Keyed}{i k:Nat}{x:Keyed}(h:x∈(a.extract i (i+k)).toList):∃j,∃c:j<a.size,i<=j/\j<i+k/\a[j]=x:=by
 rw[lq]at h;obtain⟨m,b,e⟩:=nI h;rw[zC,zB]at e;refine⟨i+m,?_,∅,?_,by simpa using e⟩
 all_goals simp at b;lia
def u6(κ:KeyKind)(a:Array Keyed):Prop:=∀i j (b:j<a.size) (c:i<=j),bP κ (a[i]'∅) a[j]
theorem u6.pw{a:Array Keyed}(h:u6 κ a):a.toList.Pairwise (bP κ):=by rw[tE];intro i j c b d;have:=h i j (by simpa using b) ∅;simpa using this
structure fW(κ:KeyKind)(a b c:Array Keyed)(d f:Nat):Prop where
 ms:MS κ (a.toList++b.toList) c.toList (a.toList.drop d) (b.toList.drop f)
 la:d<=a.size
 lb:f<=b.size
variable{a b c:Array Keyed}{d f:Nat}
theorem fW.pushA(h:fW κ a b c d f)(g:d<a.size)(i:∀j (e:j<b.size),f<=j->bP κ a[d] b[j]):fW κ a b (c.push a[d]) (d+1) f:=by refine⟨?_,g,h.lb⟩;rw[vY];refine MS.stepA (by rw[CV,<-FL g];exact h.ms) λu m v l=>?_;obtain⟨j,e,n,rfl⟩:=re l;rw[gQ.mp m];exact i j e n
theorem fW.pushB(h:fW κ a b c d f)(g:f<b.size)(i:∀j (e:j<a.size),d<=j->bP κ b[f] a[j]):fW κ a b (c.push b[f]) d (f+1):=by refine⟨?_,h.la,g⟩;rw[vY];refine MS.stepB (by rw[CV,<-FL g];exact h.ms) λu m v l=>?_;obtain⟨j,e,n,rfl⟩:=re l;rw[gQ.mp m];exact i j e n
theorem fW.extA{k:Nat}(h:fW κ a b c d f)(o:d+k<=a.size)(l:∀i (g:i<a.size),d<=i->i<d+k->∀j (e:j<b.size),f<=j->bP κ a[i] b[j]):fW κ a b (c++a.extract d (d+k)) (d+k) f:=by refine⟨?_,o,h.lb⟩;rw[jd];refine MS.stepA (by rw[<-Ic];exact h.ms) λu n v m=>?_;obtain⟨j,e,r,rfl⟩:=re m;obtain⟨i,g,q,p,rfl⟩:=FI n;exact l i g q p j e r
theorem fW.extB{k:Nat}(h:fW κ a b c d f)(o:f+k<=b.size)(l:∀i (g:i<b.size),f<=i->i<f+k->∀j (e:j<a.size),d<=j->bP κ b[i] a[j]):fW κ a b (c++b.extract f (f+k)) d (f+k):=by refine⟨?_,h.la,o⟩;rw[jd];refine MS.stepB (by rw[<-Ic];exact h.ms) λu n v m=>?_;obtain⟨j,e,r,rfl⟩:=re m;obtain⟨i,g,q,p,rfl⟩:=FI n;exact l i g q p j e r
theorem fW.doneA(h:fW κ a b c d f)(e:f=b.size):gI κ (a.toList++b.toList) (c++a.extract d a.size++b.extract f b.size):=by have:=h.ms;rw[show b.toList.drop f=[] by rw[CW];simp[e]]at this;refine this.endA ?_;rw[jd,jd,rY,rY,show b.toList.drop f=[] by rw[CW];simp[e],jb]
theorem fW.doneB(h:fW κ a b c d f)(e:d=a.size):gI κ (a.toList++b.toList) (c++a.extract d a.size++b.extract f b.size):=by have:=h.ms;rw[show a.toList.drop d=[] by rw[CW];simp[e]]at this;refine this.swap.endA ?_;rw[jd,jd,rY,rY,show a.toList.drop d=[] by rw[CW];simp[e],jb]
theorem fW.last(h:fW κ a b c d f)(e:d+1=a.size)(n:∀j (g:j<b.size),bP κ b[j] (a[d]'∅)):gI κ (a.toList++b.toList) (c++b.extract f b.size++a.extract d a.size):=by
 refine h.ms.last (λu m v l=>?_) (by rw[jd,jd,rY,rY,gP]);obtain⟨j,g,q,rfl⟩:=re m;obtain⟨i,o,p,rfl⟩:=re l;have:i=d:=∅
 subst this;exact n j g
end
section
variable{b:aQ}{w:aI}{A:aX}{E:ai->ao->Prop}{s:ao}{a:KeyKind}{c:gw}
theorem Bz(z:hG a c b w A s){l:bK}(v:SB c l){f:Keyed}{d:Array Keyed}{base n hint:Nat}{Q:Option Nat->bK->Prop}(o:gW a f)(u:base+n<=d.size)(B:∀i (g:i<d.size),gW a d[i]) (p:∀i j (F:i<=j) (m:j<base+n),base<=i->bP a (d[i]'∅) (d[j]'∅)) (x:hint<n)(h:∀r,r<=n->(∀i (g:i<d.size),base<=i->i<base+r->bP a d[i] f)->(∀i (g:i<d.size),base+r<=i->i<base+n->a.klt (kO a f) (kO a d[i]))->Q (aa r) l):wpS (au b w) A E s (ye ak f d base n hint) Q l:=by
 refine G2 z v o u B (λi=>if g:i<n then l0 a ak f (d[base+i]'∅)else ak) (λi g=>by rw[dif_pos g]) ?_ x ?_
 .intro i j F m e;rw[dif_pos m]at e;rw[dif_pos ∅];simp only[l0,eZ,if_false,Je]at e ⊢;exact qz (p (base+i) (base+j) ∅ ∅ ∅) e
 .intro r q D C;refine h r q (λi g y G=>?_) (λi g y G=>?_)
  .have:=D (i-base) ∅;rw[dif_pos ∅]at this;simp only[l0,eZ,if_false,Je,show base+(i-base)=i by lia]at this;exact this
  .have:=C (i-base) ∅ ∅;rw[dif_pos ∅]at this;simp only[l0,eZ,if_false,Bool.not_eq_false',show base+(i-base)=i by lia]at this;exact this
theorem A4(z:hG a c b w A s){l:bK}(v:SB c l){f:Keyed}{d:Array Keyed}{base n hint:Nat}{Q:Option Nat->bK->Prop}(o:gW a f)(u:base+n<=d.size)(B:∀i (g:i<d.size),gW a d[i]) (p:∀i j (F:i<=j) (m:j<base+n),base<=i->bP a (d[i]'∅) (d[j]'∅)) (x:hint<n)(h:∀r,r<=n->(∀i (g:i<d.size),base<=i->i<base+r->a.klt (kO a d[i]) (kO a f))->(∀i (g:i<d.size),base+r<=i->i<base+n->bP a f d[i])->Q (aa r) l):wpS (au b w) A E s (ye ah f d base n hint) Q l:=by
 refine G2 z v o u B (λi=>if g:i<n then l0 a ah f (d[base+i]'∅)else ak) (λi g=>by rw[dif_pos g]) ?_ x ?_
 .intro i j F m e;rw[dif_pos m]at e;rw[dif_pos ∅];simp only[l0,if_true]at e ⊢;exact KeyOrd.klt_of_kle_of_klt (p (base+i) (base+j) ∅ ∅ ∅) e
 .intro r q D C;refine h r q (λi g y G=>?_) (λi g y G=>?_)
  .have:=D (i-base) ∅;rw[dif_pos ∅]at this;simp only[l0,if_true,show base+(i-base)=i by lia]at this;exact this
  .have:=C (i-base) ∅ ∅;rw[dif_pos ∅]at this;simp only[l0,if_true,show base+(i-base)=i by lia]at this;exact this
end
structure gG(st ax:bK):Prop where
 kind:kindOf ax=kindOf st
 arr:arrOf ax=arrOf st
 pend:bw ax=bw st
 failed:failedOf ax=failedOf st
theorem gG.rfl{st:bK}:gG st st:=⟨_root_.rfl,_root_.rfl,_root_.rfl,_root_.rfl⟩
theorem gG.sb{b:gw}{a c:bK}(h:gG a c)(k:SB b a):SB b c:=⟨h.kind.trans k.kind,h.failed.trans k.failed⟩
section
variable{d:aQ}{w:aI}{A:aX}{E:ai->ao->Prop}{s:ao}{κ:KeyKind}{kz:gw}
theorem cR{a f:Type}{M:Model}{c:Prop}[Decidable c]{t e:StateT a Sem f}{Q:f->a->Prop}{b:a}(h:c->wpS M A E s t Q b)(g:¬c->wpS M A E s e Q b):wpS M A E s (if c then t else e) Q b:=by
 split
 .exact h ‹_›
 .exact g ‹_›
def OO:Nat->StateT bK Sem Unit:=sortPriv% PySem.Builtin.setMinGallop
theorem gG.trans{a b c:bK}(f:gG a b)(e:gG b c):gG a c:=⟨e.kind.trans f.kind,e.arr.trans f.arr,e.pend.trans f.pend,e.failed.trans f.failed⟩
theorem AD{a b:bK}{g:Nat}{Q:Unit->bK->Prop}(e:gG b a)(h:∀c,gG b c->Q () c):wpS (au d w) A E s (OO g) Q a :=nJ (h _ (e.trans ⟨rfl,rfl,rfl,rfl⟩))
theorem Qb(hO:hG κ kz d w A s){M:bK}(hk:SB kz M){a b:Array Keyed}{Q:Array Keyed->bK->Prop}(ha:0<a.size)(hb:0<b.size)(hA:∀i (P:i<a.size),gW κ a[i]) (hB:∀i (P:i<b.size),gW κ b[i]) (sa:u6 κ a) (sb:u6 κ b)(h0:bP κ b[0] a[0]) (hl:∀j (q:j<b.size),bP κ b[j] a[a.size-1])(h:∀r G,gG M G->gI κ (a.toList++b.toList) r->Q r G):wpS (au d w) A E s (GR a b) Q M:=by
 have jR:∀{i:Nat} (P:i<a.size),i+1=a.size->∀j (q:j<b.size),bP κ b[j] a[i]:=λ{i} P e j q=>by
  have:i=a.size-1:=∅
  subst this;exact hl j q
 have I0:fW κ a b #[b[0]] 0 1:=by
  have B:fW κ a b #[] 0 0:=⟨⟨by simp,by simp,by simpa using sa.pw,by simpa using sb.pw,by simp,by simp⟩,∅,∅⟩
  exact B.pushB hb λj q _=>h0.trans (sa 0 j q ∅)
 unfold GR;refine aK (tD (oN ⟨rfl,?_⟩));refine aK (fz hb ?_);by_cases e1:1=b.size
 .rw[if_pos (by simp[<-e1])];exact aS (h _ _ .rfl (I0.doneA e1))
 rw[if_neg (by simpa using e1)];by_cases e2:0+1=a.size
 .rw[if_pos (by simp[<-e2])];exact aS (h _ _ .rfl (I0.last e2 (jR ∅ ∅)))
 rw[if_neg (by simpa using e2)];refine aK (lG ?_);refine aK (gT (gU (I:=λx c G=>gG M G/\∃f l p K,c=(ae,f,l,p,K)/\fW κ a b f l p/\l+1<a.size/\p<b.size/\x+1<=l+p) (Q:=λc G=>gG M G/\∃r,c.1=aa r/\gI κ (a.toList++b.toList) r) ?_ ?_ ?_) ?_);rotate_left
 .rintro c G ⟨_,f,l,p,K,rfl,z,B,u,N⟩;lia
 .exact⟨.rfl,_,0,1,_,rfl,I0,∅,∅,∅⟩
 .rintro⟨c1,c⟩ G ⟨v,r,rfl,Y⟩;exact aS (h r G v Y)
 rintro x c G _ hx ⟨v,f,l,p,K,rfl,z,B,u,N⟩;refine aK (gT (gU (I:=λy c C=>C=G/\∃f l p F D,c=(ae,f,l,p,F,D)/\fW κ a b f l p/\l+1<a.size/\p<b.size/\x+1+y<=l+p) (Q:=λc C=>C=G/\((∃r Z,c=(aa r,Z)/\gI κ (a.toList++b.toList) r)\/∃f l p F D,c=(ae,f,l,p,F,D)/\fW κ a b f l p/\l+1<a.size/\p<b.size/\x+1+1<=l+p)) ?_ ?_ ?_) ?_)
 .rintro y c C _ hy ⟨rfl,f,l,p,F,D,rfl,z,B,u,N⟩;dsimp only;refine aK (fz u (aK (fz ∅ (aK (vI hO (v.sb hk) (hB p u) (hA l ∅) ?_)))));cases e:κ.blt (kO κ b[p]) (kO κ (a[l]'∅))with
  |true=>
   dsimp only;rw[if_pos rfl];refine aK (fz u ?_);have O:=z.pushB u λj q e_=>bP.trans (lH e) (sa l j q e_);by_cases J:p+1=b.size
   .rw[if_pos (by simp[J])];exact aS ⟨rfl,.inl ⟨_,_,rfl,O.doneA J⟩⟩
   rw[if_neg (by simpa using J)];split
   .exact aS ⟨rfl,.inr ⟨_,_,_,_,_,rfl,O,∅,∅,∅⟩⟩
   .exact aS ⟨rfl,_,_,_,_,_,rfl,O,∅,∅,∅⟩
  |false=>
   dsimp only;rw[if_neg (by simp)];refine aK (fz ∅ ?_);have O:=z.pushA ∅ λj q e_=>bP.trans (show bP κ (a[l]'∅) b[p] from e) (sb p j q e_);by_cases J:l+1+1=a.size
   .rw[if_pos (by simp[J])];exact aS ⟨rfl,.inl ⟨_,_,rfl,O.last J (jR ∅ ∅)⟩⟩
   rw[if_neg (by simpa using J)];split
   .exact aS ⟨rfl,.inr ⟨_,_,_,_,_,rfl,O,∅,∅,∅⟩⟩
   .exact aS ⟨rfl,_,_,_,_,_,rfl,O,∅,∅,∅⟩
 .rintro c C ⟨rfl,f,l,p,F,D,rfl,z,B,u,N⟩;lia
 .exact⟨rfl,_,_,_,_,_,rfl,z,B,u,∅⟩
 rintro c C ⟨rfl,⟨r,Z,rfl,Y⟩|⟨f,l,p,F,D,rfl,z,B,u,N⟩⟩
 .exact aS ⟨v,r,rfl,Y⟩
 refine aK (tD (oN ⟨rfl,?_⟩));refine aK (gT (gU (I:=λy c C=>gG M C/\∃f l p K F D,c=(ae,f,l,p,K,F,D)/\fW κ a b f l p/\l+1<a.size/\p<b.size/\x+2+y<=l+p) (Q:=λc C=>gG M C/\((∃r Z,c=(aa r,Z)/\gI κ (a.toList++b.toList) r)\/∃f l p K F D,c=(ae,f,l,p,K,F,D)/\fW κ a b f l p/\l+1<a.size/\p<b.size/\x+1+1<=l+p)) ?_ ?_ ?_) ?_);rotate_left
 .rintro c C ⟨_,f,l,p,K,F,D,rfl,z,B,u,N⟩;lia
 .exact⟨v,_,_,_,_,_,_,rfl,z,B,u,∅⟩
 .rintro c C ⟨v,⟨r,Z,rfl,Y⟩|⟨f,l,p,K,F,D,rfl,z,B,u,N⟩⟩
  .exact aS ⟨v,r,rfl,Y⟩
  .dsimp only;refine aK (nJ (aS ⟨⟨v.kind,v.arr,v.pend,v.failed⟩,_,_,_,_,rfl,z,B,u,∅⟩))
 clear B u N z v I0 e1 e2;rintro y c C _ hy ⟨v,f,l,p,K,F,D,rfl,z,B,u,N⟩;clear hx hy;have k7:∀{i j:Nat} (L:i<=j) (q:j<b.size),bP κ (b[i]'∅) b[j]:=λ{i j} L q=>sb i j q L;have qR:∀{i j:Nat} (L:i<=j) (q:j<a.size),bP κ (a[i]'∅) a[j]:=λ{i j} L q=>sa i j q L;refine(?_:wpS (au d w) A E s _ ?Q _);extract_lets -merge x1 x2 x3 x4 x5 x6 x7 x8 x9 xa xb xc jp;have q:∀g W,gG M W->wpS (au d w) A E s (jp () g) ?Q W:=by
  intro g W H;dsimp -zeta only[jp,x1,x2,x3,x4,x5,x6,x7,x8,x9,xa,xb,xc];refine aK (AD H λW H=>?_);refine aK (fz u ?_);refine aK (Bz hO (H.sb hk) (base:=l) (n:=a.size-l) (hint:=0) (hB p u) ∅ hA (λi j L q _=>qR L ∅) ∅ λk jC eJ fJ=>?_);dsimp -zeta only;extract_lets -merge y1 jp2;have wB:∀o n,fW κ a b o n p->l+k<=n->n+1<a.size->wpS (au d w) A E s (jp2 () o n) ?Q W:=by
   intro o n X o8 e4;dsimp -zeta only[jp2,y1];refine aK (fz u ?_);have S:=X.pushB u λj q g=>lH (fJ j q ∅ ∅);refine cR (λe5=>?_) λe5=>?_
   .exact aS ⟨H,.inl ⟨_,_,rfl,S.doneA (by simpa using e5)⟩⟩
   have e5':p+1≠b.size:=by simpa using e5
   refine aK (fz ∅ ?_);refine aK (A4 hO (H.sb hk) (base:=p+1) (n:=b.size-(p+1)) (hint:=0) (hA _ _) ∅ hB (λi j L q _=>k7 L ∅) ∅ λk' m1 m2 m3=>?_);dsimp -zeta only;extract_lets -merge z1 z2 jp3;have wD:∀o m,fW κ a b o n m->p+1+k'<=m->m<b.size->wpS (au d w) A E s (jp3 () o m) ?Q W:=by
    intro o m wE e6 e7;dsimp -zeta only[jp3,z1,z2];refine aK (fz ∅ ?_);have wF:=wE.pushA ∅ (λj q g=>m3 j q ∅ ∅);refine cR (λe7=>?_) λe7=>?_
    .have T:n+1+1=a.size:=by simpa using e7
     exact aS ⟨H,.inl ⟨_,_,rfl,wF.last T (jR ∅ T)⟩⟩
    have T:n+1+1≠a.size:=by simpa using e7
    refine cR (λe8=>?_) λe8=>?_
    .exact aS ⟨H,.inr ⟨_,_,_,_,_,_,rfl,wF,∅,∅,∅⟩⟩
    .exact aS ⟨H,_,_,_,_,_,_,rfl,wF,∅,∅,∅⟩
   clear_value jp3;refine cR (λDq=>?_) (λDq=>?_)
   .have wE:=S.extB (k:=k') ∅ (λi P g1 g2 j q g3=>bP.trans (lH (m2 i P g1 g2)) (qR g3 q));refine cR (λe6=>?_) λe6=>?_
    .exact aS ⟨H,.inl ⟨_,_,rfl,wE.doneA (by simpa using e6)⟩⟩
    have e6':p+1+k'≠b.size:=by simpa using e6
    exact wD _ _ wE ∅ ∅
   .exact wD _ _ S ∅ ∅
  clear_value jp2;refine cR (λhk0=>?_) (λhk0=>?_)
  .have X:fW κ a b (f++a.extract l (l+k)) (l+k) p:=z.extA ∅ λi P g1 g2 j q g3=>(eJ i P g1 g2).trans (k7 g3 q);refine cR (λJ=>?_) λJ=>?_
   .have o8:l+k+1=a.size:=by simpa using J
    exact aS ⟨H,.inl ⟨_,_,rfl,X.last o8 (jR ∅ o8)⟩⟩
   have o8:l+k+1≠a.size:=by simpa using J
   refine cR (λe4=>?_) λe4=>?_
   .exact aS ⟨H,.inl ⟨_,_,rfl,X.doneB (by simpa using e4)⟩⟩
   have e4':l+k≠a.size:=by simpa using e4
   exact wB _ _ X ∅ ∅
  .exact wB _ _ z ∅ ∅
 exact cR (λ_=>q _ _ v) λ_=>q _ _ v
end
def Bw(d:KeyKind):KeyKind where
 α:=d.α
 blt:=λa b=>d.blt b a
 irrefl:=d.irrefl
 trans:=λa b c f e=>d.trans c b a e f
 negTrans:=λa b c h=>(d.negTrans c b a h).symm
 total:=λa b f e=>d.total a b e f
 keyOf:=d.keyOf
 dflt:=d.dflt
section
variable{κ:KeyKind}{g:gw}
theorem uf{x y:Keyed}(h:bP κ y x):bP (Bw κ) x y:=h
theorem DV{a:Array Keyed}{n:Nat}(h:0<n)(b:n<=a.size):(a.toList.take n).reverse=(a[n-1]'∅)::(a.toList.take (n-1)).reverse:=by
 obtain⟨m,rfl⟩:∃m,n=m+1:=⟨n-1,∅⟩
 rw[SS (by simp;lia),Jf];simp
theorem Hh(a:Array Keyed)(p n:Nat)(b:p<=n):a.toList.take n=a.toList.take p++(a.extract p n).toList:=by
 rw[lq]
 conv=>lhs;rw[show n=p+(n-p) by lia]
 rw[List.take_add]
theorem rM{a:Array Keyed}{n:Nat}(d:n<=a.size){x:Keyed}(h:x∈a.toList.take n):∃j,∃f:j<a.size,j<n/\a[j]=x:=by
 obtain⟨m,b,e⟩:=nI h;rw[zC]at e;have c:m<n:=by simp at b;lia
 exact⟨m,∅,c,by simpa using e⟩
theorem A7{a:Array Keyed}{p n:Nat}(d:n<=a.size){x:Keyed}(h:x∈(a.extract p n).toList):∃j,∃f:j<a.size,p<=j/\j<n/\a[j]=x:=by
 rw[lq]at h;obtain⟨m,b,e⟩:=nI h;rw[zC,zB]at e;have c:p+m<n:=by simp at b;lia
 exact⟨p+m,∅,∅,c,by simpa using e⟩
theorem pN(a:Array Keyed)(n:Nat):(a.extract 0 n).toList=a.toList.take n:=by rw[lq];simp
structure fY(κ:KeyKind)(a b c:Array Keyed)(f d:Nat):Prop where
 ms:MS (Bw κ) (a.toList++b.toList) c.toList (a.toList.take f).reverse (b.toList.take d).reverse
 la:f<=a.size
 lb:d<=b.size
variable{a b c:Array Keyed}{f d:Nat}
theorem fY.pushA(h:fY κ a b c f d)(n:0<f)(o:f-1<a.size)(i:∀j (e:j<b.size),j<d->bP κ b[j] a[f-1]):fY κ a b (c.push a[f-1]) (f-1) d:=by refine⟨?_,∅,h.lb⟩;rw[vY];refine MS.stepA (by rw[CV,<-DV n h.la];exact h.ms) λu m v l=>?_;obtain⟨j,e,p,rfl⟩:=rM h.lb (qA.mp l);rw[gQ.mp m];exact uf (i j e p)
theorem fY.pushB(h:fY κ a b c f d)(n:0<d)(o:d-1<b.size)(i:∀j (e:j<a.size),j<f->bP κ a[j] b[d-1]):fY κ a b (c.push b[d-1]) f (d-1):=by refine⟨?_,h.la,∅⟩;rw[vY];refine MS.stepB (by rw[CV,<-DV n h.lb];exact h.ms) λu m v l=>?_;obtain⟨j,e,p,rfl⟩:=rM h.la (qA.mp l);rw[gQ.mp m];exact uf (i j e p)
theorem fY.extA{p:Nat}(h:fY κ a b c f d)(e:p<=f)(n:∀i (m:i<a.size),p<=i->i<f->∀j (l:j<b.size),j<d->bP κ b[j] a[i]):fY κ a b (c++(a.extract p f).reverse) p d:=by refine⟨?_,c0 e h.la,h.lb⟩;rw[jd,Array.toList_reverse];refine MS.stepA (by rw[<-Jf,<-Hh _ _ _ e];exact h.ms) λu q v o=>?_;obtain⟨j,l,w,rfl⟩:=rM h.lb (qA.mp o);obtain⟨i,m,s,r,rfl⟩:=A7 h.la (qA.mp q);exact uf (n i m s r j l w)
theorem fY.extB{p:Nat}(h:fY κ a b c f d)(e:p<=d)(n:∀i (m:i<b.size),p<=i->i<d->∀j (l:j<a.size),j<f->bP κ a[j] b[i]):fY κ a b (c++(b.extract p d).reverse) f p:=by refine⟨?_,h.la,c0 e h.lb⟩;rw[jd,Array.toList_reverse];refine MS.stepB (by rw[<-Jf,<-Hh _ _ _ e];exact h.ms) λu q v o=>?_;obtain⟨j,l,w,rfl⟩:=rM h.la (qA.mp o);obtain⟨i,m,s,r,rfl⟩:=A7 h.lb (qA.mp q);exact uf (n i m s r j l w)
theorem z9{T:List Keyed}{r q:Array Keyed}(h:gI (Bw κ) T q)(e:r.toList=q.toList.reverse):gI κ T r:=by refine⟨by rw[e];exact(Jg _).trans h.1,?_⟩;rw[e,Jh];exact h.2
theorem fY.doneA(h:fY κ a b c f d)(e:f=0):gI κ (a.toList++b.toList) (a.extract 0 f++b.extract 0 d++c.reverse):=by have:=h.ms;rw[e,CP,List.reverse_nil]at this;refine z9 (q:=(c.toList++(b.toList.take d).reverse).toArray) (this.swap.endA (by simp)) ?_;rw[jd,jd,pN,pN,e];simp
theorem fY.doneB(h:fY κ a b c f d)(e:d=0):gI κ (a.toList++b.toList) (a.extract 0 f++b.extract 0 d++c.reverse):=by have:=h.ms;rw[e,CP,List.reverse_nil]at this;refine z9 (q:=(c.toList++(a.toList.take f).reverse).toArray) (this.endA (by simp)) ?_;rw[jd,jd,pN,pN,e];simp
theorem fY.first(h:fY κ a b c f d)(e:d=1)(p:∀j (n:j<a.size),bP κ (b[0]'(by have:=h.lb;lia)) a[j]):gI κ (a.toList++b.toList) (b.extract 0 d++a.extract 0 f++c.reverse):=by
 refine z9 (q:=(c.toList++((a.toList.take f).reverse++(b.toList.take d).reverse)).toArray) (h.ms.swap.last (λu m v l=>?_) (by simp)) ?_
 .obtain⟨i,o,s,rfl⟩:=rM h.la (qA.mp m);obtain⟨j,n,r,rfl⟩:=rM h.lb (qA.mp l);have:j=0:=∅
  subst this;exact uf (p i o)
 .rw[jd,jd,pN,pN];simp
end
section
variable{f:aQ}{w:aI}{A:aX}{E:ai->ao->Prop}{s:ao}{d:KeyKind}{l:gw}
theorem My(hO:hG d l f w A s){T:bK}(hk:SB l T){a b:Array Keyed}{Q:Array Keyed->bK->Prop}(ha:0<a.size)(hb:0<b.size)(hA:∀i (hi:i<a.size),gW d a[i]) (hB:∀i (hi:i<b.size),gW d b[i]) (sa:u6 d a) (sb:u6 d b)(h0:bP d b[0] a[0]) (hl:∀j (z:j<b.size),bP d b[j] a[a.size-1])(h:∀r K,gG T K->gI d (a.toList++b.toList) r->Q r K):wpS (au f w) A E s (GU a b) Q T:=by
 have k7:∀{i j:Nat} (S:i<=j) (z:j<b.size),bP d (b[i]'∅) b[j]:=λ{i j} S z=>sb i j z S;have qR:∀{i j:Nat} (S:i<=j) (z:j<a.size),bP d (a[i]'∅) a[j]:=λ{i j} S z=>sa i j z S;have hf:∀j (z:j<a.size),bP d b[0] a[j]:=λj z=>h0.trans (qR ∅ z);have I0:fY d a b #[a[a.size-1]] (a.size-1) b.size:=by
  have C:fY d a b #[] a.size b.size:=by
   refine⟨⟨?_,by simp,?_,?_,by simp,by simp⟩,∅,∅⟩
   .simp only[<-fk,CY,fq];exact List.Perm.append (Jg _) (Jg _)
   .simp only[<-fk,CY,Jh];exact sa.pw
   .simp only[<-fk,CY,Jh];exact sb.pw
  exact C.pushA ha ∅ λj z _=>hl j z
 unfold GU;refine aK (tD (oN ⟨rfl,?_⟩));refine aK (fz ∅ ?_);refine cR (λe1=>aS (h _ _ .rfl (I0.doneA (by simpa using e1)))) λe1=>?_;have tZ:a.size-1≠0:=by simpa using e1
 refine cR (λe2=>?_) λe2=>?_
 .have lM:b.size=1:=by simpa using e2
  exact aS (h _ _ .rfl (I0.first lM hf))
 have lM:b.size≠1:=by simpa using e2
 refine aK (lG ?_);refine aK (gT (gU (I:=λx c K=>gG T K/\∃u v q P,c=(ae,v,q,u,P)/\fY d a b u v q/\0<v/\v<=a.size/\1<q/\q<=b.size/\x+1+v+q<=a.size+b.size) (Q:=λc K=>gG T K/\∃r,c.1=aa r/\gI d (a.toList++b.toList) r) ?_ ?_ ?_) ?_);rotate_left
 .rintro c K ⟨_,u,v,q,P,rfl,B,C,M,L,O,W⟩;lia
 .exact⟨.rfl,_,_,_,_,rfl,I0,∅,∅,∅,∅,∅⟩
 .rintro⟨c1,c⟩ K ⟨J,r,rfl,hD⟩;exact aS (h r K J hD)
 rintro x c K _ hx ⟨J,u,v,q,P,rfl,B,C,M,L,O,W⟩;refine aK (gT (gU (I:=λy c F=>F=K/\∃u v q H G,c=(ae,v,q,u,H,G)/\fY d a b u v q/\0<v/\v<=a.size/\1<q/\q<=b.size/\x+1+y+v+q<=a.size+b.size) (Q:=λc F=>F=K/\((∃r c',c=(aa r,c')/\gI d (a.toList++b.toList) r)\/∃u v q H G,c=(ae,v,q,u,H,G)/\fY d a b u v q/\0<v/\v<=a.size/\1<q/\q<=b.size/\x+1+1+v+q<=a.size+b.size)) ?_ ?_ ?_) ?_)
 .rintro y c F _ hy ⟨rfl,u,v,q,H,G,rfl,B,C,M,L,O,W⟩;dsimp only;refine aK (fz ∅ (aK (fz ∅ (aK (vI hO (J.sb hk) (hB (q-1) ∅) (hA (v-1) ∅) ?_)))));cases e:d.blt (kO d (b[q-1]'∅)) (kO d (a[v-1]'∅))with
  |true=>
   dsimp only;rw[if_pos rfl];refine aK (fz ∅ ?_);have X:=B.pushA C ∅ λj z e_=>bP.trans (k7 (show j<=q-1 by lia) ∅) (lH e);refine cR (λN=>?_) λN=>?_
   .exact aS ⟨rfl,.inl ⟨_,_,rfl,X.doneA (by simpa using N)⟩⟩
   have o8:v-1≠0:=by simpa using N
   refine cR (λe4=>?_) λe4=>?_
   .exact aS ⟨rfl,.inr ⟨_,_,_,_,_,rfl,X,∅,∅,∅,∅,∅⟩⟩
   .exact aS ⟨rfl,_,_,_,_,_,rfl,X,∅,∅,∅,∅,∅⟩
  |false=>
   dsimp only;rw[if_neg (by simp)];refine aK (fz ∅ ?_);have X:=B.pushB ∅ ∅ λj z e_=>bP.trans (qR (show j<=v-1 by lia) ∅) (show bP d (a[v-1]'∅) (b[q-1]'∅)from e);refine cR (λN=>?_) λN=>?_
   .exact aS ⟨rfl,.inl ⟨_,_,rfl,X.first (by simpa using N) hf⟩⟩
   have o8:q-1≠1:=by simpa using N
   refine cR (λe4=>?_) λe4=>?_
   .exact aS ⟨rfl,.inr ⟨_,_,_,_,_,rfl,X,∅,∅,∅,∅,∅⟩⟩
   .exact aS ⟨rfl,_,_,_,_,_,rfl,X,∅,∅,∅,∅,∅⟩
 .rintro c F ⟨rfl,u,v,q,H,G,rfl,B,C,M,L,O,W⟩;lia
 .exact⟨rfl,_,_,_,_,_,rfl,B,C,M,L,O,∅⟩
 rintro c F ⟨rfl,⟨r,c',rfl,hD⟩|⟨u,v,q,H,G,rfl,B,C,M,L,O,W⟩⟩
 .exact aS ⟨J,r,rfl,hD⟩
 refine aK (tD (oN ⟨rfl,?_⟩));refine aK (gT (gU (I:=λy c F=>gG T F/\∃u v q P H G,c=(ae,v,q,u,P,H,G)/\fY d a b u v q/\0<v/\v<=a.size/\1<q/\q<=b.size/\x+2+y+v+q<=a.size+b.size) (Q:=λc F=>gG T F/\((∃r c',c=(aa r,c')/\gI d (a.toList++b.toList) r)\/∃u v q P H G,c=(ae,v,q,u,P,H,G)/\fY d a b u v q/\0<v/\v<=a.size/\1<q/\q<=b.size/\x+1+1+v+q<=a.size+b.size)) ?_ ?_ ?_) ?_);rotate_left
 .rintro c F ⟨_,u,v,q,P,H,G,rfl,B,C,M,L,O,W⟩;lia
 .exact⟨J,_,_,_,_,_,_,rfl,B,C,M,L,O,∅⟩
 .rintro c F ⟨J,⟨r,c',rfl,hD⟩|⟨u,v,q,P,H,G,rfl,B,C,M,L,O,W⟩⟩
  .exact aS ⟨J,r,rfl,hD⟩
  .dsimp only;exact aK (AD J λZ D=>aS ⟨D,_,_,_,_,rfl,B,C,M,L,O,∅⟩)
 clear C M L O W B J I0 e1 e2;rintro y c F _ hy ⟨J,u,v,q,P,H,G,rfl,B,C,M,L,O,W⟩;clear hx hy;refine(?_:wpS (au f w) A E s _ ?Q _);extract_lets -merge x1 x2 x3 x4 x5 x6 x7 x8 x9 xa xb xc jp;have z:∀g Z,gG T Z->wpS (au f w) A E s (jp () g) ?Q Z:=by
  intro g Z D;dsimp -zeta only[jp,x1,x2,x3,x4,x5,x6,x7,x8,x9,xa,xb,xc];refine aK (AD D λZ D=>?_);refine aK (fz ∅ ?_);refine aK (Bz hO (D.sb hk) (base:=0) (n:=v) (hint:=v-1) (hB (q-1) ∅) ∅ hA (λi j S z _=>qR S ∅) ∅ λp jC eJ fJ=>?_);dsimp -zeta only;extract_lets -merge y1 y2 jp2;have wB:∀n o,fY d a b o n q->0<n->n<=p->wpS (au f w) A E s (jp2 () n o) ?Q Z:=by
   intro n o wC o8 e4;dsimp -zeta only[jp2,y1,y2];refine aK (fz ∅ ?_);have Y:=wC.pushB ∅ ∅ λj z g=>eJ j z ∅ ∅;refine cR (λe5=>?_) λe5=>?_
   .exact aS ⟨D,.inl ⟨_,_,rfl,Y.first (by simpa using e5) hf⟩⟩
   have e5':q-1≠1:=by simpa using e5
   refine aK (fz ∅ ?_);refine aK (A4 hO (D.sb hk) (base:=0) (n:=q-1) (hint:=q-1-1) (hA _ _) ∅ hB (λi j S z _=>k7 S ∅) ∅ λp' m1 m2 m3=>?_);dsimp -zeta only;extract_lets -merge z1 z2 z3 jp3;have wD:∀m o,fY d a b o n m->1<m->m<=p'->wpS (au f w) A E s (jp3 () m o) ?Q Z:=by
    intro m o wE e6 e7;dsimp -zeta only[jp3,z1,z2,z3];refine aK (fz ∅ ?_);have wF:=wE.pushA ∅ ∅ (λj z g=>lH (m2 j z ∅ ∅));refine cR (λe7=>?_) λe7=>?_
    .exact aS ⟨D,.inl ⟨_,_,rfl,wF.doneA (by simpa using e7)⟩⟩
    have e7':n-1≠0:=by simpa using e7
    refine cR (λe8=>?_) λe8=>?_
    .exact aS ⟨D,.inr ⟨_,_,_,_,_,_,rfl,wF,∅,∅,∅,∅,∅⟩⟩
    .exact aS ⟨D,_,_,_,_,_,_,rfl,wF,∅,∅,∅,∅,∅⟩
   clear_value jp3;refine cR (λDq=>?_) (λDq=>?_)
   .have wE:=Y.extB (p:=p') ∅ (λi hi g1 g2 j z g3=>bP.trans (qR (show j<=n-1 by lia) ∅) (m3 i hi ∅ ∅));refine cR (λe6=>?_) λe6=>?_
    .exact aS ⟨D,.inl ⟨_,_,rfl,wE.first (by simpa using e6) hf⟩⟩
    refine cR (λe9=>?_) λe9=>?_
    .exact aS ⟨D,.inl ⟨_,_,rfl,wE.doneB (by simpa using e9)⟩⟩
    have e6':p'≠1:=by simpa using e6
    have e9':p'≠0:=by simpa using e9
    exact wD _ _ wE ∅ ∅
   .exact wD _ _ Y ∅ ∅
  clear_value jp2;refine cR (λhk0=>?_) (λhk0=>?_)
  .have wC:fY d a b (u++(a.extract p v).reverse) p q:=B.extA ∅ λi hi g1 g2 j z g3=>bP.trans (k7 (show j<=q-1 by lia) ∅) (lH (fJ i hi ∅ ∅));refine cR (λN=>?_) λN=>?_
   .exact aS ⟨D,.inl ⟨_,_,rfl,wC.doneA (by simpa using N)⟩⟩
   have o8:p≠0:=by simpa using N
   exact wB _ _ wC ∅ ∅
  .exact wB _ _ B ∅ ∅
 exact cR (λ_=>z _ _ J) λ_=>z _ _ J
end
def putL(a:Array Keyed)(c:Nat)(l:List Keyed):Array Keyed:=l.zipIdx.foldl (λa (b:Keyed×Nat)=>a.setIfInBounds (c+b.2) b.1) a
theorem Ai:∀(l:List Keyed) (n b:Nat) (a:Array Keyed),b+n+l.length<=a.size -> ((l.zipIdx n).foldl (λa (c:Keyed×Nat)=>a.setIfInBounds (b+c.2) c.1) a).size=a.size /\ ∀k,((l.zipIdx n).foldl (λa (c:Keyed×Nat)=>a.setIfInBounds (b+c.2) c.1) a)[k]?=if b+n<=k/\k<b+n+l.length then l[k-(b+n)]? else a[k]?
 |[],n,b,a,_=>⟨rfl,λk=>by rw[if_neg (by simp)];rfl⟩
 |x::l,n,b,a,h=>by
  have f:b+(n+1)+l.length<=(a.setIfInBounds (b+n) x).size:=by simp at h ⊢;lia
  obtain⟨i,g⟩:=Ai l (n+1) b (a.setIfInBounds (b+n) x) f;rw[List.zipIdx_cons,gM];refine⟨by rw[i];simp,λk=>?_⟩;rw[g];by_cases e:b+n=k
  .subst e;rw[if_neg ∅,if_pos (by simp)];rw[Array.getElem?_setIfInBounds_self_of_lt (by simp at h;lia)];simp
  .by_cases d:b+(n+1)<=k/\k<b+(n+1)+l.length
   .rw[if_pos d,if_pos (by simp;lia)];rw[show k-(b+n)=k-(b+(n+1))+1 by lia,CM]
   .rw[if_neg d,if_neg (by simp;lia),Array.getElem?_setIfInBounds_ne e]
theorem LD{a:Array Keyed}{b:Nat}{l:List Keyed}(h:b+l.length<=a.size):(putL a b l).size=a.size:=(Ai l 0 b a ∅).1
theorem Bf{a:Array Keyed}{b:Nat}{l:List Keyed}(h:b+l.length<=a.size)(k:Nat):(putL a b l)[k]?=if b<=k/\k<b+l.length then l[k-b]? else a[k]? :=(Ai l 0 b a ∅).2 k
theorem Qc{a:Array Keyed}{b n:Nat}{l:List Keyed}(h:b+n<=a.size)(d:l.Perm ((a.toList.drop b).take n)):(putL a b l).toList.Perm a.toList:=by
 have f:l.length=n:=by rw[d.length_eq,nh,mo];simp;lia
 have e:(putL a b l).toList=a.toList.take b++(l++a.toList.drop (b+n)):=by
  apply qw;intro k;rw[oO,Bf ∅,List.getElem?_append,List.getElem?_append,nh,Ji,CO,f];simp only[fk,oO];rw[show min b a.size=b by lia];by_cases c:k<b
  .rw[if_neg ∅,if_pos c,if_pos c]
  .rw[if_neg c];by_cases i:k<b+n
   .rw[if_pos ∅,if_pos ∅]
   .rw[if_neg ∅,if_neg ∅];congr 1;lia
 rw[e];have g:a.toList=a.toList.take b++((a.toList.drop b).take n++a.toList.drop (b+n)):=by rw[<-List.drop_drop,kh,kh]
 conv=>rhs;rw[g]
 exact zp _ (List.Perm.append_right _ d)
section
variable{κ:KeyKind}{kz:gw}
def Run(κ:KeyKind)(a:Array Keyed)(b n:Nat):Prop:=∀i j x y,b<=i->i<=j->j<b+n->a[i]?=aa x->a[j]?=aa y->bP κ x y
theorem bP.refl(x:Keyed):bP κ x x:=mr _
structure Wr(a a':Array Keyed)(lo n:Nat):Prop where
 perm:a'.toList.Perm a.toList
 size:a'.size=a.size
 out:∀k,k<lo\/lo+n<=k->a'[k]?=a[k]?
theorem Run.keep{a l:Array Keyed}{c n b e:Nat}(h:Run κ a c n)(w:Wr a l b e)(d:c+n<=b\/b+e<=c):Run κ l c n:=by intro i j x y p o m g f;rw[w.out i ∅]at g;rw[w.out j ∅]at f;exact h i j x y p o m g f
end
section
variable{b:aQ}{w:aI}{A:aX}{E:ai->ao->Prop}{s:ao}{κ:KeyKind}{kz:gw}
theorem QS{a:Type}{M:Model}{Q:PUnit->a->Prop}{d c:a}(h:Q ⟨⟩ c):wpS M A E s (set c:StateT a Sem PUnit) Q d:=by unfold wpS;rw[StateT.run_set];exact aD ⟨rfl,h⟩
theorem SM(a:Array Keyed){p q t:Nat}(d:p<=q)(c:q<=t):(a.extract p q).toList++(a.extract q t).toList=(a.extract p t).toList:=by rw[lq,lq,lq,show t-p=(q-p)+(t-q) by lia,List.take_add,List.drop_drop,show p+(q-p)=q by lia]
theorem RN{a:Array Keyed}{c d l k e:Nat}(Y:c+d+l<=a.size)(hk:k<d)(h0:0<e)(Z:e<=l)(X:Run κ a c d)(W:Run κ a (c+d) l)(a1:∀i (h:i<a.size),c<=i->i<c+k->bP κ a[i] (a[c+d]'∅)) (b2:∀i (h:i<a.size),c+d+e<=i->i<c+d+l->bP κ (a[c+d-1]'∅) a[i]){r:Array Keyed} (p:gI κ ((a.extract (c+k) (c+d)).toList++(a.extract (c+d) (c+d+e)).toList) r):Wr a (putL a (c+k) r.toList) c (d+l)/\Run κ (putL a (c+k) r.toList) c (d+l):=by
 rw[SM _ ∅ ∅]at p;have bp:r.toList.length=d-k+e:=by rw[p.1.length_eq,lq,nh,mo,fk];lia
 have C:c+k+r.toList.length<=a.size:=∅
 have z:∀m∈r.toList,∃t,∃B:t<a.size,c+k<=t/\t<c+d+e/\a[t]=m:=λm z=>A7 ∅ (p.1.mem_iff.mp z);have F:∀{i j:Nat} (v:i<=j) (g:j<c+d),c<=i->bP κ (a[i]'∅) (a[j]'∅):=λ{i j} v g h=>X i j _ _ h v g (getElem?_pos _ _ _) (getElem?_pos _ _ _);have D:∀{i j:Nat} (v:i<=j) (g:j<c+d+l),c+d<=i->bP κ (a[i]'∅) (a[j]'∅):=λ{i j} v g h=>W i j _ _ h v g (getElem?_pos _ _ _) (getElem?_pos _ _ _);have I:∀i (h:i<a.size) j (g:j<a.size),c<=i->i<c+k->c+d<=j->j<c+d+l->bP κ a[i] a[j]:=λi h j g c1 H M c4=>(a1 i h c1 H).trans (D M c4 (aZ _));refine⟨⟨?_,LD C,λq hq=>?_⟩,?_⟩
 .refine Qc (n:=d-k+e) ∅ ?_;have:=p.1;rwa[lq,show c+d+e-(c+k)=d-k+e by lia]at this
 .rw[Bf C,if_neg ∅]
 .intro i j x y h1 J h3 o f;rw[Bf C]at o f;by_cases L:c+k<=i/\i<c+k+r.toList.length
  .rw[if_pos L]at o;obtain⟨t,B,T,S,rfl⟩:=z x (jw o);by_cases u:c+k<=j/\j<c+k+r.toList.length
   .rw[if_pos u]at f;by_cases G:i=j
    .subst G;rw[o]at f;cases f;exact bP.refl _
    .obtain⟨Q,P⟩:=cA.mp o;obtain⟨O,N⟩:=cA.mp f;have:=tE.mp p.2 (i-(c+k)) (j-(c+k)) Q O ∅;rw[P,N]at this;exact this
   .rw[if_neg u]at f;obtain⟨g,rfl⟩:=nr.mp f;by_cases K:t<c+d
    .exact(F (show t<=c+d-1 by lia) ∅ ∅).trans (b2 j g ∅ ∅)
    .exact D ∅ ∅ ∅
  .rw[if_neg L]at o;obtain⟨h,rfl⟩:=nr.mp o;by_cases u:c+k<=j/\j<c+k+r.toList.length
   .rw[if_pos u]at f;obtain⟨t,B,T,S,rfl⟩:=z y (jw f);by_cases K:t<c+d
    .exact F ∅ K ∅
    .exact I i h t B ∅ ∅ ∅ ∅
   .rw[if_neg u]at f;obtain⟨g,rfl⟩:=nr.mp f;by_cases H:i<c+k
    .by_cases M:j<c+k
     .exact F J ∅ h1
     .exact I i h j g ∅ H ∅ ∅
    .exact D J ∅ ∅
theorem Eg{a:Array Keyed}{d c e:Nat}(o:d+c+e<=a.size)(u:0<c)(p:0<e)(l:Run κ a d c)(h:Run κ a (d+c) e)(q:bP κ (a[d+c-1]'∅) (a[d+c]'∅)):Run κ a d (c+e):=by
 intro i j x y n m v g f;by_cases r:j<d+c
 .exact l i j x y n m r g f
 .by_cases z:i<d+c
  .exact((l i (d+c-1) x _ n ∅ ∅ g (getElem?_pos _ _ _)).trans q).trans (h (d+c) j _ y ∅ ∅ ∅ (getElem?_pos _ _ _) f)
  .exact h i j x y ∅ m ∅ g f
theorem Wr.same{a:Array Keyed}{lo n:Nat}:Wr a a lo n:=⟨vV _,rfl,λ_ _=>rfl⟩
theorem P_(I:hG κ kz b w A s){m:bK}(hk:SB kz m)(v:∀i (l:i<(arrOf m).size),gW κ (arrOf m)[i]){i c a pw f C:Nat}(M:(bw m)[i]?=aa (c,a,pw)) (L:(bw m)[i+1]?=aa (c+a,f,C)) (J:0<a) (D:0<f) (o:c+a+f<=(arrOf m).size)(y:Run κ (arrOf m) c a) (x:Run κ (arrOf m) (c+a) f) {Q:Bool->bK->Prop}(h:∀q,SB kz q->bw q=((bw m).setIfInBounds i (c,a+f,pw)).eraseIdxIfInBounds (i+1)->Wr (arrOf m) (arrOf q) c (a+f)->Run κ (arrOf q) c (a+f)->Q ah q):wpS (au b w) A E s (mergeAt' i) Q m:=by
 obtain⟨kd,d,H,mg,fl⟩:=m;have P:kz=kd:=hk.kind.symm;have qQ:fl=ae:=hk.failed;subst qQ;subst P;replace v:∀i (l:i<d.size),gW κ d[i]:=v;replace o:c+a+f<=d.size:=o;replace y:Run κ d c a:=y;replace x:Run κ d (c+a) f:=x;replace M:H[i]?=aa (c,a,pw):=M;replace L:H[i+1]?=aa (c+a,f,C):=L;replace h:∀q,SB kz q->bw q=(H.setIfInBounds i (c,a+f,pw)).eraseIdxIfInBounds (i+1)->Wr d (arrOf q) c (a+f)->Run κ (arrOf q) c (a+f)->Q ah q:=h;have g1:∀{i j:Nat} (p:i<=j) (g:j<c+a),c<=i->bP κ (d[i]'∅) (d[j]'∅):=λ{i j} p g l=>y i j _ _ l p g (getElem?_pos _ _ _) (getElem?_pos _ _ _);have g2:∀{i j:Nat} (p:i<=j) (g:j<c+a+f),c+a<=i->bP κ (d[i]'∅) (d[j]'∅):=λ{i j} p g l=>x i j _ _ l p g (getElem?_pos _ _ _) (getElem?_pos _ _ _);unfold mergeAt';refine aK (lG ?_);dsimp only;rw[M,L];dsimp only;refine aK (QS ?_);generalize (H.setIfInBounds i (c,a+f,pw)).eraseIdxIfInBounds (i+1)=pend at *;refine aK (fz ∅ ?_);refine aK (Bz I ⟨rfl,rfl⟩ (base:=c) (n:=a) (hint:=0) (v _ _) ∅ v (λi j p g l=>g1 p g l) J λk m1 Z m3=>?_);dsimp only;refine cR (λW=>?_) λW=>?_
 .have X:a<=k:=by have:a-k=0:=(by simpa using W);lia
  refine aS (h _ ⟨rfl,rfl⟩ rfl Wr.same (Eg o J D y x (Z _ _ ∅ ∅)))
 have X:k<a:=by have:a-k≠0:=(by simpa using W);lia
 refine aK (fz ∅ ?_);refine aK (A4 I ⟨rfl,rfl⟩ (base:=c+a) (n:=f) (hint:=f-1) (v _ _) ∅ v (λi j p g l=>g2 p g l) ∅ λu n1 Y N=>?_);dsimp only;have F:c+k+(a-k)-1=c+a-1:=∅
 simp only[F]at Y N;refine cR (λT=>?_) λT=>?_
 .have lM:u=0:=by simpa using T
  refine aS (h _ ⟨rfl,rfl⟩ rfl Wr.same (Eg o J D y x (N _ _ ∅ ∅)))
 have lM:u≠0:=by simpa using T
 have xs:(d.extract (c+k) (c+a)).size=a-k:=by simp;lia
 have ys:(d.extract (c+a) (c+a+u)).size=u:=by simp;lia
 refine cR (λ_=>?_) λ_=>?_
 all_goals
  first
   |refine aK (Qb I ⟨rfl,rfl⟩ ∅ ∅ ?_ ?_ ?_ ?_ ?_ ?_ ?_)
   |refine aK (My I ⟨rfl,rfl⟩ ∅ ∅ ?_ ?_ ?_ ?_ ?_ ?_ ?_)
  .intro j g;rw[nK];exact v _ _
  .intro j g;rw[nK];exact v _ _
  .intro i j g p;rw[nK,nK];exact g1 ∅ ∅ ∅
  .intro i j g p;rw[nK,nK];exact g2 ∅ ∅ ∅
  .rw[nK,nK];exact lH (m3 _ _ ∅ ∅)
  .intro j g;rw[nK,nK];have:=Y (c+a+j) ∅ ∅ ∅;have e:c+k+((d.extract (c+k) (c+a)).size-1)=c+a-1:=∅
   simp only[e];exact lH this
  .rintro r ⟨O,G,K,mg',S⟩ ⟨B,z,c3,c4⟩ hD;change O=kz at B;change G=d at z;change K=pend at c3;change S=ae at c4;subst B z c3 c4;refine aK (nJ ?_);refine aK (lG ?_);obtain⟨w1,w2⟩:=RN o X ∅ n1 y x (λi l B z=>Z i l B z) (λi l B z=>N i l B z) hD;exact aS (h _ ⟨rfl,rfl⟩ rfl w1 w2)
end
section
variable{κ:KeyKind}{kz:gw}
theorem Aw{a:Array Keyed}{i:Nat}{x:Keyed}(h:a[i]?=aa x):KK κ a i=kO κ x:=by unfold KK kO;rw[h]
theorem su{a:Array Keyed}{i:Nat}(h:i<a.size):KK κ a i=kO κ a[i]:=Aw (getElem?_pos _ _ _)
def io(κ:KeyKind)(a:Array Keyed)(lo n:Nat):Prop:=∀i j,lo<=i->i<=j->j<lo+n->κ.kle (KK κ a i) (KK κ a j)
def nX(κ:KeyKind)(a:Array Keyed)(lo n:Nat):Prop:=∀i j,lo<=i->i<=j->j<lo+n->κ.kle (KK κ a j) (KK κ a i)
theorem io.run{a:Array Keyed}{b n:Nat}(h:io κ a b n):Run κ a b n:=by intro i j x y g f e d c;have:=h i j g f e;rw[Aw d,Aw c]at this;exact this
theorem Wr.trans{a b c:Array Keyed}{d n:Nat}(f:Wr a b d n)(e:Wr b c d n):Wr a c d n :=⟨e.perm.trans f.perm,e.size.trans f.size,λk g=>(e.out k g).trans (f.out k g)⟩
theorem Wr.mono{a b:Array Keyed}{d n c e:Nat}(h:Wr a b d n)(i:c<=d)(g:d+n<=c+e):Wr a b c e :=⟨h.perm,h.size,λk f=>h.out k ∅⟩
theorem J1{a:Array Keyed}{i j:Nat}(b:j<=a.size)(d:i<=j):Wr a (mirror a i j ((j-i) / 2)) i (j-i) :=⟨CZ.mp (mirror_perm _ _ _ _),mirror_size _ _ _ _,λk c=>by rw[getElem?_mirror_all b,if_neg ∅]⟩
theorem N5{a:Array Keyed}{b d:Nat}(c:b<a.size)(e:d<=b):Wr a (bubble a b d) (b-d) (d+1) :=⟨CZ.mp (bubble_perm _ _ _),bubble_size _ _ _,λk f=>by rw[getElem?_bubble c d e,if_neg ∅,if_neg ∅]⟩
def AllK(κ:KeyKind)(a:Array Keyed):Prop:=∀i (b:i<a.size),gW κ a[i]
theorem AllK.of{a b:Array Keyed}(h:AllK κ a)(p:b.toList.Perm a.toList):AllK κ b:=by intro i f;have c:b[i]∈a.toList:=p.mem_iff.mp (by simp);obtain⟨j,d,e⟩:=nI c;rw[<-e];simpa using h j (by simpa using d)
end
section
variable{d:aQ}{w:aI}{A:aX}{E:ai->ao->Prop}{s:ao}{κ:KeyKind}{f:gw}
theorem pB(l:hG κ f d w A s){a:bK}(g:SB f a)(e:AllK κ (arrOf a)){i j:Nat}{Q:Option Bool->bK->Prop}(c:i<(arrOf a).size)(b:j<(arrOf a).size)(h:Q (aa (κ.blt (KK κ (arrOf a) i) (KK κ (arrOf a) j))) a):wpS (au d w) A E s (ltAt' i j) Q a:=by rw[su c,su b]at h;rw[ltAt'_eq];refine aK (lG ?_);exact aK (fz c (aK (fz b (vI l g (e i c) (e j b) h))))
theorem u8{b a:bK}{lo n i j:Nat}{Q:Unit->bK->Prop}(l:SB f a)(m:bw a=bw b)(g:Wr (arrOf b) (arrOf a) lo n)(q:i<=j)(o:j<=(arrOf b).size)(p:lo<=i)(r:j<=lo+n)(h:∀c,SB f c->bw c=bw b->Wr (arrOf b) (arrOf c) lo n->(∀k,KK κ (arrOf c) k=if i<=k/\k<j then KK κ (arrOf a) (i+j-1-k)else KK κ (arrOf a) k)->Q () c):wpS (au d w) A E s (reverseSlice' i j) Q a:=by
 have e:j<=(arrOf a).size:=by rw[g.size];exact o
 exact wpS_reverse (h _ ⟨l.kind,l.failed⟩ m (g.trans ((J1 e q).mono p ∅)) λk=>KK_mirror e k)
theorem SH{i:Type}{c:Prop}[Decidable c]{j h:StateT bK Sem i}{Q:i->bK->Prop}{g:bK}{J:bK->Prop}(l:¬c->J g)(a:∀b,J b->wpS (au d w) A E s h Q b)(m:c->(∀b,J b->wpS (au d w) A E s h Q b)->wpS (au d w) A E s j Q g):wpS (au d w) A E s (if c then j else h) Q g :=cR (λe=>m e a) λe=>a g (l e)
theorem A5{a:Array Keyed}{lo x:Nat}(b:io κ a lo x)(h:1<=x)(e:κ.kle (KK κ a (lo+x-1)) (KK κ a (lo+x))):io κ a lo (x+1):=λi j c n o=>by
 by_cases l:j<lo+x
 .exact b i j c n l
 .have g:j=lo+x:=∅
  subst g;by_cases m:i=lo+x
  .subst m;exact mr _
  .exact qz (b i (lo+x-1) c ∅ ∅) e
theorem D9{a:Array Keyed}{lo x:Nat}(b:nX κ a lo x)(h:1<=x)(e:κ.kle (KK κ a (lo+x)) (KK κ a (lo+x-1))):nX κ a lo (x+1):=λi j c n o=>by
 by_cases l:j<lo+x
 .exact b i j c n l
 .have g:j=lo+x:=∅
  subst g;by_cases m:i=lo+x
  .subst m;exact mr _
  .exact qz e (b i (lo+x-1) c ∅ ∅)
theorem Nh{a:Array Keyed}{lo x b:Nat}(e:∀i,lo+x-(b+1)<=i->i<lo+x->KK κ a i=KK κ a (lo+x-1))(g:KK κ a (lo+x)=KK κ a (lo+x-1)):∀i,lo+(x+1)-(b+1+1)<=i->i<lo+(x+1)->KK κ a i=KK κ a (lo+(x+1)-1):=λi j h=>by
 rw[show lo+(x+1)-1=lo+x by lia];by_cases c:i=lo+x
 .rw[c]
 .rw[e i ∅ ∅,g]
theorem EL{a b:Array Keyed}{i j n:Nat}(e:∀k,KK κ b k=if i<=k/\k<j then KK κ a (i+j-1-k)else KK κ a k)(c:∀k,i<=k->k<j->KK κ a k=KK κ a n):∀k,KK κ b k=KK κ a k:=λk=>by
 rw[e];split
 .rw[c _ ∅ ∅,c k ∅ ∅]
 .rfl
theorem K1(T:hG κ f d w A s){v:bK}(S:SB f v)(W:AllK κ (arrOf v)){lo a:Nat}(h1:1<=a)(hsz:lo+a<=(arrOf v).size){Q:Option Nat->bK->Prop}(h:∀n p,SB f p->bw p=bw v->Wr (arrOf v) (arrOf p) lo a->1<=n->n<=a->io κ (arrOf p) lo n->Q (aa n) p):wpS (au d w) A E s (countRun' lo a) Q v:=by
 have one:io κ (arrOf v) lo 1:=λi j r y D=>by
  have:i=j:=∅
  subst this;exact mr _
 have go:∀{u:bK},Wr (arrOf v) (arrOf u) lo a->(arrOf u).size=(arrOf v).size:=λw=>w.size;unfold countRun';refine aK (gT (gU (I:=λx c g=>g=v/\c=(ae,x)/\io κ (arrOf v) lo x) (Q:=λc g=>g=v/\∃n,c=(ae,n)/\1<=n/\n<=a/\io κ (arrOf v) lo n/\(n=a\/κ.klt (KK κ (arrOf v) (lo+n)) (KK κ (arrOf v) (lo+n-1)))) ?_ ?_ ?_) ?_)
 .rintro x c g L wG ⟨rfl,rfl,o⟩;dsimp only;refine aK (pB T S W ∅ ∅ ?_);cases e:κ.blt (KK κ (arrOf g) (lo+x)) (KK κ (arrOf g) (lo+x-1))with
  |true=>exact aS ⟨rfl,x,rfl,∅,∅,o,.inr e⟩
  |false=>exact aS ⟨rfl,rfl,A5 o ∅ e⟩
 .rintro c g ⟨rfl,rfl,o⟩;rw[show max 1 a=a by lia]at o ⊢;exact⟨rfl,a,rfl,∅,∅,o,.inl rfl⟩
 .exact⟨rfl,rfl,one⟩
 rintro c p ⟨rfl,n,rfl,n1,n2,o,hn⟩;dsimp only;refine cR (λe1=>aS (h n p S rfl Wr.same n1 n2 o)) λe1=>?_;have tZ:n≠a:=by simpa using e1
 replace hn:κ.klt (KK κ (arrOf p) (lo+n)) (KK κ (arrOf p) (lo+n-1)):=hn.resolve_left tZ;refine SH (J:=λC=>SB f C/\bw C=bw p/\Wr (arrOf p) (arrOf C) lo a/\nX κ (arrOf C) lo (n+1)) (λen=>⟨S,rfl,Wr.same,λi j r y D=>?_⟩) (λC ⟨eJ,ii,t5,hD⟩=>?_) λen key=>?_
 .have en':n=1:=∅
  by_cases hi:i=j
  .subst hi;exact mr _
  .have e1:i=lo+n-1:=∅
   have e2:j=lo+n:=∅
   rw[e1,e2];exact lH hn
 .refine aK (tD (oN ⟨rfl,?_⟩));refine aK (gT (gU (I:=λx c l=>∃b,c=(ae,x,b)/\SB f l/\bw l=bw p/\Wr (arrOf p) (arrOf l) lo a/\nX κ (arrOf l) lo x/\b+1<=x/\(∀i,lo+x-(b+1)<=i->i<lo+x->KK κ (arrOf l) i=KK κ (arrOf l) (lo+x-1))) (Q:=λc l=>∃m b,c=(ae,m,b)/\SB f l/\bw l=bw p/\Wr (arrOf p) (arrOf l) lo a/\1<=m/\m<=a/\nX κ (arrOf l) lo m/\b+1<=m/\(∀i,lo+m-(b+1)<=i->i<lo+m->KK κ (arrOf l) i=KK κ (arrOf l) (lo+m-1))) ?_ ?_ ?_) ?_)
  .rintro x c l L wG ⟨b,rfl,B,F,z,G,hq,H⟩;have sz3:=z.size;dsimp only;refine aK (pB T B (W.of z.perm) ∅ ∅ ?_);cases e3:κ.blt (KK κ (arrOf l) (lo+x)) (KK κ (arrOf l) (lo+x-1))with
   |true=>
    have oW:nX κ (arrOf l) lo (x+1):=D9 G ∅ (lH e3);dsimp only;rw[if_pos rfl];refine cR (λDr=>?_) λDr=>?_
    .refine aK (u8 (κ:=κ) (lo:=lo) (n:=a) B F z ∅ ∅ ∅ ∅ λbW jD iH Z Ds=>?_);have Y:=EL Ds H;exact aS ⟨0,rfl,jD,iH,Z,λi j r y D=>by rw[Y,Y];exact oW i j r y D,∅,λi r y=>by congr 1;lia⟩
    .exact aS ⟨0,rfl,B,F,z,oW,∅,λi r y=>by congr 1;lia⟩
   |false=>
    dsimp only;rw[if_neg (by simp)];refine aK (pB T B (W.of z.perm) ∅ ∅ ?_);cases e4:κ.blt (KK κ (arrOf l) (lo+x-1)) (KK κ (arrOf l) (lo+x))with
    |true=>exact aS ⟨x,b,rfl,B,F,z,∅,∅,G,hq,H⟩
    |false=>have ex:KK κ (arrOf l) (lo+x)=KK κ (arrOf l) (lo+x-1):=KeyOrd.kle_antisymm e4 e3;exact aS ⟨b+1,rfl,B,F,z,D9 G ∅ (by rw[ex];exact mr _),∅,Nh H ex⟩
  .rintro c l ⟨b,rfl,B,F,z,G,hq,H⟩;rw[show max (n+1) a=a by lia]at G hq H ⊢;exact⟨a,b,rfl,B,F,z,∅,∅,G,hq,H⟩
  .exact⟨0,rfl,eJ,ii,t5,hD,∅,λi r y=>by congr 1;lia⟩
  rintro c l ⟨m,b,rfl,B,F,z,m1,m2,G,hq,H⟩;dsimp only;refine cR (λDr=>?_) λDr=>?_
  .refine aK (u8 (κ:=κ) (lo:=lo) (n:=a) B F z ∅ ∅ ∅ ∅ λbW jD iH Z Ds=>?_);have Y:=EL Ds H;have P:nX κ (arrOf bW) lo m:=λi j r y D=>by rw[Y,Y];exact G i j r y D
   refine aK (u8 (κ:=κ) (lo:=lo) (n:=a) jD iH Z ∅ ∅ ∅ ∅ λu lR O K X=>?_);have N:io κ (arrOf u) lo m:=λi j r y D=>by rw[X,X,if_pos ⟨r,∅⟩,if_pos ⟨∅,D⟩];exact P _ _ ∅ ∅ ∅
   have sz5:=K.size;refine aK (gT (gU (I:=λx c g=>g=u/\c=(ae,x)/\io κ (arrOf u) lo x) (Q:=λc g=>g=u/\∃n,c=(ae,n)/\1<=n/\n<=a/\io κ (arrOf u) lo n/\(n=a\/κ.klt (KK κ (arrOf u) (lo+n)) (KK κ (arrOf u) (lo+n-1)))) ?_ ?_ ?_) ?_)
   .rintro x c g L wG ⟨rfl,rfl,o⟩;dsimp only;refine aK (pB T lR (W.of K.perm) ∅ ∅ ?_);cases e:κ.blt (KK κ (arrOf g) (lo+x)) (KK κ (arrOf g) (lo+x-1))with
    |true=>exact aS ⟨rfl,x,rfl,∅,∅,o,.inr e⟩
    |false=>exact aS ⟨rfl,rfl,A5 o ∅ e⟩
   .rintro c g ⟨rfl,rfl,o⟩;rw[show max m a=a by lia]at o ⊢;exact⟨rfl,a,rfl,∅,∅,o,.inl rfl⟩
   .exact⟨rfl,rfl,N⟩
   rintro c g ⟨rfl,q,rfl,q1,q2,M,_⟩;exact aS (h q g lR O K q1 q2 M)
  .have jD:=B;have iH:=F;have Z:=z;have P:=G;refine aK (u8 (κ:=κ) (lo:=lo) (n:=a) jD iH Z ∅ ∅ ∅ ∅ λu lR O K X=>?_);have N:io κ (arrOf u) lo m:=λi j r y D=>by rw[X,X,if_pos ⟨r,∅⟩,if_pos ⟨∅,D⟩];exact P _ _ ∅ ∅ ∅
   have sz5:=K.size;refine aK (gT (gU (I:=λx c g=>g=u/\c=(ae,x)/\io κ (arrOf u) lo x) (Q:=λc g=>g=u/\∃n,c=(ae,n)/\1<=n/\n<=a/\io κ (arrOf u) lo n/\(n=a\/κ.klt (KK κ (arrOf u) (lo+n)) (KK κ (arrOf u) (lo+n-1)))) ?_ ?_ ?_) ?_)
   .rintro x c g L wG ⟨rfl,rfl,o⟩;dsimp only;refine aK (pB T lR (W.of K.perm) ∅ ∅ ?_);cases e:κ.blt (KK κ (arrOf g) (lo+x)) (KK κ (arrOf g) (lo+x-1))with
    |true=>exact aS ⟨rfl,x,rfl,∅,∅,o,.inr e⟩
    |false=>exact aS ⟨rfl,rfl,A5 o ∅ e⟩
   .rintro c g ⟨rfl,rfl,o⟩;rw[show max m a=a by lia]at o ⊢;exact⟨rfl,a,rfl,∅,∅,o,.inl rfl⟩
   .exact⟨rfl,rfl,N⟩
   rintro c g ⟨rfl,q,rfl,q1,q2,M,_⟩;exact aS (h q g lR O K q1 q2 M)
 .refine aK (pB T S W ∅ ∅ ?_);cases e2:κ.blt (KK κ (arrOf p) lo) (KK κ (arrOf p) (lo+n-1))with
  |true=>exact aS (h n p S rfl Wr.same n1 n2 o)
  |false=>
   dsimp only;rw[if_neg (by simp)];have dQ:∀i,lo<=i->i<lo+n->KK κ (arrOf p) i=KK κ (arrOf p) lo:=λi r y=>KeyOrd.kle_antisymm (qz (o i (lo+n-1) r ∅ ∅) e2) (o lo i (aZ _) r y);refine aK (u8 (κ:=κ) (lo:=lo) (n:=a) S rfl Wr.same ∅ ∅ ∅ ∅ λC eJ ii t5 lQ=>?_);have hD:nX κ (arrOf C) lo (n+1):=by
    have hv:∀i,lo<=i->i<lo+n->KK κ (arrOf C) i=KK κ (arrOf p) lo:=λi r y=>by rw[lQ,if_pos ⟨r,y⟩];exact dQ _ ∅ ∅
    have hl:κ.klt (KK κ (arrOf C) (lo+n)) (KK κ (arrOf p) lo):=by rw[lQ,if_neg ∅,<-dQ (lo+n-1) ∅ ∅];exact hn
    intro i j r y D;by_cases hj:j<lo+n
    .rw[hv i r ∅,hv j ∅ hj];exact mr _
    .have ik:j=lo+n:=∅
     subst ik;by_cases hi:i=lo+n
     .subst hi;exact mr _
     .rw[hv i r ∅];exact lH hl
   exact key C ⟨eJ,ii,t5,hD⟩
theorem Pm{e c:bK}{lo n a b:Nat}{Q:Unit->bK->Prop}(l:SB f c)(m:bw c=bw e)(j:Wr (arrOf e) (arrOf c) lo n)(r:b<=a)(o:a<(arrOf e).size)(q:lo<=b)(p:a<lo+n)(h:∀g,SB f g->bw g=bw e->Wr (arrOf e) (arrOf g) lo n->(∀k,KK κ (arrOf g) k=if k=b then KK κ (arrOf c) a else if b<k/\k<=a then KK κ (arrOf c) (k-1)else KK κ (arrOf c) k)->Q () g):wpS (au d w) A E s (moveDown' a b) Q c:=by
 have i:a<(arrOf c).size:=by rw[j.size];exact o
 rw[moveDown'_eq];refine nJ (h _ ⟨l.kind,l.failed⟩ m (j.trans ((N5 i (show a-b<=a by lia)).mono ∅ ∅)) λk=>?_);have:=KK_bubble (κ:=κ) i (show a-b<=a by lia) k;rw[show a-(a-b)=b by lia]at this;exact this
theorem Kf(P:hG κ f d w A s){b:bK}(O:SB f b)(S:AllK κ (arrOf b)){lo n ok:Nat}(N:ok<=n)(L:lo+n<=(arrOf b).size)(M:io κ (arrOf b) lo ok){Q:Bool->bK->Prop}(h:∀y,SB f y->bw y=bw b->Wr (arrOf b) (arrOf y) lo n->io κ (arrOf y) lo n->Q ah y):wpS (au d w) A E s (binarySort' lo n ok) Q b:=by
 unfold binarySort';refine aK (gT (gU (I:=λk c a=>c=(ae,())/\SB f a/\bw a=bw b/\Wr (arrOf b) (arrOf a) lo n/\io κ (arrOf a) lo (min k n)) (Q:=λc a=>c=(ae,())/\SB f a/\bw a=bw b/\Wr (arrOf b) (arrOf a) lo n/\io κ (arrOf a) lo n) ?_ ?_ ?_) ?_)
 .rintro k c a Z eJ ⟨rfl,p,v,o,g⟩;have sz:=o.size;rw[show min k n=k by lia]at g;refine aK (gT (gU (I:=λx c m=>m=a/\∃l r,c=(ae,l,r)/\l<=r/\r<=k/\r-l<=k-x /\ (∀i,i<l->κ.kle (KK κ (arrOf a) (lo+i)) (KK κ (arrOf a) (lo+k)))/\(∀i,r<=i->i<k->κ.klt (KK κ (arrOf a) (lo+k)) (KK κ (arrOf a) (lo+i)))) (Q:=λc m=>m=a/\∃l r,c=(ae,l,r)/\l<=k /\ (∀i,i<l->κ.kle (KK κ (arrOf a) (lo+i)) (KK κ (arrOf a) (lo+k)))/\(∀i,l<=i->i<k->κ.klt (KK κ (arrOf a) (lo+k)) (KK κ (arrOf a) (lo+i)))) ?_ ?_ ?_) ?_)
  .rintro x c m _ hx ⟨rfl,l,r,rfl,Y,z,X,u,q⟩;dsimp only;refine cR (λJ=>?_) λJ=>?_
   .have:l=r:=∅
    subst this;exact aS ⟨rfl,l,l,rfl,z,u,q⟩
   .refine aK (pB P p (S.of o.perm) ∅ ∅ ?_);cases e:κ.blt (KK κ (arrOf m) (lo+k)) (KK κ (arrOf m) (lo+(l+r) / 2))with
    |true=>exact aS ⟨rfl,l,(l+r) / 2,rfl,∅,∅,∅,u,λi C T=>KeyOrd.klt_of_klt_of_kle e (g _ _ ∅ ∅ ∅)⟩
    |false=>exact aS ⟨rfl,(l+r) / 2+1,r,rfl,∅,∅,∅,λi C=>qz (g (lo+i) (lo+(l+r) / 2) ∅ ∅ ∅) e,q⟩
  .rintro c m ⟨rfl,l,r,rfl,Y,z,X,u,q⟩;have:l=r:=∅
   subst this;exact⟨rfl,l,l,rfl,z,u,q⟩
  .exact⟨rfl,0,k,rfl,∅,∅,∅,λi hi=>∅,λi C T=>∅⟩
  .rintro c m ⟨rfl,l,r,rfl,z,u,q⟩;dsimp only;refine aK (Pm (κ:=κ) (lo:=lo) (n:=n) p v o ∅ ∅ ∅ ∅ λbJ B K H D=>aS ⟨rfl,B,K,H,?_⟩);rw[show min (k+1) n=k+1 by lia];intro i j G F W;rw[D,D]
   repeat' split
   all_goals first
    | (exfalso;lia)
    |exact mr _
    | (have:=u (i-lo) ∅;rw[show lo+(i-lo)=i by lia]at this;exact this)
    | (have:=q (j-1-lo) ∅ ∅;rw[show lo+(j-1-lo)=j-1 by lia]at this;exact lH this)
    |exact g _ _ ∅ ∅ ∅
 .rintro c a ⟨rfl,p,v,o,g⟩;rw[show min (max (max ok 1) n) n=n by lia]at g;exact⟨rfl,p,v,o,g⟩
 .refine⟨rfl,O,rfl,Wr.same,λi j G F W=>?_⟩;by_cases C:ok=0
  .have:i=j:=∅
   subst this;exact mr _
  .exact M i j G F ∅
 .rintro c a ⟨rfl,p,v,o,g⟩;exact aS (h a p v o g)
end
theorem Pi{c:Prop}[Decidable c]{a b n:Nat}(e:a+1<n)(d:b+1<n):(if c then a else b)+1<n:=by split <;> assumption
def kH:Nat->List (Nat×Nat)->Nat->Prop
 |f,[],t=>f=t
 |f,(a,n)::l,t=>a=f/\0<n/\kH (f+n) l t
theorem kH.app:∀{l1:List (Nat×Nat)}{f t:Nat}{b:List (Nat×Nat)},kH f (l1++b) t↔∃m,kH f l1 m/\kH m b t
 |[],f,t,b=>by simp[kH]
 | (a,n)::l1,f,t,b=>by
  simp only[qB,kH,kH.app (l1:=l1)];constructor
  .rintro⟨g,e,m,d,c⟩;exact⟨m,⟨g,e,d⟩,c⟩
  .rintro⟨m,⟨g,e,d⟩,c⟩;exact⟨g,e,m,d,c⟩
theorem kH.le:∀{l:List (Nat×Nat)}{f t:Nat},kH f l t->f+l.length<=t/\∀e∈l,f<=e.1/\e.1+e.2<=t
 |[],f,t,h=>⟨by cases h;simp,by simp⟩
 | (a,n)::l,f,t,⟨g,j,d⟩=>by
  obtain⟨i,c⟩:=kH.le d;refine⟨by simp;lia,λe b=>?_⟩;rcases br.mp b with rfl|b
  .subst g;exact⟨aZ _,by simp;lia⟩
  .have:=c e b;exact⟨∅,this.2⟩
def PL(a:Array (Nat×Nat×Nat)):List (Nat×Nat):=a.toList.map λe=>(e.1,e.2.1)
structure iX(κ:KeyKind)(arr:Array Keyed)(pd:Array (Nat×Nat×Nat))(lo:Nat):Prop where
 ch:kH 0 (PL pd) lo
 run:∀e∈PL pd,Run κ arr e.1 e.2
theorem yv(a:Array (Nat×Nat×Nat)):(PL a).length=a.size:=by simp[PL]
theorem nY(a:Array (Nat×Nat×Nat))(e:Nat×Nat×Nat):PL (a.push e)=PL a++[(e.1,e.2.1)]:=by simp[PL]
theorem xV(a:Array (Nat×Nat×Nat))(k pw:Nat):PL (a.modify k λx=>(x.1,x.2.1,pw))=PL a:=by
 apply qw;intro i;simp only[PL,d7,oO,Array.getElem?_modify];split
 .cases a[i]? <;> rfl
 .rfl
theorem Ob{j:Array (Nat×Nat×Nat)}{i:Nat}(h:i+1<j.size):∃a f b d g sb c m,j[i]?=aa (b,d,g)/\j[i+1]?=aa (sb,c,m)/\PL j=a++(b,d)::(sb,c)::f /\ PL ((j.setIfInBounds i (b,d+c,g)).eraseIdxIfInBounds (i+1))=a++(b,d+c)::f:=by
 obtain⟨l⟩:=j;simp only[cX]at h;have e:l=l.take i++l[i]::l[i+1]::l.drop (i+2):=by rw[<-qx,<-qx,kh]
 obtain⟨a,x,y,f,n,p⟩:∃a x y f,a.length=i/\l=a++x::y::f:=⟨l.take i,l[i],l[i+1],l.drop (i+2),by simp;lia,e⟩
 subst n p;obtain⟨b,d,g⟩:=x;obtain⟨sb,c,m⟩:=y;refine⟨a.map λe=>(e.1,e.2.1),f.map λe=>(e.1,e.2.1),b,d,g,sb,c,m,by simp,by simp[Cp],by simp[PL],?_⟩;have o:((a++(b,d,g)::(sb,c,m)::f).toArray.setIfInBounds a.length (b,d+c,g)).eraseIdxIfInBounds (a.length+1)=(a++(b,d+c,g)::f).toArray:=by rw[List.setIfInBounds_toArray,List.set_append_right _ _ (aZ _),List.eraseIdxIfInBounds_toArray];congr 1;rw[List.eraseIdx_append_of_length_le ∅];simp
 rw[o];simp[PL]
section
variable{prog:aQ}{w:aI}{A:aX}{E:ai->ao->Prop}{s:ao}{κ:KeyKind}{kz:gw}
theorem iX.keep{a f:Array Keyed}{c:Array (Nat×Nat×Nat)}{b n:Nat}(h:iX κ a c b)(w:Wr a f b n):iX κ f c b :=⟨h.ch,λe d=>(h.run e d).keep w (.inl (h.ch.le.2 e d).2)⟩
theorem Bi(I:hG κ kz prog w A s){a:bK}(G:SB kz a)(J:AllK κ (arrOf a)){i l:Nat}(g:iX κ (arrOf a) (bw a) l)(F:l<=(arrOf a).size)(H:i+1<(bw a).size){Q:Bool->bK->Prop}(h:∀c,SB kz c->Wr (arrOf a) (arrOf c) 0 l->iX κ (arrOf c) (bw c) l->(bw c).size+1=(bw a).size->Q ah c):wpS (au prog w) A E s (mergeAt' i) Q a:=by
 obtain⟨X,W,f,j,T,sb,u,S,L,K,d,p⟩:=Ob H;have v:=g.ch;rw[d]at v;obtain⟨m,y,P,O,N,M,x⟩:=kH.app.mp v;subst P N;have b1:=y.le;have b2:=x.le;have B:Run κ (arrOf a) f j:=g.run (f,j) (by rw[d];simp);have z:Run κ (arrOf a) (f+j) u:=g.run (f+j,u) (by rw[d];simp);refine P_ I G J L K O M ∅ B z λc C n o D=>h c C (o.mono ∅ ∅) ⟨?_,?_⟩ ?_
 .rw[n,p];exact kH.app.mpr ⟨f,y,rfl,∅,by rw[<-zy];exact x⟩
 .rw[n,p];intro e b;rcases gv.mp b with b|b
  .exact(g.run e (by rw[d];exact qk _ b)).keep o (.inl (b1.2 e b).2)
  .rcases br.mp b with rfl|b
   .exact D
   .exact(g.run e (by rw[d];simp[b])).keep o (.inr (by have:=(b2.2 e b).1;lia))
 .have r:=yv (bw c);have q:=yv (bw a);rw[n,p]at r;rw[d]at q;rw[n,<-r,<-q];simp;lia
theorem Le(hO:hG κ kz prog w A s){st:bK}(hk:SB kz st)(hA:AllK κ (arrOf st))(hp:bw st=#[]){Q:Unit->bK->Prop}(h:∀ax,SB kz ax->(arrOf ax).toList.Perm (arrOf st).toList->Run κ (arrOf ax) 0 (arrOf st).size->Q () ax):wpS (au prog w) A E s sortRuns' Q st:=by
 unfold sortRuns';refine aK (lG ?_);dsimp only;obtain⟨b,Tb⟩:∃b,b=(arrOf st).size:=⟨_,rfl⟩
 have S5:((sortPriv% PySem.Builtin.SortState.a) st).size=b:=Tb.symm;simp only[S5];refine aK (gT (gU (I:=λx c o=>∃f,c=(ae,f)/\x<=f/\f<=b/\SB kz o/\(arrOf o).toList.Perm (arrOf st).toList/\(arrOf o).size=b/\iX κ (arrOf o) (bw o) f) (Q:=λc o=>c=(ae,b)/\SB kz o/\(arrOf o).toList.Perm (arrOf st).toList/\(arrOf o).size=b/\iX κ (arrOf o) (bw o) b) ?_ ?_ ?_) ?_);rotate_left
 .rintro c o ⟨f,rfl,b1,b2,jC,K,S,O⟩;have:f=b:=∅
  subst this;exact⟨rfl,jC,K,S,O⟩
 .exact⟨0,rfl,∅,∅,hk,vV _,Tb.symm,by rw[hp];exact⟨rfl,by simp[PL]⟩⟩
 .rintro c o ⟨rfl,jC,K,S,O⟩;dsimp only;refine aK (gT (gU (I:=λx c l=>c=(ae,())/\SB kz l/\(arrOf l).toList.Perm (arrOf st).toList/\(arrOf l).size=b/\iX κ (arrOf l) (bw l) b/\(bw l).size+x<=b+1) (Q:=λc l=>c=(ae,())/\SB kz l/\(arrOf l).toList.Perm (arrOf st).toList/\(arrOf l).size=b/\iX κ (arrOf l) (bw l) b/\(bw l).size<=1) ?_ ?_ ?_) ?_)
  .rintro x c l _ hx ⟨rfl,F,Y,wI,P,hb⟩;refine aK (lG ?_);refine cR (λe1=>aS ⟨rfl,F,Y,wI,P,e1⟩) λe1=>?_;have tZ:1<(bw l).size:=Nat.lt_of_not_le e1;refine aK (Bi hO F (hA.of Y) P ∅ ?_ λN M jS G hq=>?_)
   .exact Pi (show(bw l).size-2-1+1<(bw l).size by lia) (show(bw l).size-2+1<(bw l).size by lia)
   .exact aS ⟨rfl,M,jS.perm.trans Y,jS.size.trans wI,G,∅⟩
  .rintro c l ⟨rfl,F,Y,wI,P,hb⟩;exact⟨rfl,F,Y,wI,P,∅⟩
  .have:=O.ch.le.1;rw[yv]at this;exact⟨rfl,jC,K,S,O,∅⟩
  .rintro c l ⟨rfl,F,Y,wI,P,hb⟩;refine aS (h l F Y ?_);rw[<-Tb];have hc:=P.ch;have hr:=P.run;have hl:=yv (bw l)
   match hq:PL (bw l),hc,hr,hl with
   |[],hc,hr,hl=>
    cases hc;intro i j x y a1 a2 a3;lia
   |[(a,n)],hc,hr,hl=>
    obtain⟨d1,d2,d3⟩:=hc;cases d1;have d3':0+n=b:=d3;have:=hr (0,n) (by simp);rw[show b=n by lia];exact this
   |_::_::_,hc,hr,hl=>simp at hl;lia
 rintro x c o _ hx ⟨f,rfl,b1,b2,jC,K,S,O⟩;dsimp only;refine cR (λe1=>?_) λe1=>?_
 .have:f=b:=∅
  subst this;exact aS ⟨rfl,jC,K,S,O⟩
 refine aK (K1 hO jC (hA.of K) ∅ ∅ λr l F hq2 t5 f1 f2 tU=>?_);dsimp only;refine cR (λe2=>?_) λe2=>?_
 .refine aK (tD (oN ⟨rfl,?_⟩));refine aK (Kf hO F ((hA.of K).of t5.perm) ∅ (by rw[t5.size];lia) tU λN M hq3 jS Z=>?_);rw[if_neg (by simp)];have L:Wr (arrOf o) (arrOf N) f (b-f):=t5.trans (jS.mono ∅ ∅);have wL:bw N=bw o:=hq3.trans hq2;generalize hn:min (b-f) _=n at *;have n1:0<n:=∅
  have n2:f+n<=b:=∅
  clear F t5 tU hq2 jS hq3;have G:iX κ (arrOf N) (bw N) f:=by rw[wL];exact O.keep L
  have iG:(arrOf N).toList.Perm (arrOf st).toList:=L.perm.trans K;have o0:(arrOf N).size=b:=L.size.trans S;have hR:Run κ (arrOf N) f n:=Z.run;clear L wL;refine aK (lG ?_);obtain⟨kd,arr,W,mg,fl⟩:=N;dsimp only;cases hbk:W.back? with
  |none=>
   dsimp only;refine aK (nJ (aS ⟨f+n,rfl,∅,n2,⟨M.kind,M.failed⟩,iG,o0,?_⟩));refine⟨?_,?_⟩
   .show kH 0 (PL (W.push (f,n,0))) _;rw[nY];exact kH.app.mpr ⟨f,G.ch,rfl,n1,rfl⟩
   .show ∀e∈PL (W.push (f,n,0)),_;rw[nY];intro e m;rcases gv.mp m with m|m
    .exact G.run e m
    .rw[gQ.mp m];exact hR
  |some bk=>
   obtain⟨s1,m1,q1⟩:=bk;dsimp only;refine aK (gT (gU (I:=λx c g=>c=(ae,())/\SB kz g/\(arrOf g).toList.Perm (arrOf st).toList/\(arrOf g).size=b/\iX κ (arrOf g) (bw g) f/\Run κ (arrOf g) f n) (Q:=λc g=>c=(ae,())/\SB kz g/\(arrOf g).toList.Perm (arrOf st).toList/\(arrOf g).size=b/\iX κ (arrOf g) (bw g) f/\Run κ (arrOf g) f n) ?_ (λ_ _ hh=>hh) ?_) ?_)
   .rintro y c g _ hy ⟨rfl,B,C,J,u,H⟩;refine aK (lG ?_);have wl:∀{p:bK},p=g->((ae,()):Option Unit×Unit)=(ae,())/\SB kz p/\(arrOf p).toList.Perm (arrOf st).toList/\(arrOf p).size=b/\iX κ (arrOf p) (bw p) f/\Run κ (arrOf p) f n:=λe=>by subst e;exact⟨rfl,B,C,J,u,H⟩
    by_cases hg:1<(bw g).size
    .obtain⟨z,q,d,v,D⟩:=g;have X:d.size > 1:=hg;dsimp only;rw[if_pos X,getElem?_pos d (d.size-2) ∅];obtain⟨u1,u2,u3⟩:=d[d.size-2];dsimp only;refine cR (λ_=>aS (wl rfl)) λ_=>?_;refine aK (Bi hO B (hA.of C) u ∅ (show d.size-2+1<d.size by lia) λp lR T hP5 _=>?_);exact aS ⟨rfl,lR,T.perm.trans C,T.size.trans J,hP5,H.keep T (.inr ∅)⟩
    .obtain⟨z,q,d,v,D⟩:=g;have X:¬d.size > 1:=hg;dsimp only;rw[if_neg X];exact aS (wl rfl)
   .exact⟨rfl,M,iG,o0,G,hR⟩
   rintro c g ⟨rfl,B,C,J,u,H⟩;obtain⟨z,q,d,v,D⟩:=g;dsimp only;refine aK (nJ (aK (nJ (aS ⟨f+n,rfl,∅,n2,⟨B.kind,B.failed⟩,C,J,?_⟩))));refine⟨?_,?_⟩
   .show kH 0 (PL ((d.modify (d.size-1) λx=>(x.1,x.2.1,_)).push (f,n,0))) _;rw[nY,xV];exact kH.app.mpr ⟨f,u.ch,rfl,n1,rfl⟩
   .show ∀e∈PL ((d.modify (d.size-1) λx=>(x.1,x.2.1,_)).push (f,n,0)),_;rw[nY,xV];intro e m;rcases gv.mp m with m|m
    .exact u.run e m
    .rw[gQ.mp m];exact H
 .have M:=F;have Z:=tU;have L:Wr (arrOf o) (arrOf l) f (b-f):=t5;have wL:bw l=bw o:=hq2;have n1:0<r:=∅
  have n2:f+r<=b:=∅
  have G:iX κ (arrOf l) (bw l) f:=by rw[wL];exact O.keep L
  have iG:(arrOf l).toList.Perm (arrOf st).toList:=L.perm.trans K;have o0:(arrOf l).size=b:=L.size.trans S;have hR:Run κ (arrOf l) f r:=Z.run;clear L wL;refine aK (lG ?_);obtain⟨kd,arr,W,mg,fl⟩:=l;dsimp only;cases hbk:W.back? with
  |none=>
   dsimp only;refine aK (nJ (aS ⟨f+r,rfl,∅,n2,⟨M.kind,M.failed⟩,iG,o0,?_⟩));refine⟨?_,?_⟩
   .show kH 0 (PL (W.push (f,r,0))) _;rw[nY];exact kH.app.mpr ⟨f,G.ch,rfl,n1,rfl⟩
   .show ∀e∈PL (W.push (f,r,0)),_;rw[nY];intro e m;rcases gv.mp m with m|m
    .exact G.run e m
    .rw[gQ.mp m];exact hR
  |some bk=>
   obtain⟨s1,m1,q1⟩:=bk;dsimp only;refine aK (gT (gU (I:=λx c g=>c=(ae,())/\SB kz g/\(arrOf g).toList.Perm (arrOf st).toList/\(arrOf g).size=b/\iX κ (arrOf g) (bw g) f/\Run κ (arrOf g) f r) (Q:=λc g=>c=(ae,())/\SB kz g/\(arrOf g).toList.Perm (arrOf st).toList/\(arrOf g).size=b/\iX κ (arrOf g) (bw g) f/\Run κ (arrOf g) f r) ?_ (λ_ _ hh=>hh) ?_) ?_)
   .rintro y c g _ hy ⟨rfl,B,C,J,u,H⟩;refine aK (lG ?_);have wl:∀{p:bK},p=g->((ae,()):Option Unit×Unit)=(ae,())/\SB kz p/\(arrOf p).toList.Perm (arrOf st).toList/\(arrOf p).size=b/\iX κ (arrOf p) (bw p) f/\Run κ (arrOf p) f r:=λe=>by subst e;exact⟨rfl,B,C,J,u,H⟩
    by_cases hg:1<(bw g).size
    .obtain⟨z,q,d,v,D⟩:=g;have X:d.size > 1:=hg;dsimp only;rw[if_pos X,getElem?_pos d (d.size-2) ∅];obtain⟨u1,u2,u3⟩:=d[d.size-2];dsimp only;refine cR (λ_=>aS (wl rfl)) λ_=>?_;refine aK (Bi hO B (hA.of C) u ∅ (show d.size-2+1<d.size by lia) λp lR T hP5 _=>?_);exact aS ⟨rfl,lR,T.perm.trans C,T.size.trans J,hP5,H.keep T (.inr ∅)⟩
    .obtain⟨z,q,d,v,D⟩:=g;have X:¬d.size > 1:=hg;dsimp only;rw[if_neg X];exact aS (wl rfl)
   .exact⟨rfl,M,iG,o0,G,hR⟩
   rintro c g ⟨rfl,B,C,J,u,H⟩;obtain⟨z,q,d,v,D⟩:=g;dsimp only;refine aK (nJ (aK (nJ (aS ⟨f+r,rfl,∅,n2,⟨B.kind,B.failed⟩,C,J,?_⟩))));refine⟨?_,?_⟩
   .show kH 0 (PL ((d.modify (d.size-1) λx=>(x.1,x.2.1,_)).push (f,r,0))) _;rw[nY,xV];exact kH.app.mpr ⟨f,u.ch,rfl,n1,rfl⟩
   .show ∀e∈PL ((d.modify (d.size-1) λx=>(x.1,x.2.1,_)).push (f,r,0)),_;rw[nY,xV];intro e m;rcases gv.mp m with m|m
    .exact u.run e m
    .rw[gQ.mp m];exact H
end
theorem rT{n:Nat}(h:n<=1000000):n<bg:=CA h (by decide)
theorem Run.sortedTo{κ:KeyKind}{a:Array Keyed}{n:Nat}(h:Run κ a 0 n)(c:n<=a.size):SortedToK κ a n:=by intro i j b d;have:=h i j _ _ (jO _) b ∅ (getElem?_pos a i ∅) (getElem?_pos a j ∅);rw[su (show i<a.size by lia),su (show j<a.size by lia)];exact this
theorem KeysOf.all{κ:KeyKind}{a:Array Keyed}(h:KeysOf κ a):AllK κ a:=λi b=>h _ (by simp)
section
variable{P:aQ}{w:aI}{A:aX}{E:ai->ao->Prop}{s:ao}
theorem EH{κ:KeyKind}{kz:gw}{a:af}{c:List ai}{n:Nat}{F:Fin->ao->Prop}(q:s.heap.get? a=aa (fS "list" c.toArray n))(J:KeysOf κ (kW c))(C:c.length<=1000000)(D:∀r:aB,(∀b o,b≠a->s.heap.get? b=aa o->r.get? b=aa o)->2<=c.length->hG κ kz P w A {s with heap:=r}/\∀{E:ai->ao->Prop}{Q:gw->ao->Prop},Q kz {s with heap:=r}->aq (au P w) A (keyKind' c.toArray) Q E {s with heap:=r})(h:∀d:bK,(arrOf d).Perm (kW c)->SortedToK κ (arrOf d) (kW c).size->F (.done (.ret .none)) {s with heap:=sortedHeap s.heap a c ((arrOf d).map (·.2))}):aq (au P w) A (Builtin.«list.sort» ⟨[.ref a],[]⟩) F E s:=by
 rw[list_sort_plain];have z:a<s.heap.objs.size:=bG q;have y:c.length<=bg:=kJ (rT C);refine ap (listItems_at q rfl ?_);refine ap (CN q rfl ?_);obtain⟨u,x⟩:∃u,(s.heap.update a (kg λ_=>#[])).get? a=aa (fS "list" #[] u):=⟨_,get?_update_seq q (λ_=>#[])⟩
 refine ap (seqEpoch_at x rfl ?_);refine ap (wpAny_newTuple ?_ (hsz:=by rw[zm];exact y));refine ap (CG ?_);refine ke ?_;have l:(((s.heap.update a (kg λ_=>#[])).push (fS "tuple" c.toArray 0)).push (fS "list" #[] 0)).get? a=aa (fS "list" #[] u):=by rw[Heap.get?_push_ne _ _ _ (by rw[jx,Jd];exact df (kT z)),Heap.get?_push_ne _ _ _ (by rw[Jd];exact df z)];exact x
 have keep:∀b o,b≠a->s.heap.get? b=aa o->(((s.heap.update a (kg λ_=>#[])).push (fS "tuple" c.toArray 0)).push (fS "list" #[] 0)).get? b=aa o:=λb o m e=>bH _ (bH _ (by rw[Jb _ _ _ _ m];exact e));show aq (au P w) A _ F E {s with heap:=((s.heap.update a (kg λ_=>#[])).push (fS "tuple" c.toArray 0)).push (fS "list" #[] 0)};dsimp only;have f:∀d:bK,failedOf d=ae->(arrOf d).Perm (kW c)->SortedToK κ (arrOf d) (kW c).size ->
   aq (au P w) A (do
    let touched:=(<-seqEpoch a) != u
    Builtin.List.listUpdate (.ref a) λ_=>(arrOf d).map (·.2)
    if let aa e:=failedOf d then rule "list.sort.comparison-raised";throw e
    if touched then rule "list.sort.modified";raiseError "ValueError" "list modified during sort"
    ret .none) F E {s with heap:=((s.heap.update a (kg λ_=>#[])).push (fS "tuple" c.toArray 0)).push (fS "list" #[] 0)}:=λd m p v=>by
  refine ap (seqEpoch_at l rfl ?_);refine ap (CN l rfl ?_ (hsz2:=by refine c0 (nq ((Array.size_map ..).trans (p.size_eq.trans (pairsOf_size _)))) (Nat.le_succ_of_le y)));rw[m];simp only[bne_self_eq_false,eZ,if_false];exact aD (h d p v)
 by_cases g:c.toArray.size<2
 .rw[if_pos g,if_pos g];refine ap (aD ?_);refine ap (aD ?_);refine f (SortSt.mk' general' (c.toArray.zip c.toArray) #[] 7 ae) rfl (Array.Perm.refl _) λi j N G=>?_;have:i=j:=by rw[pairsOf_size]at G;rw[cX]at g;lia
  subst this;exact mr _
 .rw[if_neg g,if_neg g];obtain⟨H,I⟩:=D _ keep (by rw[cX]at g;lia);refine ap (I ?_);refine ap (f9 (Le (κ:=κ) (kz:=kz) H (st:=SortSt.mk' kz (c.toArray.zip c.toArray) #[] 7 ae) (Q:=λ_ d=>SB kz d/\(arrOf d).toList.Perm (kW c).toList/\Run κ (arrOf d) 0 (kW c).size) ⟨rfl,rfl⟩ (KeysOf.all J) rfl λd M L K=>⟨M,L,K⟩) ?_ λ_ _ e=>e);rintro⟨⟨⟩,d⟩ s' ⟨rfl,m,p,v⟩;have B:(arrOf d).Perm (kW c):=CZ.mpr p;exact f d m.failed B (v.sortedTo (by rw[B.size_eq];exact aZ _))
theorem Rh{f:KeyKind}(m:f.OneLt){a:af}{d:List ai}{n:Nat}{F:Fin->ao->Prop}(l:s.heap.get? a=aa (fS "list" d.toArray n))(o:KeysOf f (kW d)) (i:∀c b rest,d=c::b::rest->keyKind' (c::b::rest).toArray=pure oneType') (j:d.length<=1000000)(h:∀g:bK,(arrOf g).Perm (kW d)->SortedToK f (arrOf g) (kW d).size->F (.done (.ret .none)) {s with heap:=sortedHeap s.heap a d ((arrOf g).map (·.2))}):aq (au P w) A (Builtin.«list.sort» ⟨[.ref a],[]⟩) F E s :=
 EH l o j (λp _ e=>⟨OneLt.ok m,λq=>by
  obtain⟨c,b,rest,rfl⟩:∃c b rest,d=c::b::rest:=by
   match d,e with
   |[],e=>simp at e
   |[_],e=>simp at e
   |c::b::rest,_=>exact⟨c,b,rest,rfl⟩
  rw[i _ _ _ rfl];exact aD q⟩) h
theorem NU{v:ai}{Q:ai->ao->Prop}(z:aq (au P w) A.in1 (collect v) (λf d=>∃h:List Str,d9 f h/\f.length<=1000000/\∀(l:aB) (out:Array ai) (g:List Str) (e:Nat),(∀b o,d.heap.get? b=aa o->l.get? b=aa o) -> l.get? d.heap.objs.size=aa (fS "list" out e)->d9 out.toList g->g.Perm h->sortedS g=ah->Q (.ref d.heap.objs.size) {d with heap:=l}) E s):aq (au P w) A (call (.builtin "sorted") [v]) Q E s:=by refine IX kind_sorted plain_sorted entry_sorted (args_sorted1 _) ?_;unfold IY;refine ap (m:=checkCount "sorted" 1 1 _) (aD ?_);refine ap (aP z λf d ζ=>?_);obtain⟨h,j,r,n⟩:=ζ;refine ap (CG ?_);have i:(d.heap.push (fS "list" f.toArray 0)).get? d.heap.objs.size=aa (fS "list" f.toArray 0):=cW _ rfl;refine ap (ke (kP slot_list_sort ⟨_,i,rfl⟩ entry_list_sort (Rh strKind_oneLt i j.keysOf (λa b c e=>keyKind_strs (by rw[<-e];exact j)) r λB x u=>⟨_,rfl,?_⟩) (args_list_sort _)));obtain⟨g,F,D,C⟩:=sorted_out_str j x u;obtain⟨e,y⟩:=sortedHeap_at (out:=(arrOf B).map (·.2)) i;refine aD ⟨_,rfl,n _ _ g e (λb o p=>?_) y F D C⟩;have q:b<d.heap.objs.size:=bG p;rw[sortedHeap_old (df q) (by rw[jx];exact kT q)];exact bH _ p
end
section
variable{X:Cx}
theorem Inv.sorted2{j:List (af×Obj)}{h:St}{H:Hp}{d:ao}{c:List Tx}{i f:List Str}{g:aB}{a:Array ai}{e:Nat}(I:Inv X j h H d)(n:i=c.map tS)(v:c.length<=1000000)(k:∀b o,d.heap.get? b=aa o->g.get? b=aa o) (m:g.get? d.heap.objs.size=aa (fS "list" a e)) (u:d9 a.toList f) (s:f.Perm i) (r:sortedS f=ah):Inv X j h (upd H d.heap.objs.size (.lst (cN (aV c)))) {d with heap:=g}:=by
 have q:f.map (λz=>z.cps.toList)=aV c:=by
  refine vo ?_ (HP r);have:=s.map λz=>z.cps.toList;rw[n,cB]at this;have p:(c.map ((λz:Str=>z.cps.toList) ∘ tS))=c:=by simp[lD,jJ]
  rw[p]at this;exact this
 have l:bA (cN (aV c)) a.toList:=by rw[<-q];exact Ba u
 refine I.laid (t':=d.toks) k (aZ _) ⟨?_,a.toList,e,l,?_⟩
 .rw[BG,yG];exact kJ (rT ∅)
 .rw[CH];exact m
theorem rF:gg X (.builtin "sorted") (λv H Q=>∃(p:af) (d:List Tx),v=[.ref p]/\(cz X.K H p (cN d)\/cp X.K H p (cN d))/\d.length<=1000000/\∀l,H l=ae->Q (.ref l) (upd H l (.lst (cN (aV d))))):=by
 intro G s x H v M Q I r h;obtain⟨p,d,rfl,f,C,q⟩:=h;obtain⟨u,rfl,y⟩:=vals1 r;cases y;have b:∀(T:String) (o:Obj) (a:List ai) (n:Nat),(T = "list"\/T = "tuple")->s.heap.get? p=aa o->o.cls=.type T->o.data=.seq a.toArray n->bA (cN d) a ->
   aq (au X.prog X.w) X.A (call (.builtin "sorted") [Value.ref p]) (EP X G x Q) X.xe s:=λT o a n F j i g c=>by
  have E:=c.length;rw[BG]at E;have m:=rT (n:=a.length) ∅;refine NU (wpAny_collect_seq p F j i g (λN B=>?_) (by rw[cX];lia));have w:=I.kept (t':=s.toks) B;refine⟨_,xf c,by rw[zm];lia,λO A P e k j L K J=>?_⟩;exact⟨.ref _,_,Inv.sorted2 w rfl C k j L K J,rfl,q _ w.fresh⟩
 rcases f with f|f
 .obtain⟨a,c,z,D⟩:=I.list f;obtain⟨o,e,i,n,g⟩:=z.isList;exact b "list" o a n (.inl rfl) e i g c
 .obtain⟨a,c,⟨o,e,i,n,g⟩,D⟩:=I.tuple f;exact b "tuple" o a n (.inr rfl) e i g c
end
end L2
namespace Pu
open L2
section
variable{X:Cx}{K:ay}
def iS:List PV->Option PO
 |[.lst a]=>(gp a).bind λls=>if ls.length<=1000000 then aa (.lst (am (aV ls)))else ae
 |[.tup a]=>(gp a).bind λls=>if ls.length<=1000000 then aa (.lst (am (aV ls)))else ae
 |_=>ae
theorem sK:lZ K (λm H Q=>∃(p:af) (b:List Tx),m=[.ref p]/\(cz K H p (cN b)\/cp K H p (cN b))/\b.length<=1000000/\∀l,H l=ae->Q (.ref l) (upd H l (.lst (cN (aV b))))) iS:=λF H m z Q o y n e q=>by
 have f:∀{g:List PV}{c:List V}{a:af},((gp g).bind λb=>if b.length<=1000000 then aa (PO.lst (am (aV b)))else ae)=aa o->aR K H F g c->(cz K H a c\/cp K H a c) ->
   ∃(p:af) (b:List Tx),[V.ref a]=[.ref p]/\(cz K H p (cN b)\/cp K H p (cN b))/\b.length<=1000000/\∀l,H l=ae->Q (.ref l) (upd H l (.lst (cN (aV b)))):=λ{g c a} e d u=>by
  cases h:gp g with
  |none=>rw[h]at e;cases e
  |some b=>
   rw[h]at e;simp only[gR]at e;split at e
   .rename_i r;cases e;rw[xk h]at d;obtain⟨rfl,w⟩:=To.mp d;refine⟨a,b,rfl,u,r,λl i=>q l F _ _ (Al.new0 i) (uJ i (To.mpr ⟨rfl,λx s=>w x ((fc b).mem_iff.mp s)⟩)) (u5 i y trivial)⟩
   .cases e
 unfold iS at e;split at e
 .obtain⟨v,rfl,a,c,rfl,j,_,d⟩:=gY n;exact f e d (.inl (.inl j))
 .obtain⟨v,rfl,a,c,rfl,j,d⟩:=gY n;exact f e d (.inr (cp.of j))
 .cases e
end
end Pu
namespace Mx
theorem KY(p:Nat):∃o,5^(2^p)=1+2^(p+2)*(2*o+1):=by
 induction p with
 |zero=>exact⟨0,by decide⟩
 |succ p a=>
  obtain⟨o,h⟩:=a;refine⟨o+2^p*(2*o+1)*(2*o+1),?_⟩;rw[show 2^(p+1)=2^p*2 from v8 ..,Nat.pow_mul,h];rw[show(2:Nat)^(p+1+2)=8*2^p from by rw[v9,v8];lia,show(2:Nat)^(p+2)=4*2^p from by rw[v9];lia];generalize 2^p=q
  grind
def F5:Nat->Nat->Nat
 |0,x=>x
 |n+1,x=>F5 n (5*x+1)
theorem KC(m n x:Nat):F5 (m+n) x=F5 n (F5 m x):=by
 induction m generalizing x with
 |zero=>simp[F5]
 |succ m a=>rw[v7];exact a _
theorem KZ(n x:Nat):4*F5 n x+1=5^n*(4*x+1):=by
 induction n generalizing x with
 |zero=>simp[F5]
 |succ n a=>show 4*F5 n (5*x+1)+1=_;rw[a,v8];grind
theorem Rm(p x:Nat):∃o,F5 (2^p) x=x+2^p*(2*o+1):=by
 obtain⟨o,h⟩:=KY p;have c:=KZ (2^p) x;rw[h,show(2:Nat)^(p+2)=4*2^p from by rw[v9];lia]at c;refine⟨o*(4*x+1)+2*x,?_⟩;generalize 2^p=q at c;generalize F5 q x=y at c
 grind
theorem HB(p:Nat):∀x y,y<2^p->∃n,n<2^p/\F5 n x % 2^p=y:=by
 induction p with
 |zero=>intro x y h;exact⟨0,by decide,by simp at h;subst h;simp[Nat.mod_one]⟩
 |succ p f=>
  intro x y d;obtain⟨n,v,e⟩:=f x (y % 2^p) (nz _ (Nat.two_pow_pos p));have i:(2:Nat)^(p+1)=2*2^p:=by rw[v8];lia
  obtain⟨o,j⟩:=Rm p (F5 n x);have c:=Nat.two_pow_pos p;by_cases q:F5 n x % 2^(p+1)=y
  .exact⟨n,∅,q⟩
  .refine⟨n+2^p,∅,?_⟩;rw[KC,j];rw[i]at q d ⊢;generalize 2^p=N at *;generalize F5 n x=z at *;have r:z % (2*N) % N=z % N:=Nat.mod_mod_of_dvd _ ⟨2,∅⟩;have m:(z+N*(2*o+1)) % (2*N)=(z+N) % (2*N):=by rw[show z+N*(2*o+1)=(z+N)+(2*N)*o by grind,Nat.add_mul_mod_self_left]
   rw[m];have g:=nz z (show 2*N > 0 by lia);have l:(z+N) % (2*N)=(z % (2*N)+N) % (2*N):=by rw[C0];simp[C0,zD (show N<2*N by lia)]
   rw[l];generalize z % (2*N)=u at *;rw[<-r]at e;have a:=Nat.div_add_mod u N;have b:=Nat.div_add_mod y N;have b1:u / N<2:=Nat.div_lt_of_lt_mul (by rw[C1];exact g);have b2:y / N<2:=Nat.div_lt_of_lt_mul (by rw[C1];exact d);rw[e]at a;generalize u / N=uq at a b1;generalize y / N=yq at b b2;have s:=nz y c;rcases(show uq=0\/uq=1 by lia)with c1|c1 <;> rcases(show yq=0\/yq=1 by lia)with c2|c2 <;> subst c1 <;> subst c2 <;> simp only[Nat.mul_zero,Nat.mul_one,nG]at a b
   .exact absurd (a.symm.trans b) q
   .rw[zD ∅];lia
   .rw[show u+N=y+2*N by lia,Nat.add_mod_right,zD ∅]
   .exact absurd (a.symm.trans b) q
end Mx
namespace L2
open Mx
def eP(mask:Nat):Nat->Nat->Nat->Nat×Nat
 |0,i,p=>(i,p)
 |n+1,i,p=>eP mask n (mv mask i p).1 (mv mask i p).2
theorem Ap(mask:Nat):∀(m n i p:Nat),eP mask (m+n) i p=eP mask n (eP mask m i p).1 (eP mask m i p).2
 |0,n,i,p=>by rw[nG];rfl
 |m+1,n,i,p=>by rw[v7];exact Ap mask m n _ _
theorem Bh(mask:Nat):∀(m i p:Nat),(eP mask m i p).2=p / 32^m
 |0,i,p=>by simp[eP]
 |m+1,i,p=>by show(eP mask m _ _).2=_;rw[Bh mask m];show p / 32 / 32^m=_;rw[Nat.div_div_eq_div_mul,v8,C1]
theorem Bc(mask:Nat):∀(n i:Nat),(eP mask n i 0).1 % (mask+1)=F5 n i % (mask+1)
 |0,i=>rfl
 |n+1,i=>by show(eP mask n ((i*5+1+0 / 32) % (mask+1)) (0 / 32)).1 % _=F5 n (5*i+1) % _;rw[show 0 / 32=0 from rfl,Bc mask n,Nat.add_zero,C1 i 5];exact F5_mod n (mask+1) (5*i+1)
where
 F5_mod:∀(n N x:Nat),F5 n (x % N) % N=F5 n x % N
  |0,N,x=>by simp[F5]
  |n+1,N,x=>by show F5 n (5*(x % N)+1) % N=F5 n (5*x+1) % N;rw[<-F5_mod n N (5*(x % N)+1),<-F5_mod n N (5*x+1)];congr 2;rw[C0,Nat.mul_mod,Nat.mod_mod,<-Nat.mul_mod,<-C0]
theorem BX(mask:Nat):∀(n i p:Nat),(eP mask (n+1) i p).1<mask+1
 |0,i,p=>nz _ (tF _)
 |n+1,i,p=>BX mask n _ _
theorem EE{mask:Nat}{owner:Array (Option Nat)}:∀(a i p:Nat),(∃t,t<a/\(owner.getD (eP mask t i p).1 (aa 0)).isNone=ah)->∃j,oP mask owner a i p=aa j/\(owner.getD j (aa 0)).isNone=ah
 |0,i,p,⟨t,h,_⟩=>absurd h (nB _)
 |a+1,i,p,⟨t,h,e⟩=>by
  unfold oP;cases q:(cG (fG mask i+1-i)).find? (λk=>(owner.getD (i+k) (aa 0)).isNone)with
  |some k=>exact⟨i+k,rfl,by have:=List.find?_some q;exact this⟩
  |none=>
   cases t with
   |zero=>have:=C3.mp q 0 (by rw[kb];unfold fG;split <;> lia);exact absurd (show(owner.getD (i+0) (aa 0)).isNone=ah from e) this
   |succ t=>exact EE a _ _ ⟨t,∅,e⟩
theorem KH{mask q:Nat}{owner:Array (Option Nat)}(a:mask+1=2^q)(d:owner.size=mask+1){y:Nat}(c:y<owner.size)(g:owner[y]?=aa ae)(i p:Nat)(f:p<2^64):∃j,oP mask owner (qC mask) i p=aa j/\owner[j]?=aa ae:=by
 obtain⟨n,u,e⟩:=HB q (eP mask 13 i p).1 y (by rw[<-a,<-d];exact c);have h:(eP mask 13 i p).2=0:=by rw[Bh];exact Nat.div_eq_of_lt (gK f (by decide))
 have s:(eP mask (13+n) i p).1<mask+1:=by rw[show 13+n=(12+n)+1 by lia];exact BX mask _ _ _
 have r:(eP mask (13+n) i p).1=y:=by
  have m:(eP mask (13+n) i p).1 % (mask+1)=y:=by rw[Ap,h,Bc,a];exact e
  rwa[zD s]at m
 obtain⟨j,l,f2⟩:=EE (mask:=mask) (owner:=owner) (qC mask) i p ⟨13+n,by unfold qC;lia,by rw[r,v_,g];rfl⟩;refine⟨j,l,?_⟩;rw[v_]at f2;cases b:owner[j]? with
 |none=>rw[b]at f2;cases f2
 |some o=>
  rw[b]at f2;cases o with
  |none=>rfl
  |some v=>cases f2
theorem HC:∀(l:List (Option Nat)) (j k:Nat),l[j]?=aa ae->((l.set j (aa k)).filterMap id).Perm (k::l.filterMap id)
 |[],j,k,h=>by simp at h
 |x::l,0,k,h=>by simp at h;subst h;simp
 |x::l,j+1,k,h=>by
  have a:=HC l j k (by simpa using h);cases x with
  |none=>simpa using a
  |some v=>simp only[Jj,mf,id];exact(a.cons v).trans (List.Perm.swap ..)
theorem GG:∀(l:List (Option Nat)),(∀y,y<l.length->l[y]?≠aa ae)->(l.filterMap id).length=l.length
 |[],_=>rfl
 |x::l,h=>by
  have a:=GG l λy b e=>h (y+1) (by simp;lia) (by simpa using e);cases x with
  |none=>exact absurd rfl (h 0 (by simp))
  |some v=>simp[a]
def Laid(b:Nat)(a:Array (Option Nat))(k:Nat):Prop:=a.size=b+1/\(a.toList.filterMap id).Perm (cG k)
theorem RU{b q k:Nat}{a:Array (Option Nat)}(g:b+1=2^q)(L:Laid b a k)(n:k<b+1)(h:Int):∃j,oP b a (qC b) (eh h % (b+1)) (eh h)=aa j/\Laid b (a.setIfInBounds j (aa k)) (k+1):=by
 obtain⟨d,f⟩:=L;have:∃y,y<a.toList.length/\a.toList[y]?=aa ae:=by
  by_cases z:∃y,y<a.toList.length/\a.toList[y]?=aa ae
  .exact z
  .have:=GG a.toList λy c e=>z ⟨y,c,e⟩;have:=f.length_eq;simp at this;simp at *;lia
 obtain⟨y,c,i⟩:=this;have l:eh h<2^64:=by unfold eh;have:=zE h (show(0:Int)<2^64 by decide);have:=zF h (show(2^64:Int)≠0 by decide);lia
 obtain⟨j,m,f2⟩:=KH g d (by simpa using c) (by simpa using i) (eh h % (b+1)) _ l;refine⟨j,m,by simpa using d,?_⟩;rw[Array.toList_setIfInBounds,tq];exact(HC a.toList j k (by simpa using f2)).trans ((f.cons k).trans (List.perm_append_singleton ..).symm)
section
variable{X:Cx}{f:List (af×Obj)}{d:St}{H:Hp}{s:ao}{a:af}
theorem Inv.recast{p q:HO}(I:Inv X f d H s)(e:H a=aa p)(w:∀j,p≠.tup j)(D:∀o u,X.H₀ a≠aa (.frz o u))(C:∀l,p≠.tbl l)(B:∀x,p≠.own x)(new:cc X.prog X.w (upd H a q) s.heap a q):Inv X f d (upd H a q) s:=by
 have g:∀b,H b=ae->(upd H a q) b=ae:=λb i=>by rw[bf (by rintro rfl;rw[e]at i;cases i)];exact i
 refine⟨I.ok,I.os,I.bare,⟨I.base.keep,I.base.slot,λb o h n y=>g b (I.base.free b o h n y),I.base.there,λb j h=>?_,λb o u h=>?_,λb l h=>?_⟩,I.loc,I.cell,g _ I.free,λx c h=>g _ (I.freeC x c h),λp A=>?_,λb u i=>?_,I.len⟩
 .have z:=I.base.tups b j h;rw[bf (by rintro rfl;rw[e]at z;exact w j (cO z))];exact z
 .have z:=I.base.frzs b o u h;rw[bf (by rintro rfl;exact D o u h)];exact z
 .have z:=I.base.tbls b l h;rw[bf (by rintro rfl;rw[e]at z;exact C _ (cO z))];exact z
 .obtain⟨G,F,E⟩:=I.pin p A;exact⟨G,g _ F,E⟩
 .by_cases m:b=a
  .subst m;rw[upd_same]at i;cases i;exact new
  .rw[bf m]at i;refine(I.hok b u i).stay (λc v _ r=>r) (λc r=>?_) λc j r=>?_
   .rw[bf (by rintro rfl;rw[e]at r;exact B _ (cO r))];exact r
   .rw[bf (by rintro rfl;rw[e]at r;exact w _ (cO r))];exact r
def rf(o:Obj):Nat:=match o.data with
 |.dict _ ep=>ep
 |_=>0
end
end L2
namespace Pu
open L2
section
variable{X:Cx}{E:XK}{pin:List Nat}{e b c:aA}{de db f:aj->R PV}{d:Pos}
def mV(i:Nat):aj->R PV:=λa=>(aO (d_ a i) a).bind λg a=>.ok (.int (g.length:Nat)) a
theorem Hi(i:Nat){y:Str}{p g:Pos}(q:X.mg "len"=ae)(x:X.N[i]?=aa y:=by rfl)(A:eC X.env.scope y:=by first|exact Or.inl rfl|exact Or.inr (Or.inl rfl)|exact Or.inr (Or.inr rfl))(v:(y==("__debug__":Str))=ak:=by decide) (C:(y==("__classdict__":Str))=ak:=by decide) (u:Gl X "len":=by rfl)(l:a9 [.Name y g] X.env=(ak,bh (.Name y g) X.env)::a9 [] X.env:=by rfl) (B:(ef d (a9 [] X.env)).any (·.1)=ak:=by rfl):DE X E (.Call (.Name "len" p) [.Name y g] [] d) (mV i):=λF S m D H Q r h=>by
 unfold mV at h;cases j:d_ m i with
 |none=>rw[j]at h;exact h.elim
 |some o=>rw[j]at h;obtain⟨a,n,z,w,s,_⟩:=r.dkAt (l_ j);refine cn (mY L8 u q rfl (j7 (fA x A v C) kA l) (by decide) (by decide) l B) ⟨_,z,a,n,rfl,w,?_⟩;rw[s.len];exact h F S H r (Grow.refl ..) _ rfl
def jj(neg:Bool)(i:Nat)(db:aj->R PV):aj->R PV:=λε=>(db ε).bind λk ε1=>(aO (d_ ε1 i) ε1).bind λa ε1=>aO ((jl k).map λk=>.bl (neg^^(ji a k).isSome)) ε1
theorem J0{i:Nat}(j:Bool){F:af->Prop}{S:Nat->af->Prop}{n:aj}{g:St}{H:Hp}{Q:VK}(K:DE X E b db)(G:aJ X.K F S n g H)(h:Ok X.K E g F S H (jj j i db n) (λpv _ N _ A=>∀v,aL X.K A N pv v->Q v A)):gh X b g H λy l=>∃x,g[i]?=aa (aa x)/\∃a o,x=.ref a/\mI l a y o/\Q (.bl (j^^o.isSome)) l:=by
 unfold jj at h;refine K F S n g H _ G ((Ok.bind h).imp λk m B z l p O q u D=>?_);cases s:d_ m i with
 |none=>rw[s]at q;exact q.elim
 |some I=>
  rw[s]at q;simp only[bY,R.bind_ok]at q;obtain⟨a,C,M,L,J,_⟩:=p.dkAt (l_ s);cases r:jl k with
  |none=>rw[r]at q;exact q.elim
  |some w=>
   rw[r,oK]at q;rw[sE D r];refine⟨.ref a,M,a,jH C w,rfl,mI.k L,?_⟩;rcases J.val w with⟨x,v,h1,h2,h3⟩|⟨h1,h2⟩
   .rw[h1]at q;rw[h2];exact q B z l p (Grow.refl ..) _ rfl
   .rw[h1]at q;rw[h2];exact q B z l p (Grow.refl ..) _ rfl
theorem AZ(i:Nat){y:Str}{a:Pos}(u:X.A.units+64<cLine)(m:DE X E b db)(n:X.N[i]?=aa y:=by rfl)(o:eC X.env.scope y:=by first|exact Or.inl rfl|exact Or.inr (Or.inl rfl)|exact Or.inr (Or.inr rfl))(l:(y==("__debug__":Str))=ak:=by decide) (p:(y==("__classdict__":Str))=ak:=by decide) (j:ql .In (.Name y a)=ak:=by rfl):DT X E (.Compare b [.In] [.Name y a] d) (dB (jj ak i db)):=λF S s r H Q g h=>by refine vE (QW (N6 ∅ bF (fA n o l p)) j) ?_;have:=J0 (Q:=λv q=>∃k,v=.bl k/\Q k q) ak m g (um h);simp only[zG]at this;exact this
theorem pU(x:Str):tS x.cps.toList=x:=by simp[tS]
def ur(db f:aj->R PV):aj->R PO:=λh=>(db h).bind λk g=>(f g).bind λy a=>(aO (jl k) a).bind λi a=>.ok (.dK [(i,y)]) a
theorem ME(hb:DE X E b db)(Z:DE X E c f):DN X E (.Dict [aa b] [c] d) (ur db f):=λF S N I H Q v h=>by
 refine cn (K3 (Gc bF bF Hw) rfl rfl (by simp) (by simp)) λp l=>?_;have al:Al F F H (upd H p (.dK [])):=Al.new0 l;have Y:¬F p:=λz=>by obtain⟨o,q⟩:=v.ex p z;rw[l]at q;cases q
 have W:¬U S p:=λζ=>by obtain⟨i,z⟩:=ζ;obtain⟨_,_,o,q,_⟩:=v.foot i p z;rw[l]at q;cases q
 have B:Grow (U S) (U S) F F H (upd H p (.dK [])):=al.grow;refine hb F S N I _ _ (v.al al) ((Ok.bindB h B).imp λk n F1 S1 H1 J D h1 u O=>?_);obtain⟨e1,A,x⟩:=D.stay (upd_same:upd H p (.dK []) p=aa (.dK [])) W Y;refine Z F1 S1 n I H1 _ J ((Ok.bindB h1 (B.trans D)).imp λy M L S2 H2 T C m w r=>?_);obtain⟨K,g,a⟩:=C.stay e1 x A;cases G:jl k with
 |none=>rw[G]at m;exact m.elim
 |some j=>
  rw[G]at m;simp only[bY,R.bind_ok]at m;have s:aL X.K H2 L k u:=O.grow C J.fit;refine⟨K,[(j,w)],?_,by simp,?_⟩
  .rw[bE,zj,<-sE s G]
  .rw[show sO [] [(j,w)]=[(j,w)] from rfl];obtain⟨gl,fit,P⟩:=T.lay (o':=.dK [(j,w)]) K trivial g a;have g3:=((B.trans D).trans C).lay (o':=.dK [(j,w)]) l;refine m L S2 _ P g3 p (λb=>b=p) ⟨⟨_,upd_same,.cons ⟨rfl,r.grow gl fit⟩ .nil⟩,λb=>kU⟩ λb z=>?_;subst z;exact⟨l,g,a,_,upd_same,trivial⟩
end
end Pu
namespace L2
open Mx
theorem perm_mapE{g q:Type}{f:g->q}{l:List q}{m:List g}(h:l.Perm (m.map f)):∃d:List g,l=d.map f/\d.Perm m:=by
 generalize c:m.map f=mm at h
 induction h generalizing m with
 |nil=>
  cases m with
  |nil=>exact⟨[],rfl,.nil⟩
  |cons=>cases c
 |cons x _ w=>
  cases m with
  |nil=>cases c
  |cons y r=>rw[bE]at c;injection c with o n;obtain⟨d,e,p⟩:=w n;exact⟨y::d,by rw[bE,<-e,o],p.cons y⟩
 |swap x y l=>
  match m,c with
  |a::b::r,c=>simp only[bE,lI]at c;obtain⟨o,n,z⟩:=c;exact⟨b::a::r,by simp[o,n,z],.swap ..⟩
 |trans _ _ j i=>obtain⟨C,A,s⟩:=i c;obtain⟨v,B,u⟩:=j A.symm;exact⟨v,B,u.trans s⟩
theorem below_go{c:Array Nat}{j:Nat}(m:c.toList.Pairwise (· < ·)):∀(g f d:Nat),d-f<=g->f<=d->d<=c.size -> (∀i (h:i<c.size),i<f->c[i]<j)->(∀i (h:i<c.size),d<=i->j<=c[i]) -> tw c j g f d<=c.size/\(∀i (h:i<c.size),i<tw c j g f d->c[i]<j)/\∀i (h:i<c.size),tw c j g f d<=i->j<=c[i]
 |0,f,d,h,hl,hs,h1,h2=>by
  have:f=d:=∅
  subst this;exact⟨hs,h1,h2⟩
 |g+1,f,d,h,hl,hs,h1,h2=>by
  unfold tw;split
  .rename_i v;have n:(f+d) / 2<c.size:=∅
   have mono:∀a b (r:a<c.size) (q:b<c.size),a<b->c[a]<c[b]:=λa b r q s=>by have:=tE.mp m a b (by simpa using r) (by simpa using q) s;simpa using this
   have u:c.getD ((f+d) / 2) j=c[(f+d) / 2]:=by simp[Array.getD,n]
   dsimp only;rw[u];split
   .rename_i p;refine below_go m g _ _ ∅ ∅ hs (λi l o=>?_) h2;by_cases e:i=(f+d) / 2
    .subst e;exact p
    .have:=mono i _ l n ∅;lia
   .rename_i p;refine below_go m g _ _ ∅ ∅ ∅ h1 (λi l o=>?_);by_cases e:i=(f+d) / 2
    .subst e;lia
    .have:=mono _ i n l ∅;lia
  .have:f=d:=∅
   subst this;exact⟨hs,h1,h2⟩
theorem below_ok{a:Array Nat}(b:a.toList.Pairwise (· < ·))(j:Nat):iB a j<=a.size/\(∀i (h:i<a.size),i<iB a j->a[i]<j)/\∀i (h:i<a.size),iB a j<=i->j<=a[i] :=below_go b a.size 0 a.size ∅ ∅ (aZ _) (λi _ h=>absurd h (nB _)) λi h c=>absurd h ∅
structure TOk(t:cH):Prop where
 dm:t.dummies=#[]
 ris:t.place.toList.Pairwise (· < ·)
 le:∀j∈t.place.toList,j<=t.mask
 sz:t.mask∈[7,31,127,511,2047,8191]
 roomy:t.place.size*5<t.mask*3
theorem TOk.pow{t:cH}(h:TOk t):∃q,t.mask+1=2^q:=by
 have:=h.sz;simp only[br,gc,or_false]at this;rcases this with e|e|e|e|e|e <;> rw[e]
 .exact⟨3,rfl⟩
 .exact⟨5,rfl⟩
 .exact⟨7,rfl⟩
 .exact⟨9,rfl⟩
 .exact⟨11,rfl⟩
 .exact⟨13,rfl⟩
theorem TOk.most{t:cH}(h:TOk t):t.mask<=8191/\7<=t.mask/\t.mask % 2=1:=by have:=h.sz;simp only[br,gc,or_false]at this;lia
theorem slot_of{t:cH}(l:t.dummies=#[])(a:t.place.toList.Pairwise (· < ·))(j:Nat):(j∉t.place.toList/\t.slot j=.empty)\/∃i,t.place[i]?=aa j/\t.slot j=.live i:=by
 obtain⟨o,b1,b2⟩:=below_ok a j;unfold SetTable.slot;dsimp only;by_cases b:t.place[iB t.place j]?=aa j
 .exact .inr ⟨_,b,by rw[b];simp⟩
 .refine .inl ⟨λf=>?_,?_⟩
  .obtain⟨i,g,e⟩:=nI f;have c:i<t.place.size:=by simpa using g
   have h:t.place[i]=j:=by simpa using e
   have n:¬i<iB t.place j:=λz=>by have:=b1 i c z;lia
   have d:iB t.place j<t.place.size:=∅
   have m:=b2 _ d (aZ _);have:iB t.place j=i:=by
    by_cases q:iB t.place j=i
    .exact q
    .have:=tE.mp a _ i (by simpa using d) (by simpa using c) ∅;simp at this;lia
   exact b (by rw[this,jc c,h])
  .rw[if_neg (by simpa using b),l];simp[SetTable.has]
def stp(a i p:Nat):kj:={j:=i,more:=fG a i-i,i:=i,perturb:=p,dummy:=ae}
def pth(t:cH):Nat->kj->kj
 |0,p=>p
 |n+1,p=>pth t n (t.advance p)
theorem pth_add(t:cH):∀(m n:Nat) (p:kj),pth t (m+n) p=pth t n (pth t m p)
 |0,n,p=>by rw[nG];rfl
 |m+1,n,p=>by rw[v7];exact pth_add t m n _
theorem pth_succ(t:cH)(n:Nat)(p:kj):pth t (n+1) p=t.advance (pth t n p):=pth_add t n 1 p
theorem adv_dummy(t:cH)(p:kj):(t.advance p).dummy=p.dummy:=by unfold C4;split <;> rfl
theorem pth_dummy(t:cH):∀(n:Nat) (p:kj),(pth t n p).dummy=p.dummy
 |0,p=>rfl
 |n+1,p=>(pth_dummy t n _).trans (adv_dummy t p)
theorem pth_mask{t a:cH}(h:t.mask=a.mask):∀(n:Nat) (p:kj),pth t n p=pth a n p
 |0,p=>rfl
 |n+1,p=>by
  have:t.advance p=a.advance p:=by unfold C4;rw[h]
  show pth t n (t.advance p)=pth a n (a.advance p);rw[this,pth_mask h n]
theorem pth_run(t:cH):∀(k:Nat) (p:kj),k<=p.more->pth t k p={p with j:=p.j+k,more:=p.more-k}
 |0,p,_=>rfl
 |k+1,p,h=>by
  show pth t k (t.advance p)=_;have:t.advance p={p with j:=p.j+1,more:=p.more-1}:=by unfold C4;rw[if_pos ∅]
  rw[this,pth_run t k _ (by dsimp only;lia)];dsimp only;rw[show p.j+1+k=p.j+(k+1) by lia,show p.more-1-k=p.more-(k+1) by lia]
theorem run_le(a i:Nat):fG a i-i<=9:=by unfold fG;split <;> lia
theorem pth_leap(t:cH)(i p:Nat):pth t (fG t.mask i-i+1) (stp t.mask i p)=stp t.mask (mv t.mask i p).1 (mv t.mask i p).2:=by rw[pth_succ,pth_run t (fG t.mask i-i) (stp t.mask i p) (aZ _)];exact(if_neg (show ¬(fG t.mask i-i-(fG t.mask i-i) > 0) by lia)).trans rfl
theorem pth_orb(t:cH):∀(m i p:Nat),∃n,n<=10*m/\pth t n (stp t.mask i p)=stp t.mask (eP t.mask m i p).1 (eP t.mask m i p).2
 |0,i,p=>⟨0,aZ _,rfl⟩
 |m+1,i,p=>by obtain⟨n,b,a⟩:=pth_orb t m (mv t.mask i p).1 (mv t.mask i p).2;refine⟨fG t.mask i-i+1+n,by have:=run_le t.mask i;lia,?_⟩;rw[pth_add,pth_leap];exact a
theorem nat_len_sub:∀{l m:List Nat},l.Nodup->(∀x∈l,x∈m)->l.length<=m.length
 |[],m,_,_=>jO _
 |x::l,m,d,h=>by
  have c:x∈m:=h x (f8 ..);have a:=kf.mp d;have:=nat_len_sub (l:=l) (m:=m.erase x) a.2 λy b=>by have:y≠x:=λe=>a.1 (e ▸ b);exact(List.mem_erase_of_ne this).mpr (h y (fj _ b))
  rw[C5 c]at this;have:0<m.length:=List.length_pos_of_mem c;simp;lia
theorem bits_lt(h:Int):eh h<2^64:=by unfold eh;have:=zE h (show(0:Int)<2^64 by decide);have:=zF h (show(2^64:Int)≠0 by decide);lia
theorem pth_empty{t:cH}(ok:TOk t)(h:Int):∃n,n<=10*(t.mask+14)/\(pth t n (t.probeStart h)).j∉t.place.toList:=by
 obtain⟨q,c⟩:=ok.pow;have:∃y,y<t.mask+1/\y∉t.place.toList:=by
  by_cases z:∃y,y<t.mask+1/\y∉t.place.toList
  .exact z
  .have:=nat_len_sub (l:=cG (t.mask+1)) (m:=t.place.toList) List.nodup_range λx b=>by
    by_cases a:x∈t.place.toList
    .exact a
    .exact absurd ⟨x,kb.mp b,a⟩ z
   have:=ok.roomy;simp at *;lia
 obtain⟨y,p,d⟩:=this;obtain⟨n,r,e⟩:=HB q (eP t.mask 13 (eh h % (t.mask+1)) (eh h)).1 y ∅;have f:(eP t.mask 13 (eh h % (t.mask+1)) (eh h)).2=0:=by rw[Bh];exact Nat.div_eq_of_lt (gK (bits_lt h) (by decide))
 have o:(eP t.mask (13+n) (eh h % (t.mask+1)) (eh h)).1<t.mask+1:=by rw[show 13+n=(12+n)+1 by lia];exact BX t.mask _ _ _
 have j:(eP t.mask (13+n) (eh h % (t.mask+1)) (eh h)).1=y:=by
  have i:(eP t.mask (13+n) (eh h % (t.mask+1)) (eh h)).1 % (t.mask+1)=y:=by rw[Ap,f,Bc];generalize (eP t.mask 13 (eh h % (t.mask+1)) (eh h)).1=z at e ⊢;rw[c];exact e
  rwa[zD o]at i
 obtain⟨k,s,g⟩:=pth_orb t (13+n) (eh h % (t.mask+1)) (eh h);refine⟨k,∅,?_⟩;show(pth t k (stp t.mask (eh h % (t.mask+1)) (eh h))).j∉_;rw[g];show(eP t.mask (13+n) _ _).1∉_;rw[j];exact d
theorem least{p:Nat->Prop}:∀(n:Nat),p n->∃m,m<=n/\p m/\∀k,k<m->¬p k
 |0,h=>⟨0,aZ _,h,λk d=>absurd d (nB _)⟩
 |n+1,h=>by
  by_cases z:∃m,m<=n/\p m/\∀k,k<m->¬p k
  .obtain⟨m,a,b,c⟩:=z;exact⟨m,∅,b,c⟩
  .refine⟨n+1,aZ _,h,λk d e=>z ?_⟩;obtain⟨m,a,b,c⟩:=least k e;exact⟨m,∅,b,c⟩
theorem go_met{t:cH}(l:t.dummies=#[])(b:t.place.toList.Pairwise (· < ·))(qD:Nat->Int)(h:Int):∀(d n:Nat) (p:kj),n<d->p.dummy=ae->(pth t n p).j∉t.place.toList->(∀k,k<n->(pth t k p).j∈t.place.toList) -> ((wa t qD h d p=aa (.empty (pth t n p).j ae)/\∀k i,k<n->t.place[i]?=aa (pth t k p).j->t.slot (pth t k p).j=.live i->qD i≠h) \/ ∃m i,m<n/\t.place[i]?=aa (pth t m p).j/\t.slot (pth t m p).j=.live i/\qD i=h/\wa t qD h d p=aa (.candidate (pth t m p).j i (pth t (m+1) p))/\∀k i,k<m->t.slot (pth t k p).j=.live i->qD i≠h)
 |0,n,p,hf,_,_,_=>absurd hf (nB _)
 |d+1,0,p,hf,hd,he,_=>by
  left;refine⟨?_,λk i c=>absurd c (nB _)⟩;rcases slot_of l b p.j with⟨_,e⟩|⟨i,e,_⟩
  .unfold wa;rw[e,hd];rfl
  .exact absurd (jw (show t.place.toList[i]?=aa p.j by simpa using e)) he
 |d+1,n+1,p,hf,hd,he,hb=>by
  rcases slot_of l b p.j with⟨e,_⟩|⟨i,e1,e2⟩
  .exact absurd (hb 0 (tF _)) e
  .unfold wa;rw[e2];dsimp only;by_cases f:qD i=h
   .right;refine⟨0,i,tF _,e1,e2,f,?_,λk i c=>absurd c (nB _)⟩;rw[if_pos (by simpa using f)];rfl
   .rw[if_neg (by simpa using f)];rcases go_met l b qD h d n (t.advance p) ∅ ((adv_dummy t p).trans hd) he (λk c=>hb (k+1) ∅)with⟨g1,g2⟩|⟨m,a,g1,g2,g3,g4,g5,g6⟩
    .refine .inl ⟨g1,λk a c o g=>?_⟩;cases k with
     |zero=>
      have:a=i:=by have j:t.slot p.j=.live a:=g;rw[e2]at j;injection j with z;exact z.symm
      subst this;exact f
     |succ k=>exact g2 k a ∅ o g
    .refine .inr ⟨m+1,a,∅,g2,g3,g4,g5,λk a c g=>?_⟩;cases k with
     |zero=>
      have:a=i:=by have j:t.slot p.j=.live a:=g;rw[e2]at j;injection j with z;exact z.symm
      subst this;exact f
     |succ k=>exact g6 k a ∅ g
theorem ins_list{b:Type}(a:Array b)(p:Nat)(x:b):(tG a p x).toList=a.toList.take p++x::a.toList.drop p:=by unfold tG;simp[jd,vY,Array.toList_extract,List.extract,gP];exact nt (by simp)
theorem zip_ins{d c:Type}{a:List d}{b:List c}(h:a.length=b.length)(p:Nat)(x:d)(y:c)(q:d×c):q∈(a.take p++x::a.drop p).zip (b.take p++y::b.drop p)↔q=(x,y)\/q∈a.zip b:=by
 rw[List.zip_append (by simp[h]),gv,zH,br];have:a.zip b=(a.take p).zip (b.take p)++(a.drop p).zip (b.drop p):=by rw[<-List.zip_append (by simp[h]),kh,kh]
 rw[this,gv];constructor
 .rintro(h|h|h)
  .exact .inr (.inl h)
  .exact .inl h
  .exact .inr (.inr h)
 .rintro(h|h|h)
  .exact .inr (.inl h)
  .exact .inl h
  .exact .inr (.inr h)
def Rch(t:cH)(a:List Nat)(j:Nat)(h:Int):Prop:=∃n,(pth t n (t.probeStart h)).j=j/\∀k,k<n->(pth t k (t.probeStart h)).j∈a
structure TPl(t:cH)(hs:List Int):Prop where
 ok:TOk t
 len:t.place.size=hs.length
 rch:∀q∈t.place.toList.zip hs,Rch t t.place.toList q.1 q.2
theorem put_ris{a:Array Nat}(b:a.toList.Pairwise (· < ·)){j:Nat}(i:j∉a.toList):(tG a (iB a j) j).toList.Pairwise (· < ·):=by
 obtain⟨l,b1,b2⟩:=below_ok b j;rw[ins_list];have up:∀y∈a.toList.drop (iB a j),j<y:=λy c=>by
  obtain⟨k,f,e⟩:=nI c;rw[zB]at e;rw[mo,fk]at f;have g:=b2 (iB a j+k) ∅ ∅;have h:a[iB a j+k]'∅=y:=by simpa using e
  rw[h]at g;have:y∈a.toList:=List.mem_of_mem_drop c;have:j≠y:=λz=>i (z ▸ this);lia
 have dn:∀x∈a.toList.take (iB a j),x<j:=λx d=>by
  obtain⟨k,f,e⟩:=nI d;rw[zC]at e;rw[nh,fk]at f;have g:=b1 k ∅ ∅;have h:a[k]'∅=x:=by simpa using e
  lia
 refine CU.mpr ⟨b.sublist (List.take_sublist _ _),List.pairwise_cons.mpr ⟨up,b.sublist (List.drop_sublist _ _)⟩,λx d y c=>?_⟩;rcases br.mp c with rfl|c
 .exact dn x d
 .exact Cw (dn x d) (up y c)
theorem Rch.up{t t':cH}{c a:List Nat}{j:Nat}{h:Int}(b:t.mask=t'.mask)(g:∀x∈c,x∈a)(r:Rch t c j h):Rch t' a j h:=by
 obtain⟨n,e,f⟩:=r;have d:t'.probeStart h=t.probeStart h:=by unfold SetTable.probeStart;rw[b]
 exact⟨n,by rw[d,<-pth_mask b];exact e,λk i=>by rw[d,<-pth_mask b];exact g _ (f k i)⟩
theorem put_tp{t:cH}{b:List Int}(T:TPl t b)(h:Int){n:Nat}(o:(pth t n (t.probeStart h)).j∉t.place.toList)(p:∀k,k<n->(pth t k (t.probeStart h)).j∈t.place.toList)(l:(pth t n (t.probeStart h)).j<=t.mask):let t':=(t.put (pth t n (t.probeStart h)).j).1
  let d:=b.take (t.put (pth t n (t.probeStart h)).j).2++h::b.drop (t.put (pth t n (t.probeStart h)).j).2
  t'.dummies=#[]/\t'.place.toList.Pairwise (· < ·)/\(∀j∈t'.place.toList,j<=t'.mask)/\t'.mask=t.mask/\t'.place.size=t.place.size+1/\d.length=b.length+1 /\
   ∀q∈t'.place.toList.zip d,Rch t' t'.place.toList q.1 q.2:=by
 intro t' d;have f:t'.place.toList=t.place.toList.take (iB t.place (pth t n (t.probeStart h)).j)++(pth t n (t.probeStart h)).j::t.place.toList.drop (iB t.place (pth t n (t.probeStart h)).j):=ins_list _ _ _;have a:∀x,x∈t'.place.toList↔x=(pth t n (t.probeStart h)).j\/x∈t.place.toList:=λx=>by
  rw[f,gv,br];have:=congrArg (x∈·) (kh (iB t.place (pth t n (t.probeStart h)).j) t.place.toList);simp only[gv,eq_iff_iff]at this;rw[<-this];constructor
  .rintro(h|h|h)
   .exact .inr (.inl h)
   .exact .inl h
   .exact .inr (.inr h)
  .rintro(h|h|h)
   .exact .inr (.inl h)
   .exact .inl h
   .exact .inr (.inr h)
 have g:t'.mask=t.mask:=rfl;have r:t.place.toList.length=b.length:=by have:=T.len;simpa using this
 refine⟨?_,put_ris T.ok.ris o,λj e=>?_,rfl,?_,?_,λq c=>?_⟩
 .show(if SetTable.has t.dummies _ then _ else t.dummies)=#[];rw[T.ok.dm];simp[SetTable.has]
 .rcases(a j).mp e with rfl|e
  .exact l
  .exact T.ok.le j e
 .rw[<-fk,f];simp;lia
 .show(b.take _++h::b.drop _).length=_;simp;lia
 .rw[f]at c;rcases(zip_ins r _ _ _ q).mp c with rfl|c
  .exact⟨n,by rw[pth_mask g];rfl,λk m=>by rw[pth_mask g];exact(a _).mpr (.inr (p k m))⟩
  .exact(T.rch q c).up g.symm λx i=>(a x).mpr (.inr i)
theorem adv_le{t:cH}{p:kj}(h:p.j+p.more<=t.mask):(t.advance p).j+(t.advance p).more<=t.mask:=by
 unfold C4;split
 .dsimp only;lia
 .show(mv t.mask p.i p.perturb).1+(fG t.mask (mv t.mask p.i p.perturb).1-(mv t.mask p.i p.perturb).1)<=t.mask;have:(mv t.mask p.i p.perturb).1<t.mask+1:=nz _ (tF _);generalize (mv t.mask p.i p.perturb).1=i at *;unfold fG;split <;> lia
theorem pth_le{t:cH}:∀(n:Nat) {p:kj},p.j+p.more<=t.mask->(pth t n p).j+(pth t n p).more<=t.mask
 |0,p,h=>h
 |n+1,p,h=>pth_le n (adv_le h)
theorem stp_le{a i p:Nat}(h:i<a+1):(stp a i p).j+(stp a i p).more<=a:=by show i+(fG a i-i)<=a;unfold fG;split <;> lia
theorem start_le(t:cH)(h:Int)(n:Nat):(pth t n (t.probeStart h)).j<=t.mask:=by have:=pth_le (t:=t) n (p:=t.probeStart h) (stp_le (p:=eh h) (nz (eh h) (tF t.mask)));lia
def Occ(a:Array (Option Nat))(j:Nat):Prop:=∃k,a[j]?=aa (aa k)
theorem free_path(t:cH){a:Array (Option Nat)}(w:a.size=t.mask+1):∀(f i p j:Nat),i<t.mask+1->oP t.mask a f i p=aa j -> ∃n,(pth t n (stp t.mask i p)).j=j/\∀k,k<n->Occ a (pth t k (stp t.mask i p)).j
 |0,i,p,j,_,h=>by unfold oP at h;cases h
 |f+1,i,p,j,hi,h=>by
  have c:∀k,k<=fG t.mask i-i->(a.getD (i+k) (aa 0)).isNone=ak->Occ a (i+k):=λk d e=>by
   have s:i+k<a.size:=by have:=stp_le (p:=p) hi;have:i+(fG t.mask i-i)<=t.mask:=this;lia
   rw[v_,jc s]at e;unfold Occ;rw[jc s];cases q:a[i+k]with
   |none=>rw[q]at e;cases e
   |some v=>exact⟨v,rfl⟩
  have b:∀k,k<=fG t.mask i-i->(pth t k (stp t.mask i p)).j=i+k:=λk d=>by rw[pth_run t k (stp t.mask i p) d];rfl
  unfold oP at h;cases q:(cG (fG t.mask i+1-i)).find? (λk=>(a.getD (i+k) (aa 0)).isNone)with
  |some k=>
   rw[q]at h;cases h;obtain⟨_,g,bs,r,y⟩:=List.find?_eq_some_iff_append.mp q;have d:k<fG t.mask i+1-i:=kb.mp (List.mem_of_find?_eq_some q);refine⟨k,b k ∅,λm z=>?_⟩;rw[b m ∅];refine c m ∅ ?_;have:m∈g:=by
    have A:g.length=k:=by have:=congrArg (λl=>l[g.length]?) r;simp only[Cp (aZ _),Nat.sub_self,CT]at this;rw[cA]at this;obtain⟨B,e⟩:=this;rw[List.getElem_range]at e;exact e
    have:=congrArg (λl=>l[m]?) r;rw[sV ∅,IR ∅]at this;exact jw this.symm
   have:=y m this;cases u:(a.getD (i+m) (aa 0)).isNone with
   |false=>rfl
   |true=>rw[u]at this;cases this
  |none=>
   rw[q]at h;obtain⟨n,x,f2⟩:=free_path t w f _ _ j (nz _ (tF _)) h;refine⟨fG t.mask i-i+1+n,by rw[pth_add,pth_leap];exact x,λk d=>?_⟩;by_cases o:k<fG t.mask i-i+1
   .rw[b k ∅];refine c k ∅ ?_;have:=C3.mp q k (kb.mpr (by unfold fG at o ⊢;split at o <;> split <;> lia));exact C6.mpr this
   .have e:k=fG t.mask i-i+1+(k-(fG t.mask i-i+1)):=∅
    rw[e,pth_add,pth_leap];exact f2 _ ∅
def LaidR(t:cH)(a:Array (Option Nat))(b:List Int):Prop:=∀(j k:Nat),a[j]?=aa (aa k)->∃h,b[k]?=aa h/\∃n,(pth t n (t.probeStart h)).j=j/\∀m,m<n->Occ a (pth t m (t.probeStart h)).j
theorem layClean_ok2(t:cH){q:Nat}(A:t.mask+1=2^q)(g:Array Int)(J:g.size<=t.mask):∃a,Jk t.mask g=aa a/\Laid t.mask a g.size/\LaidR t a g.toList:=by
 unfold Jk;have o:∀(l c:List Int) (a:Array (Option Nat)),Laid t.mask a c.length->LaidR t a c->c.length+l.length<=t.mask+1->∃b,l.foldl (λG h=>do
   let (a,k) <-G
   let j <-oP t.mask a (qC t.mask) (eh h % (t.mask+1)) (eh h)
   pure (a.setIfInBounds j (aa k),k+1)) (aa (a,c.length))=aa (b,(c++l).length)/\Laid t.mask b (c++l).length/\LaidR t b (c++l):=by
  intro l
  induction l with
  |nil=>intro c a L R _;rw[jb];exact⟨a,rfl,L,R⟩
  |cons h l z=>
   intro c a L R B;simp only[d8]at B;obtain⟨j,s,L2⟩:=RU A L ∅ h;obtain⟨n,r,v⟩:=free_path t L.1 _ _ _ _ (nz _ (tF _)) s;have C:j<a.size:=by rw[L.1,<-r];exact Nat.lt_succ_of_le (start_le t h n)
   have grow:∀x,Occ a x->Occ (a.setIfInBounds j (aa c.length)) x:=λx ⟨k,e⟩=>by
    unfold Occ;rw[Array.getElem?_setIfInBounds];by_cases d:j=x
    .rw[if_pos d,if_pos ∅];exact⟨_,rfl⟩
    .rw[if_neg d];exact⟨k,e⟩
   have R2:LaidR t (a.setIfInBounds j (aa c.length)) (c++[h]):=λx k e=>by
    rw[Array.getElem?_setIfInBounds]at e;by_cases d:j=x
    .subst d;rw[if_pos rfl,if_pos ∅]at e;cases e;exact⟨h,by simp,n,r,λm i=>grow _ (v m i)⟩
    .rw[if_neg d]at e;obtain⟨D,u,w,F,E⟩:=R x k e;have y:k<c.length:=(cA.mp u).1;exact⟨D,by rw[sV y];exact u,w,F,λm i=>grow _ (E m i)⟩
   have p:Laid t.mask (a.setIfInBounds j (aa c.length)) (c++[h]).length:=by rw[eY];exact L2
   obtain⟨b,e,I,H⟩:=z (c++[h]) _ p R2 (by simp;lia);refine⟨b,?_,by simpa using I,by simpa using H⟩;rw[gM];show l.foldl _ ((oP t.mask a (qC t.mask) (eh h % (t.mask+1)) (eh h)).bind λj=>aa (a.setIfInBounds j (aa c.length),c.length+1))=_;rw[s];have f:=e;rw[gP]at f;rw[eY]at f;exact f
 obtain⟨b,e,L,R⟩:=o g.toList [] (Array.replicate (t.mask+1) ae) ⟨by simp,by simp⟩ (λj k e=>by
  rw[Array.getElem?_replicate]at e;split at e <;> cases e) (by simp;lia)
 refine⟨b,?_,by simpa using L,by simpa using R⟩;rw[<-Array.foldl_toList];have f:=congrArg (Option.map (·.1)) e;exact f
theorem laid_tp{mask:Nat}(finger moves:Nat)(led plain:Bool){q:Nat}(Q:mask+1=2^q)(O:mask∈[7,31,127,511,2047,8191])(b:Array (Int×ai))(P:b.size*5<mask*3):∃t c,SetTable.laid mask finger moves led plain (b.map (·.1))=aa (t,c)/\t.led=led/\t.plain=plain/\t.mask=mask/\t.moves=moves/\(c.filterMap (b[·]?)).toList.Perm b.toList/\TPl t ((c.filterMap (b[·]?)).toList.map (·.1)):=by
 let t0:cH:={mask:=mask,place:=#[],dummies:=#[],finger:=finger,led:=led,moves:=moves,plain:=plain}
 obtain⟨a,e,L,R⟩:=layClean_ok2 t0 (q:=q) Q (b.map (·.1)) (by show(b.map _).size<=mask;simp;lia)
 let live:=(cG (mask+1)).filterMap λj=>(a.getD j ae).map (j,·)
 let t:cH:={mask:=mask,place:=(live.map (·.1)).toArray,dummies:=#[],finger:=finger,led:=led,moves:=moves,plain:=plain}
 have X:SetTable.laid mask finger moves led plain (b.map (·.1))=aa (t,(live.map (·.2)).toArray):=by unfold SetTable.laid;have e':Jk mask (b.map (·.1))=aa a:=e;rw[e'];rfl
 have g:∀x:Nat×Nat,x∈live↔x.1<mask+1/\a[x.1]?=aa (aa x.2):=λx=>by
  show x∈(cG (mask+1)).filterMap _↔_;rw[Iy];constructor
  .rintro⟨j,z,e⟩;have u:j<a.size:=by rw[L.1];exact kb.mp z
   rw[v_,jc u]at e;simp only[Option.getD_some,kQ]at e;obtain⟨k,Z,rfl⟩:=e;exact⟨kb.mp z,by rw[jc u,Z]⟩
  .rintro⟨I,F⟩;exact⟨x.1,kb.mpr I,by rw[v_,F];rfl⟩
 have Y:live.map (·.2)=a.toList.filterMap id:=by
  show((cG (mask+1)).filterMap _).map _=_;rw[Ja];have:a.toList=(cG (mask+1)).map λj=>a.getD j ae:=by
   refine qw λi=>?_;rw[d7];by_cases E:i<mask+1
   .rw[IR E];simp[v_,show i<a.size by rw[L.1];exact E]
   .rw[oM (by rw[fk,L.1];show mask+1<=i;lia),oM (by simpa using E)];rfl
  rw[this,zg];refine fm_congr' λj _=>?_;show Option.map (λx=>x.snd) (Option.map (λx=>(j,x)) (a.getD j ae))=a.getD j ae;cases a.getD j ae <;> rfl
 have f:(live.map (·.2)).Perm (cG b.size):=by rw[Y];have:=L.2;simpa using this
 have a8:∀k∈live.map (·.2),k<b.size:=λk w=>kb.mp (f.mem_iff.mp w);have s:∀l:List (Nat×Nat),(∀x∈l,x.2<b.size)->((l.map (·.2)).filterMap (b[·]?)).map (·.1)=l.map λx=>((b[x.2]?).map (·.1)).getD 0:=by
  intro l
  induction l with
  |nil=>intro _;rfl
  |cons x r N=>intro h;have d:=h x (f8 ..);rw[bE,mf,jc d];dsimp only;rw[bE,bE,N λy C=>h y (fj _ C),jc d];rfl
 have J:∀x∈live,x.2<b.size:=λx d=>a8 _ (bI.mpr ⟨x,d,rfl⟩);have o:(((live.map (·.2)).toArray).filterMap (b[·]?)).toList=(live.map (·.2)).filterMap (b[·]?):=by simp
 have M:((live.map (·.2)).filterMap (b[·]?)).Perm b.toList:=by have:=f.filterMap (b[·]?);rwa[filterMap_getElem?_range]at this
 have p:live.length=b.size:=by have:=f.length_eq;simpa using this
 have B:∀x,Occ a x->x∈t.place.toList:=λx ⟨k,w⟩=>by
  show x∈(live.map (·.1)).toArray.toList;have d:x<mask+1:=by have:=(nr.mp w).1;rw[L.1]at this;exact this
  exact bI.mpr ⟨(x,k),(g _).mpr ⟨d,w⟩,rfl⟩
 refine⟨t,_,X,rfl,rfl,rfl,rfl,by rw[o];exact M,⟨⟨rfl,?_,λj z=>?_,O,?_⟩,?_,λx d=>?_⟩⟩
 .show(live.map (·.1)).Pairwise (· < ·);have A:(live.map (·.1)).Sublist (cG (mask+1)):=by
   show(((cG (mask+1)).filterMap _).map _).Sublist _;rw[Ja];refine fm_sub _ λj k e=>?_;rw[Option.map_map]at e;cases q:a.getD j ae with
   |none=>rw[q]at e;cases e
   |some v=>rw[q]at e;exact(cO e).symm
  exact List.pairwise_lt_range.sublist A
 .have u:j∈live.map (·.1):=z;obtain⟨x,d,rfl⟩:=bI.mp u;exact Nat.le_of_lt_succ ((g x).mp d).1
 .show(live.map (·.1)).toArray.size*5<mask*3;simp[p];exact P
 .rw[o];show(live.map (·.1)).toArray.size=_;rw[s live J];simp
 .rw[o,s live J]at d;have H:x∈(live.map (·.1)).zip (live.map λx=>((b[x.2]?).map (·.1)).getD 0):=d;rw[List.zip_map']at H;obtain⟨y,C,rfl⟩:=bI.mp H;obtain⟨I,F⟩:=(g y).mp C;obtain⟨h,W,n,T,S⟩:=R _ _ F;have G:((b[y.2]?).map (·.1))=aa h:=by have:(b.map (·.1)).toList[y.2]?=aa h:=W;simpa using this
  show Rch t t.place.toList y.1 (((b[y.2]?).map (·.1)).getD 0);rw[G];have D:t0.mask=t.mask:=rfl;refine Rch.up (t:=t0) D (λx d=>d) ⟨n,T,λm K=>B _ (S m K)⟩
where
 fm_congr' {α β:Type}{f g:α->Option β}:∀{l:List α},(∀k∈l,f k=g k)->l.filterMap f=l.filterMap g
  |[],_=>rfl
  |x::l,h=>by rw[mf,mf,h x (f8 ..),fm_congr' λk hk=>h k (fj _ hk)]
 fm_sub {f:Nat->Option Nat}:∀(l:List Nat),(∀j k,f j=aa k->k=j)->(l.filterMap f).Sublist l
  |[],_=>.slnil
  |x::l,h=>by
   rw[mf];cases q:f x with
   |none=>exact(fm_sub l h).cons _
   |some k=>rw[h x k q];exact(fm_sub l h).cons₂ _
section
variable{P:aQ}{w:aI}{A:aX}{E:ai->ao->Prop}{s:ao}
structure Keyd(P:aQ)(w:aI)(K:Type)[DecidableEq K] where
 is:aB->K->ai->Prop
 hash:K->Int
 room:aX->Prop
 keep:∀{h h':aB}{k:K}{v:ai},is h k v->(∀b o,h.get? b=aa o->o.cls=.type "tuple"->h'.get? b=aa o)->is h' k v
 ref:∀{h:aB}{k:K}{v:ai},is h k v->∃a o,v=.ref a/\h.get? a=aa o
 eqBool:∀{A:aX}{E:ai->ao->Prop}{s:ao}{x y:K}{u v:ai}{Q:Bool->ao->Prop},room A->is s.heap x u->is s.heap y v->Q (decide (x=y)) s->aq (au P w) A (PySem.eqBool u v) Q E s
 quiet:∀{A:aX}{E:ai->ao->Prop}{s:ao}{k:K}{v:ai}{Q:Bool->ao->Prop},is s.heap k v->Q ah s->aq (au P w) A (wb 8 v) Q E s
 cls:∀{A:aX}{E:ai->ao->Prop}{s:ao}{k:K}{v:ai}{Q:Bool->ao->Prop},is s.heap k v->Q ak s->aq (au P w) A (wc 8 v) Q E s
 hbv:∀{A:aX}{E:ai->ao->Prop}{s:ao}{k:K}{v:ai}{Q:Bool->ao->Prop},is s.heap k v->Q ak s->aq (au P w) A (tI 8 v) Q E s
variable{K:Type}[DecidableEq K]{kd:Keyd P w K}
def Els(kd:Keyd P w K)(h:aB)(a:List (Int×ai))(ks:List K):Prop:=a.length=ks.length/\∀q∈a.zip ks,q.1.1=kd.hash q.2/\kd.is h q.2 q.1.2
theorem seen_not{x:ai}{k:K}(h:kd.is s.heap k x):∀(d:List ai),(∀y∈d,∃k,kd.is s.heap k y)->∀{Q:Bool->ao->Prop},Q ak s->aq (au P w) A (Jl x d) Q E s:=by
 intro d m Q q;unfold Jl;refine ap ?_;refine wd _ (λrest r f=>r.1=ae/\f=s/\∀y∈rest,∃k,kd.is s.heap k y) _ ?_ ?_ _ _ ⟨rfl,rfl,m⟩
 .rintro y rest r f ⟨i,rfl,j⟩;obtain⟨v,c⟩:=j y f8;have next:∀z,z=(ForInStep.yield ((ae:Option Bool),()):ForInStep (Option Bool×Unit))->(∃l,z=ForInStep.yield l/\l.1=ae):=λz e=>⟨_,e,rfl⟩
  obtain⟨a,o,rfl,B⟩:=kd.ref h;obtain⟨b,u,rfl,C⟩:=kd.ref c;dsimp only;split
  .exact aD ⟨rfl,rfl,λz g=>j z (fj _ g)⟩
  .refine ap (kd.quiet h ?_);simp only[qE,eZ,if_false];refine ap (kd.quiet c ?_);simp only[qE,eZ,if_false];refine ap (kd.cls h ?_);simp only[eZ,if_false];refine ap (kd.cls c ?_);simp only[eZ,if_false];exact aD ⟨rfl,rfl,λz g=>j z (fj _ g)⟩
 .rintro⟨p,n⟩ f ⟨i,rfl,_⟩;simp only at i;subst i;exact aD q
theorem search_eq(a:af)(x:ai)(h:Int)(b:Bool)(g:Nat)(c:Option kj):tJ a x h b (g+1) c=(do
  let (es,_,t) <-setState a
  if t.gaveWay then lF "set:on-a-table-that-gave-way"
  let aa met:=t.probe (λi=>(es[i]?.map (·.1)).getD 0) h (c.getD (t.probeStart h))|lF "internal:set-table-without-an-empty-slot"
  match met with
  |.empty j e=>
   match e with
   |none=>return .free j ak
   |some d=>
    if b&&t.slot d != .dummy then rule "set.search.the-dummy-was-taken";return <-tJ a x h b g ae
    return .free d ah
  |.candidate j i next=>
   if !t.led then
    if <-Jl x ((es.filter (·.1 == h)).toList.map (·.2))then lF "set:the-search-would-show-the-table"
   let aa (_,y):=es[i]?|lF "internal:set-entry"
   let equal <-kc [y] (eqBool y x)
   let (es',_,t') <-setState a
   if b&&equal then return .there ae
   let aa same:=t'.sameMemory t.moves t.mask|lF "set.changed-during-lookup:is-the-new-block-at-the-old-address"
   let still <-match (if same then t'.slot j else .empty)with
    |.live f=>match es'[f]? with
     |some (_,l)=>do pure (if <-isSame l y then aa f else ae)
     |none=>pure ae
    |_=>pure ae
   match still with
   |none=>rule "set.search.anew";tJ a x h b g ae
   |some f=>if equal then return .there (aa f)else tJ a x h b g (aa next)):=rfl
theorem same_self{a:af}{o:Obj}{Q:Bool->ao->Prop}(h:s.heap.get? a=aa o)(q:Q ah s):aq (au P w) A (isSame (.ref a) (.ref a)) Q E s:=by unfold isSame;dsimp only;rw[if_pos (by simp)];exact aD q
theorem live_at{t:cH}(ok:TOk t){i:Nat}(a:i<t.place.size):t.slot t.place[i]=.live i:=by
 rcases slot_of ok.dm ok.ris t.place[i]with⟨e,_⟩|⟨i',e1,e2⟩
 .exact absurd (by simp) e
 .rw[e2];obtain⟨b,c⟩:=nr.mp e1;have:i'=i:=by
   rcases Nat.lt_trichotomy i' i with z|z|z
   .have:=tE.mp ok.ris i' i (by simpa using b) (by simpa using a) z;simp at this;lia
   .exact z
   .have:=tE.mp ok.ris i i' (by simpa using a) (by simpa using b) z;simp at this;lia
  rw[this]
theorem searchV{a:af}{d:Array (Int×ai)}{ep:Nat}{t:cH}{ks:List K}{k:K}{x:ai}(hr:kd.room A)(S:s.heap.get? a=aa {cls:=.type "set",dict:=ae,data:=.set d ep t})(Y:t.fits d.size=ah)(T:TPl t (d.toList.map (·.1))) (f:Els kd s.heap d.toList ks) (L:kd.is s.heap k x) {N:Nat} (H:(pth t N (t.probeStart (kd.hash k))).j∉t.place.toList) (hb:∀m,m<N->(pth t m (t.probeStart (kd.hash k))).j∈t.place.toList) (hN:N<10*(t.mask+15)){Q:SetFound->ao->Prop} (q1:k∈ks->Q (.there ae) s) (q2:k∉ks->Q (.free (pth t N (t.probeStart (kd.hash k))).j ak) s):∀(C m:Nat) (c:Option kj),N-m<C->m<=N->c.getD (t.probeStart (kd.hash k))=pth t m (t.probeStart (kd.hash k)) -> (∀j i g,j<m->t.slot (pth t j (t.probeStart (kd.hash k))).j=.live i->ks[i]?=aa g->g≠k)->aq (au P w) A (tJ a x (kd.hash k) ah C c) Q E s
 |0,m,c,h,_,_,_=>absurd h (nB _)
 |C+1,m,c,h1,h2,h3,h4=>by
  rw[search_eq];refine ap (mq S rfl Y ?_);dsimp only;have hg:t.gaveWay=ak:=by unfold SetTable.gaveWay;have:=T.ok.most.2.2;simp[this]
  rw[hg];simp only[eZ,if_false];have eQ:∀i j,t.place[i]?=aa j->∃(q:Int×ai) (g:K),d[i]?=aa q/\ks[i]?=aa g/\q.1=kd.hash g/\kd.is s.heap g q.2:=λi j X=>by
   have a8:i<d.size:=by have:=(nr.mp X).1;have:=T.len;simp at this;lia
   have F:i<ks.length:=by have:=f.1;simp at this;lia
   refine⟨d[i],ks[i],jc a8,dP F,?_⟩;exact f.2 (d[i],ks[i]) (jw (i:=i) (by rw[zt];exact⟨by simp[a8],by simp[F]⟩))
  rcases go_met T.ok.dm T.ok.ris (λi=>((d[i]?).map (·.1)).getD 0) (kd.hash k) (10*qC t.mask) (N-m) (pth t m (t.probeStart (kd.hash k))) (by unfold qC;lia) (pth_dummy t m _)
    (by rw[<-pth_add,show m+(N-m)=N by lia];exact H) (λj hj=>by rw[<-pth_add];exact hb _ ∅)with⟨g1,g2⟩|⟨n,i,g1,g2,g3,g4,g5,g6⟩
  .have e1:t.probe (λi=>((d[i]?).map (·.1)).getD 0) (kd.hash k) (c.getD (t.probeStart (kd.hash k)))=aa (.empty (pth t N (t.probeStart (kd.hash k))).j ae):=by
    rw[h3];show wa t _ _ _ _=_;rw[g1,<-pth_add,show m+(N-m)=N by lia]
   rw[e1];refine aD (q2 λu=>?_);obtain⟨i,X,ek⟩:=nI u;have o:i<t.place.size:=by have:=T.len;have:=f.1;simp at *;lia
   obtain⟨q,g,I,B,e4,e5⟩:=eQ i _ (jc o);have ek':g=k:=by rw[dP X,ek]at B;exact(cO B).symm
   subst ek';obtain⟨n,J,r2⟩:=T.rch (t.place[i],q.1) (jw (i:=i) (by rw[zt];exact⟨by simp[o],by rw[d7,oO,I];rfl⟩));rw[e4]at J r2;have gy:t.place[i]∈t.place.toList:=by simp
   have hnN:n<N:=by
    rcases Nat.lt_trichotomy n N with z|z|z
    .exact z
    .subst z;rw[J]at H;exact absurd gy H
    .exact absurd (r2 N z) H
   have qW:t.slot (pth t n (t.probeStart (kd.hash g))).j=.live i:=by rw[J];exact live_at T.ok o
   by_cases v:n<m
   .exact h4 n i g v qW B rfl
   .have:=g2 (n-m) i ∅ (by rw[<-pth_add,show m+(n-m)=n by lia,J];exact jc o) (by rw[<-pth_add,show m+(n-m)=n by lia];exact qW);exact this (by rw[I];exact e4)
  .rw[<-pth_add]at g2 g3;have e1:t.probe (λi=>((d[i]?).map (·.1)).getD 0) (kd.hash k) (c.getD (t.probeStart (kd.hash k)))=aa (.candidate (pth t (m+n) (t.probeStart (kd.hash k))).j i (pth t (m+n+1) (t.probeStart (kd.hash k)))):=by rw[h3];show wa t _ _ _ _=_;rw[g5,<-pth_add,<-pth_add,zy]
   rw[e1];dsimp only;obtain⟨q,g,I,B,e4,e5⟩:=eQ i _ g2;have rest:aq (au P w) A (do
     let aa (_,y):=d[i]?|lF "internal:set-entry"
     let equal <-kc [y] (PySem.eqBool y x)
     let (es',_,t') <-setState a
     if ah&&equal then return .there ae
     let aa same:=t'.sameMemory t.moves t.mask|lF "set.changed-during-lookup:is-the-new-block-at-the-old-address"
     let still <-match (if same then t'.slot (pth t (m+n) (t.probeStart (kd.hash k))).j else .empty)with
      |.live l=>match es'[l]? with
       |some (_,y')=>do pure (if <-isSame y' y then aa l else ae)
       |none=>pure ae
      |_=>pure ae
     match still with
     |none=>rule "set.search.anew";tJ a x (kd.hash k) ah C ae
     |some l=>if equal then return .there (aa l)else tJ a x (kd.hash k) ah C (aa (pth t (m+n+1) (t.probeStart (kd.hash k))))) Q E s:=by
    rw[I];dsimp only;refine ap (ke (kd.eqBool hr e5 L ?_));refine ap (mq S rfl Y ?_);dsimp only;by_cases v:g=k
    .rw[decide_eq_true v];simp only[Bool.and_self,if_true];exact aD (q1 (by subst v;exact jw B))
    .rw[decide_eq_false v];simp only[zl,eZ,if_false];have M:t.sameMemory t.moves t.mask=aa ah:=by unfold SetTable.sameMemory;simp
     rw[M];dsimp only;rw[if_pos rfl,g3];dsimp only;rw[I];dsimp only;obtain⟨b,ob,eb,O⟩:=kd.ref e5;rw[eb];refine ap (same_self O ?_);rw[if_pos rfl];refine ap (aD ?_);dsimp only;refine searchV hr S Y T f L H hb hN q1 q2 C (m+n+1) _ ∅ ∅ rfl λj l p hj r u=>?_;by_cases c1:j<m
     .exact h4 j l p c1 r u
     .by_cases c2:j=m+n
      .subst c2;rw[g3]at r;injection r with z;subst z;rw[B]at u;cases u;exact v
      .intro z;subst z;have k8:t.slot (pth t (j-m) (pth t m (t.probeStart (kd.hash p)))).j=.live l:=by rw[<-pth_add,show m+(j-m)=j by lia];exact r
       have:=g6 (j-m) l ∅ k8;rcases slot_of T.ok.dm T.ok.ris (pth t j (t.probeStart (kd.hash p))).j with⟨_,y⟩|⟨i2,y1,y2⟩
       .rw[r]at y;cases y
       .rw[r]at y2;injection y2 with z2;subst z2;obtain⟨hv2,k2,f2,f3,f4,f5⟩:=eQ l _ y1;rw[u]at f3;cases f3;exact this (by rw[f2];exact f4)
   cases hl:t.led with
   |true=>simp only[qE,eZ,if_false];exact rest
   |false=>
    simp only[C7,if_true];refine ap (seen_not (kd:=kd) L _ (λy hy=>?_) ?_)
    .obtain⟨e,t7,rfl⟩:=bI.mp hy;have Z:e∈d.toList:=by rw[Array.toList_filter]at t7;exact(kI.mp t7).1
     obtain⟨D,G,e6⟩:=nI Z;have W:D<ks.length:=by rw[<-f.1];exact G
     exact⟨ks[D],by have:=(f.2 (d.toList[D],ks[D]) (jw (i:=D) (by rw[zt];exact⟨dP G,dP W⟩))).2;rw[e6]at this;exact this⟩
    .simp only[eZ,if_false];exact rest
end
section
variable{P:aQ}{w:aI}{A:aX}{E:ai->ao->Prop}{s:ao}{K:Type}[DecidableEq K]
def elV(a:Keyd P w K)(p:K×ai):Int×ai:=(a.hash p.1,p.2)
structure SetV(kd:Keyd P w K)(h:aB)(a:af)(ps:List (K×ai)):Prop where
 ex:∃(es:Array (Int×ai)) (ep:Nat) (t:cH) (qs:List (K×ai)),h.get? a=aa {cls:=.type "set",dict:=ae,data:=.set es ep t}/\qs.Perm ps/\es.toList=qs.map (elV kd)/\es.size<4090/\TPl t (es.toList.map (·.1))/\t.led=(!eD w)/\(ps≠[]->t.plain=ak)
variable{kd:Keyd P w K}
theorem SetV.at{h h':aB}{a:af}{b:List (K×ai)}(S:SetV kd h a b)(k:∀o,h.get? a=aa o->h'.get? a=aa o):SetV kd h' a b:=by obtain⟨es,ep,t,c,e,r⟩:=S.ex;exact⟨es,ep,t,c,k _ e,r⟩
theorem TPl.fits{t:cH}{a:List Int}(T:TPl t a){n:Nat}(b:n=a.length):t.fits n=ah:=by unfold SetTable.fits SetTable.fill;have:=T.len;have:=T.ok.roomy;rw[T.ok.dm];simp;lia
def addV(a:List (K×ai))(p:K×ai):List (K×ai):=if p.1∈a.map (·.1)then a else a++[p]
theorem relay_eq(a:af)(b:Nat):setRelay a b=(do
  let (es,_,t) <-setState a
  if SetTable.sizeAbove b > bg then lF "set:memory"
  let (es,t) <-(do
   let aa (t,order):=t.relaid (es.map (·.1)) b|lF "internal:set-table-without-room"
   let es':=order.filterMap (es[·]?)
   if es'.size != es.size then lF "internal:set-table-lost-an-element"
   pure (es',t))
  storeSet a es t):=rfl
theorem grow_ok{mask n:Nat}(b:mask∈[7,31,127,511,2047,8191])(f:(n-1)*5<mask*3)(d:mask*3<=n*5)(c:n<4090):∃a q,SetTable.sizeAbove (SetTable.grown n)=a+1/\a+1=2^q/\a∈[7,31,127,511,2047,8191]/\n*5<a * 3/\a+1<=bg:=by
 simp only[br,gc,or_false]at b;rcases b with e|e|e|e|e|e <;> subst e
 .obtain rfl:n=5:=∅
  exact⟨31,5,by decide,rfl,by decide,by decide,by decide⟩
 .obtain rfl:n=19:=∅
  exact⟨127,7,by decide,rfl,by decide,by decide,by decide⟩
 .obtain rfl:n=77:=∅
  exact⟨511,9,by decide,rfl,by decide,by decide,by decide⟩
 .obtain rfl:n=307:=∅
  exact⟨2047,11,by decide,rfl,by decide,by decide,by decide⟩
 .obtain rfl:n=1229:=∅
  exact⟨8191,13,by decide,rfl,by decide,by decide,by decide⟩
 .lia
theorem els_of{h:aB}{c:List (Int×ai)}{a:List (K×ai)}(e:c=a.map (elV kd))(f:∀p∈a,kd.is h p.1 p.2):Els kd h c (a.map (·.1)):=by subst e;refine⟨by simp,λq b=>?_⟩;rw[List.zip_map']at b;obtain⟨p,d,rfl⟩:=bI.mp b;exact⟨rfl,f p d⟩
theorem set_addV{a:af}{B:List (K×ai)}{k:K}{x:ai}{Q:Bool->ao->Prop}(hr:kd.room A)(S:SetV kd s.heap a B)(hk:∀p∈B,kd.is s.heap p.1 p.2)(X:kd.is s.heap k x)(hn:B.length<4000)(h:∀o b,kK a s.heap o->SetV kd o a (addV B (k,x))->Q b {s with heap:=o}):aq (au P w) A (setAddHashed a x (kd.hash k)) Q E s:=by
 obtain⟨f,ep,t,D,ho,hp,il,hsz,T,qL,dH⟩:=S.ex;have hqk:∀p∈D,kd.is s.heap p.1 p.2:=λp hq=>hk p (hp.mem_iff.mp hq);have els:=els_of il hqk;have bp:f.size=B.length:=by have e1:=congrArg ng il;have v:=hp.length_eq;simp at e1;lia
 have hf:t.fits f.size=ah:=T.fits (by simp);have l:k∈D.map (·.1)↔k∈B.map (·.1):=(hp.map (·.1)).mem_iff;obtain⟨u,ox,rfl,hox⟩:=kd.ref X;unfold setAddHashed setAddHashedIn;refine ke (ap (mq ho rfl hf ?_));dsimp only;have hbs:byScan (.ref u) f=ak:=by unfold byScan;simp[Value.scannable]
 rw[hbs];simp only[eZ,if_false];obtain⟨N0,hN0,hE0⟩:=pth_empty T.ok (kd.hash k);obtain⟨N,hN,hE,hB⟩:=least (p:=λn=>(pth t n (t.probeStart (kd.hash k))).j∉t.place.toList) N0 hE0;have hB':∀m,m<N->(pth t m (t.probeStart (kd.hash k))).j∈t.place.toList:=λm hm=>Classical.not_not.mp (hB m hm);have h8:=T.ok.most.1;unfold setSearch;refine ap (searchV hr ho hf T els X hE hB' ∅ (λgy=>?_) (λJH=>?_) 100000 0 ae ∅ (jO _) rfl λj i k' hj=>absurd hj (nB _))
 .refine aD (h s.heap _ (Heap.SameBut.refl a s.heap) ?_);unfold addV;rw[if_pos (l.mp gy)];exact S
 .dsimp only;refine ap (mq ho rfl hf ?_);dsimp only;have a8:=start_le t (kd.hash k) N;obtain⟨p1,p2,p3,W,I,O,M⟩:=put_tp T (kd.hash k) hE hB' a8;have G:(t.put (pth t N (t.probeStart (kd.hash k))).j).1.led=t.led:=rfl;have Z:(t.put (pth t N (t.probeStart (kd.hash k))).j).2<=f.size:=by
   have:=(below_ok T.ok.ris (pth t N (t.probeStart (kd.hash k))).j).1;have e:t.place.size=f.size:=by have:=T.len;simpa using this
   rw[<-e];exact this
  generalize hPut:t.put (pth t N (t.probeStart (kd.hash k))).j=TP at p1 p2 p3 W I O M G Z ⊢;obtain⟨J,g⟩:=TP;dsimp only at p1 p2 p3 W I O M G Z ⊢;have Dt:(tG f g (kd.hash k,.ref u)).toList=(D.take g++(k,.ref u)::D.drop g).map (elV kd):=by rw[ins_list,il,vU,bE,List.map_take,List.map_drop];rfl
  have hhs:(tG f g (kd.hash k,.ref u)).toList.map (·.1)=(f.toList.map (·.1)).take g++kd.hash k::(f.toList.map (·.1)).drop g:=by rw[ins_list,vU,bE,List.map_take,List.map_drop]
  have hpm:(D.take g++(k,Value.ref u)::D.drop g).Perm (addV B (k,.ref u)):=by unfold addV;rw[if_neg (λz=>JH (l.mpr z))];refine List.perm_middle.trans ?_;rw[kh];exact(hp.cons _).trans (List.perm_append_singleton _ _).symm
  have JI:(tG f g (kd.hash k,.ref u)).size=f.size+1:=by rw[<-fk,ins_list];simp;lia
  have cP:addV B (k,Value.ref u)≠[]:=by unfold addV;rw[if_neg (λz=>JH (l.mpr z))];simp
  rw[<-hhs]at O M;generalize hes2:tG f g (kd.hash k,Value.ref u)=es1 at Dt hhs JI O M ⊢;have C:∀c:cH,c={J with plain:=ak}->aq (au P w) A (do
    storeSet a es1 c
    if(!ak&&c.tooFull)=ah then do
      setRelay a (SetTable.grown (f.size+1))
      pure ah
     else pure ah) (λr s'=>∃o,r=ah/\s'={s with heap:=o}/\kK a s.heap o/\SetV kd o a (addV B (k,.ref u))) E s:=by
   intro c v;have k6:c.led=(!eD w):=by rw[v];exact G.trans qL
   have ii:c.plain=ak:=by rw[v]
   have d1:c.dummies=#[]:=by rw[v];exact p1
   have d2:c.place=J.place:=by rw[v]
   have d3:c.mask=J.mask:=by rw[v]
   have L:∀q∈c.place.toList.zip (es1.toList.map (·.1)),Rch c c.place.toList q.1 q.2:=λq hq=>by rw[d2]at hq ⊢;exact(M q hq).up d3.symm λx X=>X
   have Dj:c.fill=f.size+1:=by unfold SetTable.fill;rw[d1,d2,I];have:=T.len;simp at this ⊢;lia
   have JB:c.mask∈[7,31,127,511,2047,8191]:=by rw[d3,W];exact T.ok.sz
   have Tc:c.fits es1.size=ah:=by unfold SetTable.fits;rw[Dj,JI,d2,I];have h1:=T.len;have h2:=T.ok.roomy;have h3:=T.ok.most.2.1;simp at h1 ⊢;rw[d3,W];lia
   refine ap (wpAny_storeSet_of ho rfl ?_ (fits_of_scanBound (Cw (show es1.size<4090 by lia) (by decide))));have o1:=RI.put (es':=es1) (t':=c) ho;have jz:=oJ s.heap a (Obj.putSet es1 c);by_cases F:c.tooFull=ah
   .rw[F];simp only[C7,Bool.and_self,if_true];have S7:c.mask*3<=(f.size+1)*5:=by unfold SetTable.tooFull at F;rw[Dj]at F;simpa using F
    have H:(f.size+1-1)*5<c.mask*3:=by have h1:=T.len;have h2:=T.ok.roomy;simp at h1;rw[d3,W];lia
    obtain⟨m',q,g1,g2,g3,g4,g5⟩:=grow_ok JB H S7 ∅;rw[relay_eq];refine ap (ap (mq o1 rfl Tc ?_));dsimp only;rw[g1,if_neg ∅];obtain⟨t3,d,f1,f2,f3,f4,f5,f6,f7⟩:=laid_tp (mask:=m') c.finger (c.movedTo m') c.led c.plain g2 g3 es1 ∅;have er:c.relaid (es1.map (·.1)) (SetTable.grown (f.size+1))=aa (t3,d):=by unfold SetTable.relaid;rw[g1];exact f1
    rw[er];dsimp only;have Y:(d.filterMap (es1[·]?)).size=es1.size:=by have:=f6.length_eq;rwa[fk,fk]at this
    refine ap ?_;rw[if_neg (by rw[Y];simp)];refine aD ?_;dsimp only;obtain⟨y,r1,r2⟩:∃y:List (K×ai),(d.filterMap (es1[·]?)).toList=y.map (elV kd)/\y.Perm (D.take g++(k,Value.ref u)::D.drop g):=by rw[Dt]at f6;exact perm_mapE f6
    refine wpAny_storeSet_of o1 rfl ?_ (fits_of_scanBound (Cw (show(d.filterMap (es1[·]?)).size<4090 by lia) (by decide)));refine aD ⟨_,rfl,rfl,jz.trans (oJ _ a _),⟨_,_,t3,y,RI.put o1,r2.trans hpm,r1,∅,f7,f2.trans k6,λ_=>f3.trans ii⟩⟩
   .rw[C6.mpr F];simp only[zl,eZ,if_false];have H:c.place.size*5<c.mask*3:=by unfold SetTable.tooFull at F;rw[Dj]at F;have h1:=T.len;simp at F h1;rw[d2,I];lia
    refine aD ⟨_,rfl,rfl,jz,⟨es1,_,c,_,o1,hpm,Dt,∅,⟨⟨d1,by rw[d2];exact p2,by rw[d2,d3];exact p3,JB,H⟩,?_,L⟩,k6,λ_=>ii⟩⟩;rw[d2,I,O];have:=T.len;lia
  split
  .refine ap (kd.hbv X ?_);simp only[eZ,if_false];refine aP (C _ rfl) λr s' ζ=>?_;obtain⟨o,e1,v,e3,e4⟩:=ζ;subst e1 v;exact h o _ e3 e4
  .rename_i hpl1;refine ap (aD ?_);simp only[if_true];refine aP (C J (by
    have:J.plain=ak:=by simpa using hpl1
    rw[<-this])) λr s' ⟨o,e1,v,e3,e4⟩=>?_
   subst e1 v;exact h o _ e3 e4
end
section
variable{P:aQ}{w:aI}{A:aX}{E:ai->ao->Prop}{s:ao}
theorem tupTy{a:af}{b:Array ai}(h:IsTup s.heap a b):s.TypeIs (.ref a) "tuple":=let ⟨o,ho,hc,_⟩:=h;⟨o,ho,hc⟩
def HsAt(P:aQ)(w:aI)(A:aX)(s:ao)(v:ai)(x:Int):Prop :=
 ∀(b:Nat) (E:ai->ao->Prop) (Q:Int->ao->Prop),(∀a,b<=a->Q x {s with toks:=a})->aq (au P w) A (pyHash v) Q E {s with toks:=b}
theorem hash_tup{a:af}{f:Array ai}{hs:List (ai×Int)}(y:A.units<cLine)(u:IsTup s.heap a f)(C:f.toList=hs.map (·.1))(D:∀p∈hs,HsAt P w A.in1 s p.1 p.2):HsAt P w A s (.ref a) (we (nL (hs.map (·.2)))):=λj E Q h=>by
 have l:Shared.TypeIs {s with toks:=j} (.ref a) "tuple":=tupTy u;obtain⟨o,B,_,n,G⟩:=u;unfold pyHash
 first|unfold pyHashByItsType|skip
 first|refine ap (wpAny_cRoomFor_or (.inr y) ?_)|skip
 refine ap (vQ l F.slot_tuple_hash.lookup ?_);show aq _ _ (if(aa (Value.builtin "tuple.__hash__") == aa Value.none)=ah then _ else _) Q E _;rw[if_neg (by rw[beq_builtin_none];exact eG)];refine ap (vQ l F.slot_tuple_hash.lookup ?_);show aq _ _ (callSpecialIfBoundUnlessNone? (.ref a) "__hash__" _ >>= _) Q E _;refine ap (wpAny_callSpecialIfBoundUnlessNone?_slot l SU (kP SU l F.entry_tuple_hash ?_ (F.args_tuple_hash_1 _)));show aq _ _ (Builtin.Tuple.tupleItemsOf (.ref a) >>= _) _ _ _;refine ap (wpAny_tupleItemsOf (s:={s with toks:=j}) B G ?_);refine ap ?_;rw[<-C8,C];refine wd _
  (λrest (b:Array Int) r=>∃d c e,hs=d++c/\rest=c.map (·.1)/\b.toList=d.map (·.2)/\j<=e/\r={s with toks:=e})
  _ ?_ ?_ _ _ ⟨[],hs,j,rfl,rfl,rfl,aZ _,rfl⟩
 .rintro x rest b r ⟨d,c,e,rfl,i,q,z,rfl⟩;cases c with
  |nil=>cases i
  |cons p c=>
   rw[bE]at i;injection i with h1 v;subst h1 v;refine ap (D p (by simp) e _ _ λg v=>?_)
   first
    |exact aD ⟨d++[p],c,g,by simp,rfl,by simp[q],∅,rfl⟩
    |exact ap (aD (aD ⟨d++[p],c,g,by simp,rfl,by simp[q],∅,rfl⟩))
 .rintro b r ⟨d,c,e,rfl,i,q,z,rfl⟩;have:c=[]:=by cases c with|nil=>rfl|cons=>cases i
  subst this;rw[jb]at h;show aq _ _ (retInt (nL b.toList)) _ _ _;rw[q];refine wpAny_ret_mkInt ?_;show aq _ _ (if(decide (-(2:Int)^63<=nL (d.map (·.2)))&&decide (nL (d.map (·.2))<2^63))=ah then _ else _) Q E _;unfold we at h;by_cases m:(decide (-(2:Int)^63<=nL (d.map (·.2)))&&decide (nL (d.map (·.2))<2^63))=ah
  .rw[if_pos m];rw[if_pos m]at h;exact aD (h _ (by simp;lia))
  .rw[if_neg m];rw[if_neg m]at h;exact ap (oN (aD (h _ (by simp;lia))))
theorem hash_str(z:Str)(t:Tok):HsAt P w A s (.str z t) ((nu P w).hash z):=λa E Q h=>(nu P w).pyHash (s:={s with toks:=a}) (k:=z) (by show Ci z (.str z t)=ah;simp[Ci]) (h _ (tj _))
theorem hash_int(z:Int)(t:Tok):HsAt P w A s (.int z t) ((C9 P w).hash z):=λa E Q h=>(C9 P w).pyHash (s:={s with toks:=a}) (k:=z) (by show Ch z (.int z t)=ah;simp[Ch]) (h _ (tj _))
theorem quiet_tup{n:Nat}{a:af}{b:Array ai}{Q:Bool->ao->Prop}(f:IsTup s.heap a b)(p:∀v∈b.toList,∀(E:ai->ao->Prop) (Q:Bool->ao->Prop),Q ah s->aq (au P w) A (wb n v) Q E s)(h:Q ah s):aq (au P w) A (wb (n+1) (.ref a)) Q E s:=by
 have e:=tupTy f;obtain⟨o,l,_,m,q⟩:=f;unfold wb;refine ap (vQ e F.slot_tuple_eq.lookup ?_);show aq _ _ (isInstance (.ref a) (.type "tuple") >>= _) _ _ s;refine ap (CL e isSubtype_tuple_tuple ?_);simp only[qE,eZ,if_false];refine ap (v5 l q ?_);refine ap ?_;show aq _ _ (forIn b _ _) _ _ s;rw[<-C8];refine wd _ (λrest r c=>r.1=ae/\c=s/\∀v∈rest,v∈b.toList) _ ?_ ?_ _ _ ⟨rfl,rfl,λv j=>j⟩
 .rintro v rest r c ⟨d,rfl,g⟩;refine ap (p v (g v f8) _ _ ?_);simp only[qE,eZ,if_false];exact aD ⟨rfl,rfl,λu i=>g u (fj _ i)⟩
 .rintro⟨y,x⟩ c ⟨d,rfl,_⟩;simp only at d;subst d;exact aD h
theorem cls_tup{n:Nat}{a:af}{b:Array ai}{Q:Bool->ao->Prop}(e:IsTup s.heap a b)(p:∀v∈b.toList,∀(E:ai->ao->Prop) (Q:Bool->ao->Prop),Q ak s->aq (au P w) A (wc n v) Q E s)(h:Q ak s):aq (au P w) A (wc (n+1) (.ref a)) Q E s:=by
 have i:=tupTy e;obtain⟨o,l,_,m,q⟩:=e;unfold wc;refine ap (Cr i ?_);dsimp only;rw[if_pos (by decide)];refine ap (aD ?_);simp only[qE,eZ,if_false];refine ap (v5 l q ?_);dsimp only;refine ap ?_;rw[<-C8];refine wd _ (λrest r c=>r.1=ae/\c=s/\∀v∈rest,v∈b.toList) _ ?_ ?_ _ _ ⟨rfl,rfl,λv j=>j⟩
 .rintro v rest r c ⟨d,rfl,f⟩;refine ap (p v (f v f8) _ _ ?_);simp only[eZ,if_false];exact aD ⟨rfl,rfl,λu g=>f u (fj _ g)⟩
 .rintro⟨y,x⟩ c ⟨d,rfl,_⟩;simp only at d;subst d;exact aD h
theorem hbv_tup{n:Nat}{a:af}{b:Array ai}{Q:Bool->ao->Prop}{pre post:List ai}{x:ai}(f:IsTup s.heap a b)(e:b.toList=pre++x::post)(B:∀v∈pre,∀(E:ai->ao->Prop) (Q:Bool->ao->Prop),Q ah s->aq (au P w) A (tI n v) Q E s)(l:∀(E:ai->ao->Prop) (Q:Bool->ao->Prop),Q ak s->aq (au P w) A (tI n x) Q E s) (h:Q ak s):aq (au P w) A (tI (n+1) (.ref a)) Q E s:=by
 have j:=tupTy f;obtain⟨o,C,_,m,D⟩:=f;unfold tI;refine ap (vQ j F.slot_tuple_hash.lookup ?_);show aq _ _ (zo (.ref a) >>= _) _ _ s;refine ap (v5 C D ?_);refine ap ?_;show aq _ _ (forIn b _ _) _ _ s;rw[<-C8,e];refine wd _ (λrest r d=>r.1=ae/\d=s/\∃p,rest=p++x::post/\∀v∈p,v∈pre) _ ?_ ?_ _ _ ⟨rfl,rfl,pre,rfl,λv q=>q⟩
 .rintro v rest r d ⟨z,rfl,p,c,g⟩;cases p with
  |nil=>rw[fq]at c;injection c with h1 h2;subst h1;refine ap (l _ _ ?_);simp only[C7,if_true];exact aD (aD h)
  |cons y p=>rw[qB]at c;injection c with h1 h2;subst h1;refine ap (B v (g v f8) _ _ ?_);simp only[qE,eZ,if_false];exact aD ⟨rfl,rfl,p,h2,λu i=>g u (fj _ i)⟩
 .rintro⟨H,G⟩ d ⟨z,rfl,p,c,_⟩;cases p <;> cases c
theorem tup_uniq{h:aB}{a:af}{x y:Array ai}(g:IsTup h a x)(f:IsTup h a y):x=y:=by
 obtain⟨o,e,_,n,d⟩:=g;obtain⟨i,b,_,j,c⟩:=f;rw[e]at b;cases b;rw[d]at c;cases c;rfl
theorem strs_uniq{a:List ai}{x y:List Str}(r:d9 a x)(s:d9 a y):x=y:=by
 induction r generalizing y with
 |nil=>cases s;rfl
 |cons _ _ _ g=>
  cases s with
  |cons _ _ t=>rw[g t]
theorem all_getD{a b:List Str}:((cG (min a.length b.length)).all (λj=>a.getD j zb == b.getD j zb)&&a.length == b.length)=decide (a=b):=by
 rw[jv,h_,ki,decide_eq_true_iff,beq_iff_eq];constructor
 .rintro⟨f,e⟩;refine List.ext_getElem e λi d c=>?_;have:=f i (kb.mpr ∅);rw[beq_iff_eq]at this;simpa[d,c]using this
 .rintro rfl;exact⟨λx _=>by simp,rfl⟩
theorem strs_len{a:List ai}{b:List Str}(h:d9 a b):a.length=b.length:=h.length
theorem eq_strs{b h:af}{c a:Array ai}{i d:List Str}(u:A.units<cLine)(o:IsTup s.heap b c)(f:d9 c.toList i)(p:IsTup s.heap h a)(g:d9 a.toList d):sY A s (.ref b) (.ref h) (decide (i=d)):=by
 by_cases n:b=h
 .subst n;obtain rfl:=tup_uniq o p;obtain rfl:=strs_uniq f g;rw[decide_eq_true rfl];exact .same _
 .have m:=strs_len f;have l:=strs_len g;rw[fk]at m l;rw[<-all_getD,<-m,<-l];refine .of_refs n (.tuples o p u λj r q=>?_);obtain⟨t,e⟩:=Bb j c[j] f (by simp[r]);obtain⟨x,v⟩:=Bb j a[j] g (by simp[q]);rw[e,v];exact IJ _ _ _ _
def PrIs(h:aB)(k:Int×List Str)(v:ai):Prop:=k.2≠[]/\∃(a b:af) (t:Tok) (c:Array ai),v=.ref a/\IsTup h a #[.int k.1 t,.ref b]/\IsTup h b c/\d9 c.toList k.2
theorem PrIs.inj{h:aB}{k c:Int×List Str}{v:ai}(x:PrIs h k v)(y:PrIs h c v):k=c:=by
 obtain⟨_,a,b,t,i,rfl,m,l,j⟩:=x;obtain⟨_,r,p,q,f,e,n,o,g⟩:=y;cases e;have:=tup_uniq m n;have d:k.1=c.1/\b=p:=by have:=congrArg Array.toList this;simp at this;exact⟨this.1.1,this.2⟩
 obtain⟨d,rfl⟩:=d;obtain rfl:=tup_uniq l o;exact Prod.ext d (strs_uniq j g)
theorem tup_kept{h d:aB}{a:af}{x:Array ai}(f:IsTup h a x)(k:∀b o,h.get? b=aa o->o.cls=.type "tuple"->d.get? b=aa o):IsTup d a x:=by obtain⟨o,e,c,r⟩:=f;exact⟨o,k a o e c,c,r⟩
def hashPr(P:aQ)(w:aI)(k:Int×List Str):Int:=we (nL [(C9 P w).hash k.1,we (nL (k.2.map (nu P w).hash))])
theorem strs_pairs{a:List ai}{b:List Str}(h:d9 a b):a=(a.zip (b.map (nu P w).hash)).map (·.1)/\(a.zip (b.map (nu P w).hash)).map (·.2)=b.map (nu P w).hash/\∀p∈a.zip (b.map (nu P w).hash),HsAt P w A s p.1 p.2:=by
 induction h with
 |nil=>exact⟨rfl,rfl,λp c=>by simp at c⟩
 |cons z t _ d=>
  obtain⟨g,f,e⟩:=d;rw[bE,zH,bE,bE];refine⟨by rw[<-g],by rw[f],λp c=>?_⟩;rcases br.mp c with rfl|c
  .exact hash_str z t
  .exact e p c
theorem hash_pr{k:Int×List Str}{v:ai}(m:A.units+4<cLine)(x:PrIs s.heap k v):HsAt P w A s v (hashPr P w k):=by
 obtain⟨_,a,b,t,e,rfl,l,j,i⟩:=x;obtain⟨h,g,f⟩:=strs_pairs (P:=P) (w:=w) (A:=A.in1.in1) (s:=s) i;have c:HsAt P w A.in1 s (.ref b) (we (nL (k.2.map (nu P w).hash))):=by have:=hash_tup (P:=P) (w:=w) (A:=A.in1) (s:=s) (show A.units+1<cLine by lia) j h f;rw[g]at this;exact this
 refine hash_tup (hs:=[(.int k.1 t,(C9 P w).hash k.1),(.ref b,we (nL (k.2.map (nu P w).hash)))]) ∅ l rfl λp d=>?_;simp only[br,gc,or_false]at d;rcases d with rfl|rfl
 .exact hash_int _ _
 .exact c
theorem strs_mem_shape{a:List ai}{b:List Str}(h:d9 a b):∀v∈a,∃z t,v=Value.str z t:=λv c=>h.all v c
def prKd(P:aQ)(w:aI):Keyd P w (Int×List Str) where
 is:=PrIs
 hash:=hashPr P w
 room:=λA=>A.units+4<cLine
 keep:=λ⟨m,a,b,t,d,e,g,h,f⟩ k=>⟨m,a,b,t,d,e,tup_kept g k,tup_kept h k,f⟩
 ref:=λ⟨_,a,_,_,_,e,⟨o,g,_⟩,_⟩=>⟨a,o,e,g⟩
 eqBool:=λ{A E s x y u v Q} N B r q=>by
  by_cases i:u=v
  .subst i;obtain rfl:=B.inj r;rw[decide_eq_true rfl]at q;exact SeqAt.EqAt.same _ _ _ _ _ q
  .obtain⟨_,a,b,t,d,rfl,g,h,f⟩:=B;obtain⟨_,S,O,t',p,rfl,F,H,C⟩:=r;have G:decide (x=y)=((cG (min 2 2)).all (λj=>if j=0 then x.1 == y.1 else decide (x.2=y.2))&&2 == 2):=by obtain⟨L,K⟩:=x;obtain⟨J,I⟩:=y;rw[jv];simp[tq]
   rw[G]at q;refine SeqAt.EqAt.of_refs (λz=>i (by rw[z])) (.tuples g F ∅ λj D M=>?_) _ _ _ _ q
   match j,D with
   |0,_=>exact II _ _ _ _
   |1,_=>exact eq_strs (show A.units+1<cLine by lia) h f H C
 quiet:=λ⟨_,a,b,t,d,e,g,h,f⟩ q=>by
  subst e;refine quiet_tup (n:=7) g (λv c E Q q=>?_) q;simp only[br,gc,or_false]at c;rcases c with rfl|rfl
  .exact nv (by unfold wb;rfl) q
  .refine quiet_tup (n:=6) h (λv c E Q q=>?_) q;obtain⟨z,t,rfl⟩:=strs_mem_shape f v c;exact nv (by unfold wb;rfl) q
 cls:=λ⟨_,a,b,t,d,e,g,h,f⟩ q=>by
  subst e;refine cls_tup (n:=7) g (λv c E Q q=>?_) q;simp only[br,gc,or_false]at c;rcases c with rfl|rfl
  .exact nv (by unfold wc;rfl) q
  .refine cls_tup (n:=6) h (λv c E Q q=>?_) q;obtain⟨z,t,rfl⟩:=strs_mem_shape f v c;exact nv (by unfold wc;rfl) q
 hbv:=λ⟨m,a,b,t,d,e,g,h,f⟩ q=>by
  subst e;refine hbv_tup (n:=7) (pre:=[.int _ t]) (x:=.ref b) (post:=[]) g rfl (λv c E Q q=>?_) (λE Q q=>?_) q
  .simp only[br,gc,or_false]at c;subst c;exact nv (by unfold tI;rfl) q
  .cases l:d.toList with
   |nil=>rw[l]at f;have:=strs_len f;exact absurd (tt this.symm) m
   |cons v rest=>refine hbv_tup (n:=6) (pre:=[]) (x:=v) (post:=rest) h l (λv c=>by simp at c) (λE Q q=>?_) q;obtain⟨z,t,rfl⟩:=strs_mem_shape f v (by rw[l];simp);exact nv (by unfold tI;rfl) q
end
def ltL(a b:List Tx):Bool:=decide (a<b)
theorem ltL_cons(x y:Tx)(b a:List Tx):ltL (x::b) (y::a)=if x=y then ltL b a else decide (x<y):=by
 unfold ltL;by_cases h:x=y
 .subst h;rw[if_pos rfl,jv,decide_eq_true_iff,decide_eq_true_iff,C_];exact⟨λz=>z.elim (λq=>absurd q (List.lt_irrefl _)) λq=>q.2,λq=>.inr ⟨rfl,q⟩⟩
 .rw[if_neg h,jv,decide_eq_true_iff,decide_eq_true_iff,C_];exact⟨λz=>z.elim id λq=>absurd q.1 h,.inl⟩
def ordL:KeyOrd where
 α:=List Tx
 blt:=ltL
 irrefl:=λa=>decide_eq_false (List.lt_irrefl a)
 trans:=λa b c e d=>decide_eq_true (List.lt_trans (of_decide_eq_true e) (of_decide_eq_true d))
 negTrans:=λa b c h=>by
  unfold ltL;by_cases f:a<b
  .exact .inl (decide_eq_true f)
  .have g:b<=a:=List.not_lt.mp f;exact .inr (decide_eq_true (List.lt_of_le_of_lt g (of_decide_eq_true h)))
 total:=λa b e d=>List.le_antisymm (List.not_lt.mp (of_decide_eq_false d)) (List.not_lt.mp (of_decide_eq_false e))
section
open PySem.SeqAt
open PySem.AutoSeq1 (wpAny_loadPart')
open PySem.MeetsSeq PySem.MeetsSeq2 PySem.MeetsSeq3
def cpsL(a:List Str):List Tx:=a.map λz=>z.cps.toList
theorem cps_inj{x y:Str}(h:x.cps.toList=y.cps.toList):x=y:=by rw[<-pU x,<-pU y,h]
theorem tuple_lt_strs(l b:af)(i f:Array ai)(n n2:Nat)(dd X:Option af)(sl P:Array (Option ai))(K L:List Str)(hi:d9 i.toList K)(Z:d9 f.toList L):Meets (Builtin.«tuple.__lt__» ⟨[.ref l,.ref b],[]⟩) (λ_ R s=>s.heap.get? l=aa {cls:=.type "tuple",dict:=dd,data:=.seq i n,slots:=sl}/\s.heap.get? b=aa {cls:=.type "tuple",dict:=X,data:=.seq f n2,slots:=P} /\ R (.ok (.ret (.bool (ltL (cpsL K) (cpsL L))))) s) :=
 .of_wp λo w A R s h=>by
  obtain⟨G,g,d,B,C⟩:=s;obtain⟨hl,hb,h⟩:=h;have f2:=AutoSeq1.sub_tuple_tuple;have z1:i.size=K.length:=by rw[<-hi.length];simp
  have z2:f.size=L.length:=by rw[<-Z.length];simp
  wp_walk using oG hl,oG hb,wd _ (λrest b S=>b.1=ae/\S=⟨G,g,d,B,C⟩/\∃(J I:List ai) (j m:List Str),rest=J.zip I /\ d9 J j/\d9 I m/\j.length+f.size=m.length+i.size/\R (.ok (.ret (.bool (ltL (cpsL j) (cpsL m))))) ⟨G,g,d,B,C⟩) _
  case turn=>
   rintro⟨y,x⟩ rest b S ⟨T,rfl,J,I,j,m,p,v,q,H,M⟩;cases v with
   |nil=>rw[List.zip_nil_left]at p;cases p
   |cons a t F=>
    cases q with
    |nil=>rw[List.zip_nil_right]at p;cases p
    |cons c u D=>
     rw[zH]at p;injection p with hyx Td;injection hyx with hy hx;subst hy hx;rename_i vs1 O vs2 N;have r:R (.ok (.ret (.bool (if a.cps.toList=c.cps.toList then ltL (cpsL O) (cpsL N)else decide (a.cps.toList<c.cps.toList))))) ⟨G,g,d,B,C⟩:=by rw[<-ltL_cons];exact M
     simp only[d8]at H;refine ap (EqAt.str_str a t c u o w _ _ ?_);by_cases e:a=c
     .subst e;rw[if_pos rfl]at r;rw[beq_self_eq_true]
      wp_walk
      exact⟨rfl,rfl,_,_,_,_,Td,F,D,∅,r⟩
     .rw[if_neg (λz=>e (cps_inj z))]at r;rw[beq_false_of_ne e];have W:∀(E:ai->ao->Prop) (Q:ai->ao->Prop),Q (.bool (decide (a.cps.toList<c.cps.toList))) ⟨G,g,d,B,C⟩->aq (au o w) A.in1 (richCompare .Lt (.str a t) (.str c u)) Q E ⟨G,g,d,B,C⟩:=λE Q h=>(PyProof.Rows.lt_str h:aq (au o w) A.in1 (dZ .Lt (.str a t) (.str c u)) Q E _)
      wp_walk using W
      exact⟨_,rfl,by simpa using r⟩
  case fin=>
   rintro⟨b1,b2⟩ S ⟨T,rfl,J,I,j,m,p,v,q,H,M⟩;simp only at T;subst T;have Y:ltL (cpsL j) (cpsL m)=decide (i.size<f.size):=by
    cases v with
    |nil=>
     cases q with
     |nil=>simp only[nk]at H;exact(decide_eq_false (by simp[cpsL])).trans (decide_eq_false ∅).symm
     |cons c u hw=>simp only[nk,d8]at H;exact(decide_eq_true (by simp[cpsL])).trans (decide_eq_true ∅).symm
    |cons a t Y=>
     cases q with
     |nil=>simp only[nk,d8]at H;exact(decide_eq_false (by simp[cpsL])).trans (decide_eq_false ∅).symm
     |cons c u hw=>
      rw[zH]at p;cases p
   rw[Y]at M
   wp_walk
   exact⟨_,rfl,by simpa[Builtin.Tuple.tupleCompareSizes]using M⟩
  case h=>exact⟨rfl,rfl,i.toList,f.toList,K,L,rfl,hi,Z,∅,h⟩
end
section
variable{P:aQ}{w:aI}{A:aX}{E:ai->ao->Prop}{s:ao}
theorem lt_tupStrs{l b:af}{c a:Array ai}{d e:List Str}{Q:ai->ao->Prop}(C:IsTup s.heap l c)(G:IsTup s.heap b a)(F:d9 c.toList d)(D:d9 a.toList e)(B:A.units<cLine) (h:Q (.bool (ltL (cpsL d) (cpsL e))) s):aq (au P w) A (dZ .Lt (.ref l) (.ref b)) Q E s:=by
 obtain⟨⟨I,H,u,y⟩,p,r,n,q⟩:=id C;obtain⟨⟨v,g,i,f⟩,m,o,z,j⟩:=id G;simp only at r q o j;subst r q o j;exact richCompare_meets_room (op:=.Lt) ⟨_,p,rfl⟩ ⟨_,m,rfl⟩ PySem.F.slot_tuple_lt PySem.F.entry_tuple_lt (PySem.F.args_tuple_lt_2 _ _) (tuple_lt_strs l b c a n z H g y f d e F D)
  ⟨p,m,show Value.bool (ltL (cpsL d) (cpsL e))≠Value.notImplemented/\Q (.bool (ltL (cpsL d) (cpsL e))) s from⟨(λx=>nomatch x),h⟩⟩ B
def prKey(h:aB)(n:Int):KeyKind where
 toKeyOrd:=ordL
 keyOf:=λv=>open Classical in if z:∃a,PrIs h (n,a) v then aa (cpsL z.choose)else ae
 dflt:=([]:List Tx)
theorem prKey_of{h:aB}{n:Int}{a:List Str}{v:ai}(x:PrIs h (n,a) v):(prKey h n).keyOf v=aa (cpsL a):=by
 have z:∃a,PrIs h (n,a) v:=⟨a,x⟩
 have e:z.choose=a:=(Prod.mk.inj (z.choose_spec.inj x)).2;show(open Classical in if z:∃a,PrIs h (n,a) v then aa (cpsL z.choose)else ae)=_;rw[dif_pos z,e]
theorem prKey_some{h:aB}{n:Int}{k:List Tx}{v:ai}(x:(prKey h n).keyOf v=aa k):∃a,PrIs h (n,a) v/\cpsL a=k:=by
 by_cases z:∃a,PrIs h (n,a) v
 .obtain⟨a,z⟩:=z;rw[prKey_of z]at x;exact⟨a,z,cO x⟩
 .have:(prKey h n).keyOf v=ae:=dif_neg z;rw[this]at x;cases x
theorem prLt{h:aB}{n:Int}(L:A.units+8<cLine)(k:∀b o,h.get? b=aa o->o.cls=.type "tuple"->s.heap.get? b=aa o):hG (prKey h n) (tuples' ah) P w A s:=λE x y a b Q D C i=>by
 obtain⟨c,v,rfl⟩:=prKey_some D;obtain⟨I,u,rfl⟩:=prKey_some C;obtain⟨_,N,b1,t,r,rfl,F,l,j⟩:=(prKd P w).keep v k;obtain⟨_,M,b2,t',g,rfl,H,p,f⟩:=(prKd P w).keep u k;obtain⟨o,z,_,m,B⟩:=F;obtain⟨J,G,_,K,q⟩:=H;refine PySem.W.kat_lt z B G q ?_;show PySem.W.KatLex P w A ah _ Q [(Value.int n t,Value.int n t'),(Value.ref b1,Value.ref b2)] 0 s;refine Jm (II n t n t' _ _ _ _ ?_);rw[beq_self_eq_true];refine PySem.W.kat_yes (Jm (eq_strs ∅ l j p f _ _ _ _ ?_));by_cases e:c=I
 .subst e;rw[decide_eq_true rfl];refine PySem.W.kat_yes (PySem.W.kat_nil ?_);have:ltL (cpsL c) (cpsL c)=ak:=ordL.irrefl _;have d:Q (ltL (cpsL c) (cpsL c)) s:=i;rw[this]at d;simpa using d
 .rw[decide_eq_false e];refine PySem.W.kat_no ?_;show aq _ _ (oneLt' (ah&&(1 == 0)) _ _) _ _ _;simp only[show((1:Nat) == 0)=ak from rfl,zl];refine PySem.W.kat_one _ _ (lt_tupStrs l p j f ∅ ?_);exact i
theorem kat_all{h:aB}{n:Int}:∀(c:List ai),(∀v∈c,∃e,PrIs h (n,e) v)->∃fs,SV h c fs/\fs.length=c.length/\∀f∈fs,∃t,f=Value.int n t
 |[],_=>⟨[],PySem.W.KatTups.nil,rfl,λf d=>by simp at d⟩
 |v::c,g=>by
  obtain⟨fs,p,l,j⟩:=kat_all c λu q=>g u (fj _ q);obtain⟨e,_,a,b,t,i,rfl,⟨o,r,y,m,x⟩,_⟩:=g v f8;refine⟨.int n t::fs,PySem.W.KatTups.cons r y x rfl p,by simp[l],λf d=>?_⟩;rcases br.mp d with rfl|d
  .exact⟨t,rfl⟩
  .exact j f d
theorem prKind{a:List ai}{n:Int}{Q:gw->ao->Prop}(b:∀v∈a,∃c,PrIs s.heap (n,c) v)(g:2<=a.length)(h:Q (tuples' ah) s):aq (au P w) A (keyKind' a.toArray) Q E s:=by
 obtain⟨fs,e,f,d⟩:=kat_all a b;refine PySem.W.kat_kind (T:=.type "int") e ∅ (λv b=>?_) (by decide) ?_
 .obtain⟨t,rfl⟩:=d v b;exact .now
 .have:(Value.type "int" != Value.type "tuple")=ah:=by decide
  rw[this];exact h
theorem sorted_genK{v:ai}{Q:ai->ao->Prop}(hu:A.units+32<cLine)(O:aq (au P w) A.in1 (collect v) (λa c=>∃(κ:KeyKind) (kz:gw),(∀v∈a,∃k,κ.keyOf v=aa k)/\a.length<=1000000 /\ (∀(D:aX) (f:aB),D.units+8<cLine->(∀b o,c.heap.get? b=aa o->f.get? b=aa o)->2<=a.length->hG κ kz P w D {c with heap:=f}/\∀{E:ai->ao->Prop}{Q:gw->ao->Prop},Q kz {c with heap:=f}->aq (au P w) D (keyKind' a.toArray) Q E {c with heap:=f}) /\ ∀(f:aB) (out:Array ai) (e:Nat),(∀b o,c.heap.get? b=aa o->f.get? b=aa o) -> f.get? c.heap.objs.size=aa (fS "list" out e)->out.toList.Perm a->out.toList.Pairwise (λx y=>∀p q,κ.keyOf x=aa p->κ.keyOf y=aa q->κ.blt q p=ak)->Q (.ref c.heap.objs.size) {c with heap:=f}) E s):aq (au P w) A (call (.builtin "sorted") [v]) Q E s:=by
 refine IX kind_sorted plain_sorted entry_sorted (args_sorted1 _) ?_;unfold IY;refine ap (m:=checkCount "sorted" 1 1 _) (aD ?_);refine ap (aP O λa c ζ=>?_);obtain⟨κ,kz,S,J,n,C⟩:=ζ;refine ap (CG ?_);have r:(c.heap.push (fS "list" a.toArray 0)).get? c.heap.objs.size=aa (fS "list" a.toArray 0):=cW _ rfl;refine ap (ke (kP slot_list_sort ⟨_,r,rfl⟩ entry_list_sort (EH (κ:=κ) (kz:=kz) r (λp g=>?_) J (λf k T=>n _ f (by simp;lia) (λb o e=>k b o (df (bG e)) (bH _ e)) T) λd g M=>⟨_,rfl,?_⟩) (args_list_sort _)))
 .have:p.1∈a:=by
   have H:p∈(a.toArray.zip a.toArray).toList:=g;rw[Array.toList_zip]at H;exact ze H |>.1
  exact S _ this
 .obtain⟨e,N⟩:=sortedHeap_at (out:=(arrOf d).map (·.2)) r;have l:(arrOf d).toList.Perm (a.zip a):=by
   have:=CZ.mp g;have e0:(kW a).toList=a.zip a:=by show(a.toArray.zip a.toArray).toList=_;rw[Array.toList_zip]
   rwa[e0]at this
  have same:∀p∈(arrOf d).toList,p.1=p.2:=λp g=>by have:=l.mem_iff.mp g;rw[<-List.map_id a,List.zip_map']at this;obtain⟨x,_,rfl⟩:=bI.mp this;rfl
  have Z:((arrOf d).map (·.2)).toList.Perm a:=by rw[Array.toList_map];have:=l.map (·.2);rwa[Jn (aZ _)]at this
  refine aD ⟨_,rfl,C _ _ e (λb o G=>?_) N Z ?_⟩
  .have n:b<c.heap.objs.size:=bG G;rw[sortedHeap_old (df n) (by rw[jx];exact kT n)];exact bH _ G
  .rw[Array.toList_map];refine oI.mpr (tE.mpr λi j F z bL p q L K=>?_);have I:j<(kW a).size:=by rw[<-g.size_eq];simpa using z
   have B:i<(arrOf d).size:=by simpa using F
   have u:j<(arrOf d).size:=by simpa using z
   have h:=M i j (kJ bL) I;rw[su B,su u]at h;have Y:=same _ (zI F);have f2:=same _ (zI z);have X:kO κ (arrOf d)[i]=p:=by
    unfold kO;have:(arrOf d)[i].1=(arrOf d).toList[i].2:=by rw[<-Y];simp
    rw[this,L];rfl
   have W:kO κ (arrOf d)[j]=q:=by
    unfold kO;have:(arrOf d)[j].1=(arrOf d).toList[j].2:=by rw[<-f2];simp
    rw[this,K];rfl
   rw[X,W]at h;exact h
end
section
variable{X:Cx}
abbrev PrK:=Int×List Tx
def kS(k:PrK):Int×List Str:=(k.1,k.2.map tS)
theorem kS_inj{a b:PrK}(h:kS a=kS b):a=b:=by obtain⟨f,e⟩:=a;obtain⟨b1,b2⟩:=b;have d:=congrArg Prod.fst h;have c:=congrArg (λx=>cpsL x.2) h;simp only[kS,cpsL,cB,lD,jJ,zJ]at d c;rw[d,c]
def PrH(H:Hp)(k:PrK)(a:af):Prop:=k.2≠[]/\∃b,H a=aa (.tup [.int k.1,.ref b])/\H b=aa (.tup (cN k.2))
theorem PrH.is{P:aQ}{w:aI}{H:Hp}{h:aB}{k:PrK}{a:af}(ok:dw P w H h)(x:PrH H k a):PrIs h (kS k) (.ref a):=by
 obtain⟨m,b,l,j⟩:=x;obtain⟨_,i,r,p,_⟩:=(show cc P w H h a (.tup [.int k.1,.ref b])from ok a _ l)
 obtain⟨_,c,f,g,_⟩:=(show cc P w H h b (.tup (cN k.2))from ok b _ j)
 obtain⟨u,v,rfl,e,d⟩:=vals2 r;obtain⟨t,rfl⟩:=e;cases d;exact⟨λz=>m (by simpa[kS]using z),a,b,t,c.toArray,rfl,p,g,by have:=xf f;rw[zm];exact this⟩
where
 vals2 {x y:V}{us:List ai} (h:bA [x,y] us):∃u v,us=[u,v]/\RelV x u/\RelV y v:=by
  cases h with
  |cons h1 h=>cases h with
   |cons h2 h=>cases h with
    |nil=>exact⟨_,_,rfl,h1,h2⟩
def toV(q:PrK×af):(Int×List Str)×ai:=(kS q.1,.ref q.2)
def addQ(a:List (PrK×af))(q:PrK×af):List (PrK×af):=if q.1∈a.map (·.1)then a else a++[q]
def uniqQ(a:List (PrK×af)):List (PrK×af):=a.foldl addQ []
theorem addV_toV(a:List (PrK×af))(q:PrK×af):addV (a.map toV) (toV q)=(addQ a q).map toV:=by
 unfold addV addQ;have c:(toV q).1∈(a.map toV).map (·.1)↔q.1∈a.map (·.1):=by rw[cB,bI,bI];exact⟨λ⟨y,b,e⟩=>⟨y,b,kS_inj e⟩,λ⟨y,b,e⟩=>⟨y,b,by show kS y.1=kS q.1;rw[e]⟩⟩
 by_cases h:q.1∈a.map (·.1)
 .rw[if_pos h,if_pos (c.mpr h)]
 .rw[if_neg h,if_neg λz=>h (c.mp z),vU];rfl
theorem uniqQ_take(a:List (PrK×af))(i:Nat)(h:i<a.length):uniqQ (a.take (i+1))=addQ (uniqQ (a.take i)) a[i]:=by unfold uniqQ;rw[SS h,wf];rfl
theorem addQ_len(a:List (PrK×af))(q:PrK×af):a.length<=(addQ a q).length:=by
 unfold addQ;split
 .exact aZ _
 .simp
theorem uniqQ_mono(l a:List (PrK×af)):a.length<=(l.foldl addQ a).length:=by
 induction l generalizing a with
 |nil=>exact aZ _
 |cons x r b=>exact c0 (addQ_len a x) (b _)
theorem uniqQ_le(a:List (PrK×af))(i:Nat):(uniqQ (a.take i)).length<=(uniqQ a).length:=by
 have e:uniqQ a=(a.drop i).foldl addQ (uniqQ (a.take i)):=by unfold uniqQ;rw[<-wf,kh]
 rw[e];exact uniqQ_mono _ _
theorem uniqQ_mem(l b:List (PrK×af)):∀x∈l.foldl addQ b,x∈b\/x∈l:=by
 induction l generalizing b with
 |nil=>exact λx a=>.inl a
 |cons y r c=>
  intro x a;rcases c _ x a with z|z
  .unfold addQ at z;split at z
   .exact .inl z
   .rcases gv.mp z with z|z
    .exact .inl z
    .exact .inr (by rw[gQ.mp z];exact f8)
  .exact .inr (fj _ z)
theorem uniqQ_sub{a:List (PrK×af)}{x:PrK×af}(h:x∈uniqQ a):x∈a:=(uniqQ_mem a [] x h).elim (λz=>by simp at z) id
def setPHO(X:Cx)(a:af)(b:List (PrK×af)):HO:=.ext λh=>SetV (prKd X.prog X.w) h a (b.map toV)
def refs(a:List (PrK×af)):List V:=a.map λq=>.ref q.2
theorem refs_vals:∀{a:List (PrK×af)}{b:List ai},bA (refs a) b->b=a.map λq=>Value.ref q.2
 |[],_,.nil=>rfl
 |q::a,_,.cons r h=>by cases r;rw[refs_vals h];rfl
theorem vals_refs:∀(a:List (PrK×af)),bA (refs a) (a.map λq=>Value.ref q.2)
 |[]=>.nil
 |q::a=>.cons rfl (vals_refs a)
theorem call_setLP(hu:X.A.units+64<cLine)(hc:X.calm=ah):gg X (.type "set") (λF H Q=>∃(p:af) (c:List (PrK×af)),F=[.ref p]/\cz X.K H p (refs c)/\(∀q∈c,PrH H q.1 q.2)/\(uniqQ c).length<4000/\∀a,H a=ae->Q (.ref a) (upd H a (setPHO X a (uniqQ c)))):=by
 intro ag s σ H F us Q I r h;obtain⟨p,c,rfl,D,hP,h4,q⟩:=h;obtain⟨u,rfl,O⟩:=vals1 r;cases O;obtain⟨y,N,pl,hz⟩:=I.list D;have L:=refs_vals N;have C:y.toArray.size=c.length:=by rw[cX,L,bZ]
 have f:∀(h:aB),(∀b o,b<s.heap.objs.size->s.heap.get? b=aa o->h.get? b=aa o)->∀x∈c,(prKd X.prog X.w).is h (kS x.1) (.ref x.2):=λh k x A=>(prKd X.prog X.w).keep ((hP x A).is I.hok) λb o e _=>k b o (bG e) e;refine Sy (P:=X.prog) (w:=X.w) (I.ok.hd hc) pl.isList (J:=λi h=>SetV (prKd X.prog X.w) h s.heap.objs.size ((uniqQ (c.take i)).map toV)/\∀b o,b<s.heap.objs.size->s.heap.get? b=aa o->h.get? b=aa o)
  (λi h n ⟨S,k⟩ g=>⟨S.at λo e=>g _ o (aZ _) e,λb o l e=>g b o (kJ l) (k b o l e)⟩) ⟨⟨#[],0,_,[],cW _ rfl,vV _,rfl,by decide,⟨⟨rfl,List.Pairwise.nil,(λj hj=>by cases hj),(by show 7∈_;decide),(by show 0*5<7*3;decide)⟩,rfl,(λq D=>by cases D)⟩,rfl,λh=>absurd rfl h⟩,λb o _ e=>bH _ e⟩
  (λi v d E Q hi B ⟨S,k⟩ q=>?_) λn m ⟨S,_⟩ k=>?_
 .have z:i<c.length:=∅
  obtain rfl:v=.ref c[i].2:=by rw[L]at B;simp[z]at B;exact B.symm
  have G:=f d.heap k c[i] (zI z);unfold setAdd;refine ke (ap (hash_pr (P:=X.prog) (w:=X.w) (s:=d) (show X.A.units+3+4<cLine by lia) G d.toks _ _ λm W=>?_));refine set_addV (kd:=prKd X.prog X.w) (s:={d with toks:=m}) (k:=kS c[i].1) (show X.A.units+3+4<cLine by lia) S (λp hp=>?_) G (by rw[bZ];exact CA (uniqQ_le c i) h4) λn b K T=>?_
  .obtain⟨x,A,rfl⟩:=bI.mp hp;exact f d.heap k x (List.mem_of_mem_take (uniqQ_sub A))
  .refine q n m b W K ⟨?_,λb o l e=>by rw[K.2 b (df l)];exact k b o l e⟩;rw[uniqQ_take c i z,<-addV_toV];exact T
 .have M:SetV (prKd X.prog X.w) n s.heap.objs.size ((uniqQ c).map toV):=by
   rw[C,CY]at S;exact S
  refine⟨.ref s.heap.objs.size,_,I.laid (t':=m) (o:=setPHO X s.heap.objs.size (uniqQ c)) (λb o e=>k b o (bG e) e) (aZ _) ?_,rfl,q _ I.fresh⟩;obtain⟨es,ep,t,ss,e,_⟩:=M.ex;exact⟨M,⟨_,e⟩,λh1 h2 Z Y=>Z.at Y⟩
theorem call_sortedSetP(hu:X.A.units+64<cLine)(hc:X.calm=ah):gg X (.builtin "sorted") (λG H Q=>∃(p:af) (d:List (PrK×af)) (n:Int),G=[.ref p]/\H p=aa (setPHO X p d)/\(∀q∈d,PrH H q.1 q.2/\q.1.1=n)/\d.length<4000 /\ ∀l i,H l=ae->SW i d->i.Pairwise (λx y=>ltL y.1.2 x.1.2=ak)->Q (.ref l) (upd H l (.lst (refs i)))):=by
 intro ag s N H G us Q I r h;obtain⟨p,d,n,rfl,hq,L,h4,q⟩:=h;obtain⟨u,rfl,P⟩:=vals1 r;cases P;obtain⟨S,_,_⟩:=(show cc X.prog X.w H s.heap p (setPHO X p d)from I.hok p _ hq)
 obtain⟨M,ep,t,ps,ho,K,J,C,T,Y,dH⟩:=S.ex;have SE:uI X.w s.heap p M:=⟨ep,t,ho,C,T.fits (by simp),Y,λh0=>dH λz=>h0 (by have j:=congrArg ng J;have g:=K.length_eq;rw[z]at g;simp at j g;rw[j,g];rfl)⟩
 have w:(M.toList.map (·.2)).Perm (d.map λq=>Value.ref q.2):=by rw[J,cB];have:=K.map (·.2);rwa[cB]at this
 refine sorted_genK ∅ (Kw (xg (I.ok.hd hc)) SE λO vs pv k eg eo=>?_);obtain⟨D,g',d',t',Z⟩:=O;obtain rfl:g'=s.gens:=eg;obtain rfl:Z=s.os:=eo;have F:Inv X ag N H {s with heap:=D,drawn:=d',toks:=t'}:=by have:=Inv.call (ch:=[]) I (g':=s.gens) (d':=d') (t':=t') (Un.kept (fs:=gi X.stack) (ex:=[]) k) (I.hok.kept k) I.bare (λb hb=>absurd hb (by simp));exact this
 have a:=pv.trans w;have c:∀x∈d,PrIs D (n,x.1.2.map tS) (.ref x.2):=λx f=>by have:=(L x f).1.is F.hok;rw[<-(L x f).2];exact this
 refine⟨prKey D n,tuples' ah,λv B=>?_,by have:=a.length_eq;rw[bZ]at this;lia,λA' h2 hA m k6=>⟨prLt hA λb o e _=>m b o e,λ{E Q} W=>prKind (n:=n) (λv B=>?_) k6 W⟩,λh2 A e m ig b1 b2=>?_⟩
 .obtain⟨x,f,rfl⟩:=bI.mp (a.mem_iff.mp B);exact⟨_,prKey_of (c x f)⟩
 .obtain⟨x,f,rfl⟩:=bI.mp (a.mem_iff.mp B);exact⟨_,(prKd X.prog X.w).keep (c x f) λb o e _=>m b o e⟩
 .obtain⟨i,j,g⟩:=perm_mapE (b1.trans a);refine⟨.ref _,_,F.laid (t':=t') (o:=.lst (refs i)) m (aZ _) ⟨?_,A.toList,e,by rw[j];exact vals_refs i,by rw[CH];exact ig⟩,rfl,q _ i F.fresh g ?_⟩
  .unfold refs;rw[bZ,g.length_eq];exact kJ (rT ∅)
  .rw[j]at b2;refine(oI.mp b2).imp_of_mem λ{x y} f hy hh=>?_;have:ltL _ _=ak:=hh _ _ (prKey_of (c x (g.mem_iff.mp f))) (prKey_of (c y (g.mem_iff.mp hy)));simpa[cpsL,cB,lD,jJ]using this
end
end L2
namespace Pu
open L2
section
variable{X:Cx}{E:XK}{e:aA}{i:aj->R (List PV)}{g p q d:Pos}
def pr1:PV->Option PrK
 |.tup [.int n,.tup b]=>(gp b).bind λa=>if a≠[] then aa (n,a)else ae
 |_=>ae
def prs:List PV->Option (List PrK)
 |[]=>aa []
 |x::a=>(pr1 x).bind λk=>(prs a).bind λks=>aa (k::ks)
def prV(k:PrK):PV:=.tup [.int k.1,.tup (am k.2)]
def uniqK(ks:List PrK):List PrK:=ks.foldl (λa k=>if k∈a then a else a++[k]) []
def leK2(a b:PrK):Bool:=!ltL b.2 a.2
def sortK(ks:List PrK):List PrK:=ks.mergeSort leK2
def sortSetVP:List PV->Option PO
 |[.lst a]=>(prs a).bind λks=>if(uniqK ks).length<4000/\∀k∈ks,k.1=(ks.headD (0,[])).1 then aa (.lst ((sortK (uniqK ks)).map prV))else ae
 |_=>ae
theorem pr1_eq{x:PV}{k:PrK}(h:pr1 x=aa k):x=prV k/\k.2≠[]:=by
 unfold pr1 at h;split at h
 .obtain⟨f,c,a⟩:=tK.mp h;split at a
  .rename_i b;cases a;rw[xk c];exact⟨rfl,b⟩
  .cases a
 .cases h
theorem prs_eq:∀{a:List PV}{ks:List PrK},prs a=aa ks->a=ks.map prV/\∀k∈ks,k.2≠[]
 |[],ks,h=>by cases h;exact⟨rfl,λk f=>by cases f⟩
 |x::a,ks,h=>by
  obtain⟨k,n,m⟩:=tK.mp h;obtain⟨c,l,j⟩:=tK.mp m;cases j;obtain⟨r,o⟩:=prs_eq l;obtain⟨b1,b2⟩:=pr1_eq n;refine⟨by rw[r,b1];rfl,λy b=>?_⟩;rcases br.mp b with rfl|b
  .exact b2
  .exact o y b
theorem pr_rep{K:ay}{H:Hp}{F:af->Prop}{k:PrK}{v:V}(h:aL K H F (prV k) v)(m:k.2≠[]):∃a,v=.ref a/\PrH H k a:=by obtain⟨a,u,rfl,f,j,x,rfl,r,w,l,rfl,⟨b,s,rfl,c,o⟩,n⟩:=h;rw[show l=[] from n,show j=.int k.1 from r]at f;rw[(To.mp o).1]at c;exact⟨a,rfl,m,b,f,c⟩
theorem prs_rep{K:ay}{H:Hp}{F:af->Prop}:∀{ks:List PrK}{f:List V},aR K H F (ks.map prV) f->(∀k∈ks,k.2≠[])->∃b:List (PrK×af),b.map (·.1)=ks/\f=refs b/\∀q∈b,PrH H q.1 q.2/\aL K H F (prV q.1) (.ref q.2)
 |[],_,h,_=>⟨[],rfl,h,λq c=>by cases c⟩
 |k::ks,_,⟨v,r,e,l,w⟩,j=>by
  obtain⟨a,rfl,u⟩:=pr_rep l (j k f8);obtain⟨b,o,n,m⟩:=prs_rep w λy s=>j y (fj _ s);refine⟨(k,a)::b,by rw[bE,o],by rw[e,n];rfl,λq c=>?_⟩;rcases br.mp c with rfl|c
  .exact⟨u,l⟩
  .exact m q c
theorem reps_refs{K:ay}{H:Hp}{F:af->Prop}:∀{a:List (PrK×af)},(∀q∈a,aL K H F (prV q.1) (.ref q.2))->aR K H F ((a.map (·.1)).map prV) (refs a)
 |[],_=>rfl
 |q::a,h=>⟨_,_,rfl,h q f8,reps_refs λx b=>h x (fj _ b)⟩
theorem uniqQ_keys(l a:List (PrK×af)):(l.foldl addQ a).map (·.1)=(l.map (·.1)).foldl (λa k=>if k∈a then a else a++[k]) (a.map (·.1)):=by
 induction l generalizing a with
 |nil=>rfl
 |cons x r b=>
  rw[gM,b,bE,gM];congr 1;unfold addQ;split
  .rfl
  .rw[vU];rfl
theorem uniqK_nodup(l a:List PrK)(h:a.Nodup):(l.foldl (λa k=>if k∈a then a else a++[k]) a).Nodup:=by
 induction l generalizing a with
 |nil=>exact h
 |cons x r c=>
  rw[gM];refine c _ ?_;split
  .exact h
  .rename_i j;rw[v6];exact⟨h,by simp,λy f z b e=>by simp at b;subst b;subst e;exact j f⟩
theorem sortK_uniq{ks l:List PrK}{n:Int}(m:l.Perm ks)(o:∀k∈ks,k.1=n)(r:l.Pairwise (λx y=>ltL y.2 x.2=ak)):l=sortK ks:=by
 refine IW (le:=λa b=>leK2 a b=ah) (λa b u s j f=>?_) (r.imp λh=>by unfold leK2;rw[h];rfl) (IV (λa b c=>?_) (λa b=>?_) ks) (m.trans (CF ks leK2).symm)
 .have z:=o a (m.mem_iff.mp u);have w:=o b ((CF ks leK2).mem_iff.mp s);unfold leK2 at j f;have:=ordL.total a.2 b.2 (show ltL a.2 b.2=ak by simpa using f) (show ltL b.2 a.2=ak by simpa using j);exact Prod.ext (z.trans w.symm) this
 .unfold leK2;intro j f;have:=qz (O:=ordL) (a:=a.2) (b:=b.2) (c:=c.2) (show ltL b.2 a.2=ak by simpa using j) (show ltL c.2 b.2=ak by simpa using f);have:ltL c.2 a.2=ak:=this;rw[this];rfl
 .unfold leK2;cases h:ltL b.2 a.2 with
  |false=>rfl
  |true=>
   have:ltL a.2 b.2=ak:=by
    cases v:ltL a.2 b.2 with
    |false=>rfl
    |true=>exact absurd (ordL.trans _ _ _ h v) (by have:ltL b.2 b.2=ak:=ordL.irrefl _;show ¬ltL b.2 b.2=ah;rw[this];decide)
   rw[this];rfl
def rSetThenP(X:Cx)(r:List V->Hp->VK->Prop):List V->Hp->VK->Prop:=λc H Q=>∃(p:af) (b:List (PrK×af)),c=[.ref p]/\cz X.K H p (refs b)/\(∀q∈b,PrH H q.1 q.2)/\(uniqQ b).length<4000/\∀a,H a=ae->r [.ref a] (upd H a (setPHO X a (uniqQ b))) Q
def rSortP(X:Cx):List V->Hp->VK->Prop:=λc H Q=>∃(p:af) (a:List (PrK×af)) (n:Int),c=[.ref p]/\H p=aa (setPHO X p a)/\(∀q∈a,PrH H q.1 q.2/\q.1.1=n)/\a.length<4000 /\
  ∀l b,H l=ae->SW b a->b.Pairwise (λx y=>ltL y.1.2 x.1.2=ak)->Q (.ref l) (upd H l (.lst (refs b)))
theorem pln_sortSetV:lZ X.K (rSetThenP X (rSortP X)) sortSetVP:=λF H xs vs Q po Z S e q=>by
 unfold sortSetVP at e;split at e
 .obtain⟨v,rfl,a,us,rfl,Y,_,P⟩:=gY S;obtain⟨ks,e1,D⟩:=tK.mp e;obtain⟨rfl,cP⟩:=prs_eq e1;obtain⟨j,J,rfl,x⟩:=prs_rep P cP;split at D
  .rename_i M;cases D;have L:(uniqQ j).map (·.1)=uniqK ks:=by unfold uniqQ uniqK;rw[uniqQ_keys,J];rfl
   have s:(uniqQ j).length<4000:=by rw[<-bZ (f:=(·.1)),L];exact M.1
   have I:∀q∈j,q.1.1=(ks.headD (0,[])).1:=λq m=>M.2 _ (by rw[<-J];exact bI.mpr ⟨q,m,rfl⟩);refine⟨a,j,rfl,.inl Y,λq m=>(x q m).1,s,λb C=>⟨b,uniqQ j,(ks.headD (0,[])).1,rfl,upd_same,λq m=>⟨?_,I q (uniqQ_sub m)⟩,s,λl G r K W=>?_⟩⟩
   .obtain⟨h0,c,O,N⟩:=(x q (uniqQ_sub m)).1;exact⟨h0,c,by rw[bf (n5 O C)];exact O,by rw[bf (n5 N C)];exact N⟩
   .have B:l≠b:=by rintro rfl;rw[upd_same]at r;cases r
    have u:H l=ae:=by rw[bf B]at r;exact r
    have al:Al F F H (upd (upd H b (setPHO X b (uniqQ j))) l (.lst (refs G))):=(Al.new0 C).trans (Al.new0 r);have ez:G.map (·.1)=sortK (uniqK ks):=by rw[<-L];refine sortK_uniq (n:=(ks.headD (0,[])).1) (K.map _) (λk T=>?_) (oI.mpr W);obtain⟨y,A,rfl⟩:=bI.mp T;exact I y (uniqQ_sub A)
    refine q l F _ (λc=>c=l) al ⟨⟨_,upd_same,?_⟩,λc=>kU⟩ λc z=>?_
    .rw[<-ez];refine reps_refs λy A=>?_;exact aL.mono (λ_ h=>h) (λ_ _ _ h=>al.same.rd h) (λc o h _=>al.same c o h) _ _ (x y (uniqQ_sub (K.mem_iff.mp A))).2
    .subst z;exact⟨u,λz=>zA (Z _ z) (λo w=>by rw[u]at w;cases w),_,upd_same,trivial⟩
  .cases D
 .cases e
theorem dn_sortSetV(c:X.A.units+64<cLine)(f:X.calm=ah)(n:DA X E [e] i)(l:X.mg "sorted"=ae)(a:X.mg "set"=ae)(m:Gl X "sorted":=by rfl)(b:Gl X "set":=by rfl)(h:pY e=ak:=by rfl):DN X E (.Call (.Name "sorted" p) [.Call (.Name "set" q) [e] [] d] [] g) (dL sortSetVP i):=λF S s r H Q j o=>cn (mY (call_sortedSetP c f) m l mQ (j7 (BF (call_setLP c f) b a Nz jK (by decide) (by decide) (kn h) rfl) kA (kn rfl)) (by decide) (by decide) (kn rfl) rfl) (yd pln_sortSetV n j o)
end
end Pu
namespace L2
section
variable{X:Cx}{j:List aA}{k:Nat}{i:Pos}
def By:V->Hp->St->Prop:=λv H a=>∃p x y,v=.ref p/\H p=aa (.tup [x,y])/\a=[aa x,aa y]
variable{e:eF}{x y:Str}{f:List Str}{g:List Nat}
theorem J9{L K:Pos}(B:iQ X e x f g)(N:X.calm=ah)(A:f[1]?=aa y)(G:e.names.lookup y=aa .local):∀C l m z w,PG (bu X e f C l m z w) (.Tuple [.Name x L,.Name y K] k i) λv o H Q=>∃D,D.length=1+1/\o.length=f.length/\By v H D/\Q (D++o.drop (1+1)) H:=by
 intro C l m z w P s o H v u Q I r h;obtain⟨D,_,O,⟨p,a,b,rfl,M,rfl⟩,q⟩:=h;have T:Loc (bu X e f C l m z w).env.scope x:=B.loc.elim (λh=>.inl (vT h)) (λh=>.inr (xZ h));have S:(bu X e f C l m z w).fn x=ah\/(bu X e f C l m z w).env.scope.names.lookup x=aa .local:=B.loc.elim (λh=>.inr (vT h)) (λh=>.inl (by show(e.names.lookup x == aa .cell)=ah;rw[h];rfl));have E:(bu X e f C l m z w).N[0]?=aa x:=by show f[0]?=aa x;rw[<-List.head?_eq_getElem?];exact B.hd
 have J:Q (((o.set 0 (aa a)).set 1 (aa b))) H:=by
  match o,O,q with
  |c::d::t,_,q=>exact q
  |[c],F,_=>rw[oM (by rw[<-F];simp)]at A;cases A
  |[],F,_=>rw[oM (by rw[<-F];simp)]at A;cases A
 refine GX (X:=bu X e f C l m z w) (n:=2) N (y3 (qh (X:=bu X e f C l m z w) B.nd E T S) (y3 (qh (X:=bu X e f C l m z w) B.nd (show(bu X e f C l m z w).N[1]?=aa y from A) (.inl (vT G)) (.inr (vT G))) GQ)) rfl rfl P s o H _ u Q I r ⟨p,[a,b],rfl,cp.of M,rfl,a,[b],rfl,b,[],rfl,rfl,J⟩
end
end L2
namespace Pu
open L2
def l8{e:Type}(b:List Nat)(d:aj->R e)(x y:PV):aj->R e:=λa=>(aO (b_ a b) a).bind λc _=>(aO (if(cV c).Nodup then fR a (.inl x::.inl y::c)else ae) a).bind λf _=>im a (.inl x::.inl y::c) (d f)
def og(a:List Nat)(dt:aj->R Bool)(de:aj->R PV):List (PV×PV)->List PV->aj->R (List PV)
 |[],c,e=>.ok c e
 |x::f,c,e=>(bC (l8 a dt x.1 x.2 e)).bind λk b=>match k with
  |true=>(bC (l8 a de x.1 x.2 b)).bind λy d=>og a dt de f (c++[y]) d
  |false=>og a dt de f c b
def pX(cap:List Nat)(d:aj->R (List (PV×PV)))(dt:aj->R Bool)(de:aj->R PV):aj->R PO:=λε=>(d ε).bind λc ε1=>(og cap dt de c [] ε1).bind λb a=>.ok (.lst b) a
theorem EW{K:ay}{E:XK}{F:af->Prop}{S:Nat->af->Prop}{q:aj}{e:St}{H:Hp}{J:Type}{b:List Nat}{d:aj->R J}{x y:PV}{v w:V}{C:J->aj->(af->Prop)->(Nat->af->Prop)->Hp->Prop}(r:aJ K F S q e H) (Q:aL K H F x v) (P:aL K H F y w) (h:Ok K E e F S H (bC (l8 b d x y q)) C):∃N j,aJ K F N j (aa v::aa w::eU e b) H/\Ok K E0 (aa v::aa w::eU e b) F N H (d j) (λa _ p _ o=>∃i A,aJ K p A i e o/\Grow (U S) (U A) F p H o/\C a i p A o):=by
 unfold l8 at h;cases G:b_ q b with
 |none=>rw[G]at h;exact h.elim
 |some f=>
  rw[G]at h;simp only[bY,R.bind_ok]at h;by_cases B:(cV f).Nodup
  .rw[if_pos B]at h;cases u:fR q (.inl x::.inl y::f)with
   |none=>rw[u]at h;exact h.elim
   |some j=>
    rw[u]at h;simp only[bY,R.bind_ok]at h;obtain⟨s,Y,X⟩:=ug r G;have n:jX K e F H (.inl x::.inl y::f) (v::w::s):=⟨v,w::s,rfl,Q,w,s,rfl,P,Y⟩
    have m:aa v::aa w::eU e b=(v::w::s).map aa:=by rw[X];rfl
    have l:(cV (.inl x::.inl y::f)).Nodup:=B;refine⟨l7 (.inl x::.inl y::f) S,j,by rw[m];exact r.cal n u l,?_⟩;rw[m];cases D:d j with
    |no=>rw[D]at h;exact h.elim
    |er c I=>
     rw[D]at h;unfold im at h;dsimp only at h;by_cases g:gq (.inl x::.inl y::f) I=ah
     .rw[if_pos g]at h;exact h.elim
     .rw[if_neg g]at h;exact h.elim
    |ok a I=>
     rw[D]at h;intro p A o T W;unfold im at h;dsimp only at h;by_cases g:gq (.inl x::.inl y::f) I=ah
     .rw[if_pos g]at h;obtain⟨O,L,M,_⟩:=r.called n u l T W (λ_ z=>z) (pR g);exact⟨_,O,L,M,h p O o L M⟩
     .rw[if_neg g]at h;exact h.elim
  .rw[if_neg B]at h;exact h.elim
def Hv(J:It)(b:List (V×V))(R:Hp->Prop):Prop :=
 ∀H,R H->∀i,(∀x,b[i]?=aa x->J.go i H/\∀v a,J.yld i H v a->∃p,v=.ref p/\a p=aa (.tup [x.1,x.2])/\(a=H\/(H p=ae/\a=upd H p (.tup [x.1,x.2]))))/\(i=b.length->J.stop i H)
def sx(K:ay)(H:Hp)(F:af->Prop)(b:List (PV×PV))(a:List (V×V)):Prop:=aR K H F (b.map (·.1)) (a.map (·.1))/\aR K H F (b.map (·.2)) (a.map (·.2))
def A0(X:Cx)(E:XK)(n a:aA)(d:aj->R (List (PV×PV))):Prop:=∀F S i c H j,aJ X.K F S i c H ->
 Ok X.K E c F S H (d i) (λo _ m p g=>∀J e l,sx X.K g m o e->e.length<=bg->Hv J e l->(∀f h b,Grow (U p) (U f) m h g b->l b)->j J g)->lv X n a c H j
section
variable{X:Cx}{E:XK}{c:eF}{x y:Str}{d:List Str}{cap:List Nat}
theorem K6{elt M:aA}{tg:aA}{ifs:List aA}{j:Nat}{di:aj->R (List (PV×PV))}{dt:aj->R Bool}{de:aj->R PV}(hi:A0 X E tg M di)(ht:∀C f g n r,DF (bu X c d C f g n r) E0 ifs dt) (he:∀C f g n r,DE (bu X c d C f g n r) E0 elt de){F:af->Prop}{S:Nat->af->Prop}{ε:aj}{s:St}{H:Hp}{Q:VK} (rl:aJ X.K F S ε s H) (h:Ok X.K E s F S H (pX cap di dt de ε) (λpo _ D S' w=>∀a Sa,ff X.K w D po a Sa->(∀b,Sa b->H b=ae/\¬D b/\¬U S' b/\∃o,w b=aa o/\eV o)->Q (.ref a) w)):y8 (lv X tg M) By 1 (λs H Q=>∀C f g n r,mR (bu X c d C f g n r) ifs s H Q) (λs H Q=>∀C f g n r,gh (bu X c d C f g n r) elt s H Q) (j::cap) s H Q:=by
 refine hi F S ε s H _ rl ((Ok.bind h).imp λA ε1 T S1 H1 r1 g1 h1 J vs RR rs hz hw keep l hl=>?_);have h1:=h1.bind;have hvl:vs.length=A.length:=by have:=rs.1.len;simpa using this
 have a0:Al T T H1 (upd H1 l (.lst [])):=Al.new0 hl;have nF1:¬T l:=λz=>by obtain⟨o,q⟩:=r1.ex l z;rw[hl]at q;cases q
 have nS1:¬U S1 l:=λζ=>by obtain⟨i,z⟩:=ζ;obtain⟨_,_,o,q,_⟩:=r1.foot i l z;rw[hl]at q;cases q
 have hH:H l=ae:=pA g1 hl;refine⟨λi m K w=>m=A.length-i/\i<=A.length/\∃D S' ε' aw,aJ X.K D S' ε' s w/\Grow (U S1) (U S') T D H1 w/\w l=aa (.lst K)/\¬D l/\¬U S' l/\aR X.K w D aw K/\K.length<=i /\ Ok X.K E s T S1 H1 (og cap dt de (A.drop i) aw ε') (λys' G I S2 P=>Ok X.K E s I S2 P (R.ok (PO.lst ys') G) (λpo _ D S' w=>∀a Sa,ff X.K w D po a Sa->(∀b,Sa b->H b=ae/\¬D b/\¬U S' b/\∃o,w b=aa o/\eV o)->Q (.ref a) w)),⟨_,rfl,jO _,T,S1,ε1,[],r1.al a0,a0.grow,upd_same,nF1,nS1,rfl,aZ _,h1⟩,?_⟩;rintro i m K H0 ⟨rfl,hi,I,S2,G,aw,r0,g0,el0,nF2,nS2,B,hyl,q2⟩;have RH:=keep S2 I H0 g0;by_cases a8:i<A.length
 .obtain⟨v,hv⟩:∃v,vs[i]?=aa v:=⟨_,dP ∅⟩
  obtain⟨go,yl⟩:=(hw H0 RH i).1 v hv;refine .inr ⟨go,λv' P yy=>?_⟩;obtain⟨p,e1,e2,e3⟩:=yl v' P yy;subst e1;refine⟨[aa v.1,aa v.2],rfl,⟨p,_,_,rfl,e2,rfl⟩,?_⟩;have al:Al I I H0 P:=by
   rcases e3 with rfl|⟨e3,rfl⟩
   .exact Al.refl ..
   .exact Al.new0 e3
  have r2:=r0.al al;have g2:Grow (U S1) (U S2) T I H1 P:=g0.trans al.grow;have el:P l=aa (.lst K):=al.same _ _ el0;have L:=al.reps B;show ∀C f g n r,mR (bu X c d C f g n r) ifs (aa v.1::aa v.2::eU s cap) P _;obtain⟨Z,hx,rx⟩:=rs.1.back (show(vs.map (·.1))[i]?=aa v.1 by rw[d7,hv];rfl);obtain⟨Y,hy,ry⟩:=rs.2.back (show(vs.map (·.2))[i]?=aa v.2 by rw[d7,hv];rfl);have n:A[i].1=Z:=by rw[d7,dP a8]at hx;exact cO hx
  have ey:A[i].2=Y:=by rw[d7,dP a8]at hy;exact cO hy
  have ed:A.drop i=(Z,Y)::A.drop (i+1):=by rw[qx a8];congr 1;exact Prod.ext n ey
  rw[ed]at q2;have rx2:=rx.grow g2 r1.fit;have ry2:=ry.grow g2 r1.fit;have q3:=Ok.bindB q2 g2;obtain⟨Sb,ss,rb,okb⟩:=EW r2 rx2 ry2 q3;intro C f g n r;refine ht C f g n r I Sb ss _ P _ rb (okb.imp λb _ F3 _ H3 _ _ ζ=>?_);obtain⟨ε3,S3,r3,N,q4⟩:=ζ;obtain⟨el3,nF3,nS3⟩:=N.stay el nS2 nF2;cases b with
  |false=>exact mK ⟨_,∅,rfl,a8,F3,S3,ε3,aw,r3,g2.trans N,el3,nF3,nS3,L.grow N r2.fit,∅,q4⟩
  |true=>refine mT ?_;have q5:Ok X.K E s T S1 H1 ((bC (l8 cap de Z Y ε3)).bind λy G=>og cap dt de (A.drop (i+1)) (aw++[y]) G) _:=q4;obtain⟨Sc,sc,rc,okc⟩:=EW r3 (rx2.grow N r2.fit) (ry2.grow N r2.fit) (Ok.bindB q5 (g2.trans N));show ∀C f g n r,gh (bu X c d C f g n r) elt (aa v.1::aa v.2::eU s cap) H3 _;intro C f g n r;refine he C f g n r F3 Sc sc _ H3 _ rc (okc.imp λy _ F4 _ H4 _ _ ⟨ε4,S4,r4,g4,q6⟩ u ru=>?_);obtain⟨el4,nF4,nS4⟩:=g4.stay el3 nS3 nF3;have W:=(L.grow N r2.fit).grow g4 r3.fit;obtain⟨gl,O,r5⟩:=r4.lay (o':=.lst (K++[u])) el4 trivial nF4 nS4;have g5:=((g2.trans N).trans g4).lay (o':=.lst (K++[u])) hl;refine⟨el4,?_,_,∅,rfl,a8,F4,S4,ε4,aw++[y],r5,g5,upd_same,nF4,nS4,(W.grow gl O).app (.one (ru.grow gl O)),by simp;lia,q6⟩;lia
 .have e:i=A.length:=∅
  subst e;refine .inl ⟨(hw H0 RH _).2 hvl.symm,?_⟩;rw[zu]at q2;exact q2 I S2 H0 r0 g0 I S2 H0 r0 (Grow.refl ..) l (λb=>b=l) ⟨⟨K,el0,B⟩,λb=>kU⟩ λb z=>by subst z;exact⟨hH,nF2,nS2,_,el0,trivial⟩
def jG{b a:Type}(f:Nat->a):Nat->List b->List (a×b)
 |_,[]=>[]
 |n,x::e=>(f n,x)::jG f (n+1) e
theorem AC{e b:Type}(f:Nat->b):∀(n:Nat) (a:List e),(jG f n a).map (·.2)=a
 |_,[]=>rfl
 |n,x::a=>by show x::_=_;rw[AC f (n+1) a]
theorem HL{e b:Type}(f:Nat->b):∀(n:Nat) (a:List e) (i:Nat),(jG f n a)[i]?=(a[i]?).map λx=>(f (n+i),x)
 |_,[],i=>rfl
 |n,x::a,0=>rfl
 |n,x::a,i+1=>by show(jG f (n+1) a)[i]?=(a[i]?).map _;rw[HL f (n+1) a i,show n+1+i=n+(i+1) by lia]
theorem AH{e b:Type}(f:Nat->b):∀(n:Nat) (a:List e),(jG f n a).length=a.length
 |_,[]=>rfl
 |n,x::a=>by show(jG f (n+1) a).length+1=_;rw[AH f (n+1) a];rfl
def vg(a:List PV):List (PV×PV):=jG (λi=>PV.int (i:Nat)) 0 a
theorem Gs{K:ay}{H:Hp}{F:af->Prop}:∀(n:Nat) {b:List PV}{a:List V},aR K H F b a->aR K H F ((jG (λi=>PV.int (i:Nat)) n b).map (·.1)) ((jG (λi=>V.int i) n a).map (·.1))
 |_,[],a,h=>by cases h;rfl
 |n,x::b,a,⟨v,r,e,g,f⟩=>by subst e;exact⟨_,_,rfl,rfl,Gs (n+1) f⟩
end
section
variable{X:Cx}{E:XK}{pin:List Nat}{a:eF}{x z:Str}{N':List Str}{cap:List Nat}{d b:aA}{y:Str}{m l g n f e:Pos}{k j:Nat}{o:aj->R (List (PV×PV))}{dt:aj->R Bool}{de:aj->R PV}{c:List aA}
theorem Rw(i:Nat)(hN:X.N.Nodup)(B:iQ X a x N' (j::cap))(G:X.calm=ah)(W:A0 X E (.Tuple [.Name x m,.Name z l] k g) b o)(N:∀C p q u r,DF (bu X a N' C p q u r) E0 c dt) (Z:∀C p q u r,DE (bu X a N' C p q u r) E0 d de) (L:N'[1]?=aa z:=by rfl) (T:a.names.lookup z=aa .local:=by rfl)(P:i∉pin:=by decide) (K:X.N[i]?=aa y:=by rfl) (M:Loc X.env.scope y:=by first|exact Or.inl rfl|exact Or.inr rfl) (J:ju (.ListComp d [⟨.Tuple [.Name x m,.Name z l] k g,b,c,0⟩] a f) (aa (.Name y n)) e.line X.env=pure ah:=by rfl)(Y:X.fn y=ah\/X.env.scope.names.lookup y=aa .local:=by first|exact .inl rfl|exact .inr rfl) (O:∀x,lz b X.env x=pure x:=by intro _;rfl):DS X E pin (.Assign [.Name y n] (.ListComp d [⟨.Tuple [.Name x m,.Name z l] k g,b,c,0⟩] a f) e) (bM i (dF (pX cap o dt de))):=λF S ε v H D A h=>
 fM (FN (k:=1) (tgf:=By) (wi:=lv X (.Tuple [.Name x m,.Name z l] k g) b) (ts:=λv H Q=>∀C p q u r,mR (bu X a N' C p q u r) c v H Q) (te:=λv H Q=>∀C p q u r,gh (bu X a N' C p q u r) d v H Q) B (by simp) G vJ (J9 B G L T)
  (λC p q u r w s v H Q I h=>(h C p q u r).run w s I) (λC p q u r w s v H Q I h=>(h C p q u r).run w s I) hN K M J Y O) (K6 W N Z A (EC P A h))
end
end Pu
namespace PySem
open PySem.AutoSeq1 (wpAny_loadPart')
section
variable{b:aQ}{w:aI}{A:aX}{E:ai->ao->Prop}{s:ao}
theorem Lr{a t:af}{i:Nat}{items}{x:ai}{Q:ai->ao->Prop}(e:s.heap.IsTupleIter a t i)(l:s.heap.IsTuple t items)(j:items[i]?=aa x)(n:∀f,f.IsTupleIter a t (i+1)->kK a s.heap f->Q x {s with heap:=f}):aq (au b w) A (Da (.ref a)) Q E s:=by obtain⟨o,d,m,c⟩:=id e;obtain⟨p,h,_,q,g⟩:=l;unfold Da;refine ap (vN (name:=sW "__next__") e.typeIs Db (kP Db e.typeIs F.entry_tuple_iterator_next ?_ (F.args_tuple_iterator_next_1 _)));show aq _ _ (field (.ref a) 0 >>= _) _ _ s;refine ap (mn d c (x:=.ref t) rfl ?_);show aq _ _ (if(Value.ref t == Value.none)=ah then _ else _) _ _ s;rw[if_neg (show ¬((Value.ref t == Value.none)=ah)from eG)];show aq _ _ (field (.ref a) 1 >>= _) _ _ s;refine ap (mn d c (x:=.int i 0) rfl ?_);show aq _ _ (zo (.ref t) >>= _) _ _ s;refine ap (v5 h g ?_);simp only[kN,j];refine ap (nA d c (by simp) (aD ⟨x,rfl,aD (n _ ?_ (oJ ..))⟩));exact⟨_,nj _ d (zv (qy c _)),(Jc ..).trans m,by rw[qy c];simp[dr]⟩
theorem MG{c t:af}{i:Nat}{items}{Q:ai->ao->Prop}(j:A.handled=ae)(d:s.heap.IsTupleIter c t i)(q:s.heap.IsTuple t items)(p:items[i]?=ae)(r:∀h e,Heap.ExtBut c s.heap h->(∃o,h.get? e=aa o/\o.cls=.type "StopIteration")->E (.ref e) {s with heap:=h}):aq (au b w) A (Da (.ref c)) Q E s:=by
 obtain⟨o,f,y,g⟩:=id d;obtain⟨u,n,_,v,l⟩:=q;unfold Da;refine ap (vN (name:=sW "__next__") d.typeIs Db (kP Db d.typeIs F.entry_tuple_iterator_next ?_ (F.args_tuple_iterator_next_1 _)));show aq _ _ (field (.ref c) 0 >>= _) _ _ s;refine ap (mn f g (x:=.ref t) rfl ?_);show aq _ _ (if(Value.ref t == Value.none)=ah then _ else _) _ _ s;rw[if_neg (show ¬((Value.ref t == Value.none)=ah)from eG)];show aq _ _ (field (.ref c) 1 >>= _) _ _ s;refine ap (mn f g (x:=.int i 0) rfl ?_);show aq _ _ (zo (.ref t) >>= _) _ _ s;refine ap (v5 n l ?_);simp only[kN,p];refine ap (oN (ap (nA f g (by simp) ?_)));show aq _ _ (qv (.type "StopIteration") [] >>= _) _ _ _;refine ap ?_;simp only[qv,newTuple];refine ap (jN ?_ (by size_fits));refine ap (m:=v3 _ _) (nv (a:=Value.none) (by first|rfl | (simp only[v3];rfl)) ?_);refine jN ?_ (by size_fits);simp only[vX];refine ap (wpAny_handled ?_)
 first|rw[show A.in1.handled=ae from j]|rw[j]
 refine ap (aD (wpAny_throw ?_));exact r _ _ (((oJ ..).extBut.push _).push _) ⟨_,cW _ rfl,rfl⟩
end
theorem Nw(l:af)(a:Array ai)(n:Nat)(f:Option af)(m:Array (Option ai)):Meets (Builtin.«enumerate.__new__» ⟨[.type "enumerate",.ref l],[]⟩) (λ_ R s=>s.heap.get? l=aa {cls:=.type "tuple",dict:=f,data:=.seq a n,slots:=m} /\ R (.ok (.ret (.ref (s.heap.push {cls:=.type "tuple_iterator",data:=.fields #[.ref l,.int 0 0]}).objs.size))) {s with heap:=(s.heap.push {cls:=.type "tuple_iterator",data:=.fields #[.ref l,.int 0 0]}).push {cls:=.type "enumerate",data:=.fields #[.none,.bool ak,.ref s.heap.objs.size,dr 0,.none,.none]}}) :=
 .of_wp λi w A R s h=>by
  obtain⟨p,g,d,j,o⟩:=s;obtain⟨b,h⟩:=h;have r:=sub_enumerate;have e:Heap.IsTuple (Shared.heap ⟨p,g,d,j,o⟩) l a:=⟨_,b,rfl,n,rfl⟩
  wp_walk using oG b
  refine wpAny_stack_any λq=>aD ?_;split
  .rename_i c _ _ _ _ _;cases (c == Value.type "enumerate")
   .wp_walk using oG b,CQ e
    exact⟨_,rfl,h⟩
   .wp_walk using oG b,CQ e
    exact⟨_,rfl,h⟩
  .wp_walk using oG b,CQ e
   exact⟨_,rfl,h⟩
theorem Draws.tuple{b:aQ}{w:aI}{A:aX}(g:A.handled=ae)(c l:af)(p:l≠c)(a:Array ai):Draws b w A c [c,l] a.size (λi v=>a[i]?=aa v) (λi h=>h.IsTupleIter c l i/\h.IsTuple l a) where
 live:=λ_ _ st=>let ⟨o,ho,_⟩:=st.1;⟨o,ho⟩
 frame:=λ_ _ _ st e=>⟨let ⟨o,ho,r⟩:=st.1;⟨o,e c (by simp) o ho,r⟩,let ⟨o,ho,r⟩:=st.2;⟨o,e l (by simp) o ho,r⟩⟩
 item:=λi s Q E f st j=>by refine Lr st.1 st.2 (x:=a[i]) (by simp[f]) λn q d=>?_;exact j _ n s.toks (by simp[f]) ⟨q,st.2.extBut d.extBut p⟩ d
 done:=λs Q E st m=>MG g st.1 st.2 (by simp) m
section
variable{a:aQ}{w:aI}{A:aX}{E:ai->ao->Prop}{s:ao}
theorem MQ{l:af}{d:Array ai}{Q:ai->ao->Prop}(u:s.heap.IsTuple l d)(h:∀e,IsEnum e (s.heap.objs.size+1) s.heap.objs.size 0 .none->e.IsTupleIter s.heap.objs.size l 0->e.objs.size=s.heap.objs.size+2 -> (∀b o,s.heap.get? b=aa o->e.get? b=aa o)->Q (.ref (s.heap.objs.size+1)) {s with heap:=e}):aq (au a w) A (call (.type "enumerate") [.ref l]) Q E s:=by
 obtain⟨⟨c,m,dt,q⟩,r,j,n,i⟩:=u;replace j:c=.type "tuple":=j;replace i:dt=.seq d n:=i;subst j i;refine callType_new F.called_enumerate (by decide) (F.typeCall_enumerate_1 _) (F.newCall_enumerate_1 _) (λf=>F.args_object_init_2 f _) F.entry_enumerate_new
  (Nw l d n m q) ⟨r,?_⟩
 have g:(s.heap.push {cls:=.type "tuple_iterator",data:=.fields #[.ref l,.int 0 0]}).objs.size=s.heap.objs.size+1:=vS ..;show _/\_;rw[g];have p:IsEnum ((s.heap.push {cls:=.type "tuple_iterator",data:=.fields #[.ref l,.int 0 0]}).push {cls:=.type "enumerate",data:=.fields #[.none,.bool ak,.ref s.heap.objs.size,dr 0,.none,.none]}) (s.heap.objs.size+1) s.heap.objs.size 0 .none:=by
  have:=cW (s.heap.push {cls:=.type "tuple_iterator",data:=.fields #[.ref l,.int 0 0]})
   (o:={cls:=.type "enumerate",data:=.fields #[.none,.bool ak,.ref s.heap.objs.size,dr 0,.none,.none]}) rfl
  rw[g]at this;exact this
 refine⟨⟨_,p,rfl⟩,h _ p ⟨_,bH _ (cW _ rfl),rfl,rfl⟩ (by rw[vS,g]) λb o x=>bH _ (bH _ x)⟩
end
end PySem
namespace L2
def yk(K:ay)(a:af):It :=⟨λi H=>∃b x,cp K H a b/\b[i]?=aa x,λi H v d=>∃p x,H p=ae/\v=.ref p/\d=upd H p (.tup [.int i,x])/\∀c,cp K H a c->c[i]?=aa x,λi H=>∃b,cp K H a b/\b.length=i⟩
theorem Ng{P:aQ}{w:aI}{K:ay}{es:List aA}{k:Nat}{pos:Pos}(a e g:af)(cP:e≠g):pK P w K (.Tuple es k pos) (yk K a) [e,g] e (λi h=>(∃j,IsEnum h e g (i:Nat) j)/\h.IsTupleIter g a i) where
 mem:=by simp
 obj:=λi h ⟨⟨j,B⟩,f⟩ b m=>by
  simp only[br,gc,or_false]at m;rcases m with rfl|rfl
  .exact⟨_,B,λv z=>by cases z⟩
  .obtain⟨o,e,c,d⟩:=f;exact⟨o,e,λv z=>by rw[d]at z;cases z⟩
 keep:=λi h h' ⟨⟨j,B⟩,f⟩ k=>⟨⟨j,k e (by simp) _ B⟩,let ⟨o,ho,r⟩:=f;⟨o,k g (by simp) o ho,r⟩⟩
 item:=by
  intro X T hw hK D i ag s σ H E I Z f hg;subst T hw hK;obtain⟨⟨j,B⟩,f⟩:=f;obtain⟨xs,x,Y,hx⟩:=hg;obtain⟨l,rv,p,hz⟩:=I.tuple Y;obtain⟨u,hu,ru⟩:=rv.get hx;obtain⟨f0,f1,f2,f3,f4,f5⟩:=Z e (by simp);obtain⟨g0,g1,g2,g3,g4,g5⟩:=Z g (by simp);have G:a≠g:=λz=>by
   obtain⟨o1,y,J,_⟩:=p;obtain⟨o2,e2,c2,_⟩:=f;rw[z,e2]at y;cases y;rw[c2]at J;exact absurd J (by decide)
  have hea:e≠a:=λz=>by
   obtain⟨o1,y,J,_⟩:=p;rw[<-z,B]at y;cases y;exact absurd (show Value.type "enumerate"=Value.type "tuple" from J) (by decide)
  have a8:i<l.toArray.size:=by have:=(cA.mp hu).1;simpa using this
  refine wpAny_pyNext_enum_itemD (Draws.tuple (by show X.A.in1.handled=ae;exact I.ok.hd D) g a G l.toArray) B ⟨f,p⟩ a8 cP (by simp[cP,hea]) λL h' W T t7 ax ht hsz kp=>⟨_,rfl,?_⟩
  have eu:L=u:=by
   have C:l[i]?=aa L:=by simpa using T
   rw[hu]at C;exact(cO C).symm
  subst eu;replace ax:=ax.1;refine wpAny_letOwnedTupleGo_enum (s:={s with heap:=h',toks:=W+1}) t7 λh2 S sb=>?_;have O:s.heap.objs.size≠e:=sT (bG B);have N:h2.get? s.heap.objs.size=aa {cls:=.type "tuple",data:=.seq #[.int i W,L]}:=(sb.2 _ O).trans ht;have A:∀b o,b≠e->b≠g->s.heap.get? b=aa o->h2.get? b=aa o:=λb o C h3 q=>(sb.2 b C).trans (kp b o C h3 q);have fr:=I.fresh;have Q:∀b u,H b=aa u->b≠s.heap.objs.size:=λb u q z=>by rw[z,fr]at q;cases q
  have F:∀b o,s.heap.get? b=aa o->∃o',h2.get? b=aa o':=λb o q=>by
   by_cases C:b=e
   .subst C;exact⟨_,S⟩
   .by_cases h3:b=g
    .subst h3;obtain⟨oi,y,_⟩:=ax;exact⟨oi,(sb.2 b C).trans y⟩
    .exact⟨o,A b o C h3 q⟩
  have I2:Inv X ag σ (upd H s.heap.objs.size (.tup [.int i,x])) {s with heap:=h2,toks:=W+1}:=by
   refine I.call' (ch:=[e,g]) rfl ⟨λb o q n _ M=>A b o (λz=>M (by simp[z])) (λz=>M (by simp[z])) q,λb o q n _ M=>⟨o.slots,A b o (λz=>M (by simp[z])) (λz=>M (by simp[z])) q⟩,λb o q n _=>by rw[bf (df (bG q))];exact n,λb o q _=>F b o q,λb ys q=>by rw[bf (Q b _ q)];exact q,λb o u q=>by rw[bf (Q b _ q)];exact q,λb ps q=>by rw[bf (Q b _ q)];exact q⟩ (λb v q=>?_) I.bare λb m=>?_
   .by_cases m:b=s.heap.objs.size
    .subst m;rw[upd_same]at q;cases q;exact⟨by show 2<=bg;decide,[.int i W,L],.cons ⟨_,rfl⟩ (.cons ru .nil),⟨_,N,rfl,_,rfl⟩,_,N,rfl⟩
    .rw[bf m]at q;have ne1:∀c,H c≠ae->c≠e/\c≠g:=λc D=>⟨λz=>D (by rw[z];exact f0),λz=>D (by rw[z];exact g0)⟩
     refine(I.hok b v q).stay (λc o D r=>?_) (λc r=>by rw[bf (Q c _ r)];exact r) λc ys r=>by rw[bf (Q c _ r)];exact r
     have:=ne1 c (by rcases D with z|z <;> (first | (rw[<-z,q];simp) | (rw[z,q];simp) | (rw[z];simp)));exact A c o this.1 this.2 r
   .simp only[br,gc,or_false]at m;rcases m with rfl|rfl
    .exact⟨f3,f1,f4,f5⟩
    .exact⟨g3,g1,g4,g5⟩
  refine⟨.ref s.heap.objs.size,_,I2,rfl,⟨s.heap.objs.size,x,fr,rfl,rfl,λys hy=>by rw[I.tuple_inj hy Y];exact hx⟩,⟨⟨L,(show((i+1:Nat):Int)=(i:Int)+1 by lia) ▸ S⟩,let ⟨o,ho,r⟩:=ax;⟨o,(sb.2 g cP.symm).trans ho,r⟩⟩,λb m=>?_⟩;simp only[br,gc,or_false]at m;rcases m with rfl|rfl
  .rw[bf (dz O)];exact f0
  .obtain⟨oi,y,_⟩:=f;rw[bf (df (bG y))];exact g0
 done:=by
  intro X T hw hK D i ag s σ H E I Z f hg;subst T hw hK;obtain⟨⟨j,B⟩,f⟩:=f;obtain⟨xs,Y,hx⟩:=hg;obtain⟨l,rv,p,hz⟩:=I.tuple Y;obtain⟨g0,g1,g2,g3,g4,g5⟩:=Z g (by simp);have hl:=rv.length;have G:a≠g:=λz=>by
   obtain⟨o1,y,J,_⟩:=p;obtain⟨o2,e2,c2,_⟩:=f;rw[z,e2]at y;cases y;rw[c2]at J;exact absurd J (by decide)
  have hi:i=l.toArray.size:=by simp;lia
  rw[hi]at f;exact wpAny_pyNext_enum_endD (Draws.tuple (by show X.A.in1.handled=ae;exact I.ok.hd D) g a G l.toArray) B ⟨f,p⟩ λh' eb=>⟨rfl,I.turned (t':=s.toks) (λb o m e=>eb b o m e) g0 g1 g3 g4 g5⟩
 self:=λ_ _ _ _ _ f h=>wpAny_pyIter_enum f.1.choose_spec h
section
variable{X:Cx}{d:List aA}{k:Nat}{c:Pos}
def R_(K:ay)(h:TA):TI:=λf H R=>h f H λg e=>∃a b,g=[.ref a]/\cp K e a b/\(b.length<=bg->R (yk K a) e)
theorem LC{e:aA}{m:TA}{p i:Pos}(K:Gl X "enumerate")(J:X.mg "enumerate"=ae)(L:PA X [e] m)(F:a9 [e] X.env=[(ak,bh e X.env)]:=by rfl):PI X (.Tuple d k c) (.Call (.Name "enumerate" p) [e] [] i) (R_ X.K m):=by
 intro v s l H R I h;refine Call_ (vx I K J (show fF "enumerate"=aa (.type "enumerate") by decide +kernel) (Ix (aP (L i v s l H _ I h) λP f ⟨O,w,g,z,A⟩=>?_) F rfl));obtain⟨a,N,e,G,q⟩:=A;subst e;obtain⟨u,rfl,y⟩:=vals1 z;cases y;obtain⟨j,Q,B,D⟩:=g.tuple G;refine MQ (show f.heap.IsTuple a j.toArray from B) λr n x E C=>?_;refine wpAny_pyIter_enum (s:={f with heap:=r}) n ?_;have M:Inv X v l w {f with heap:=r}:=g.kept (t':=f.toks) C;refine⟨f.heap.objs.size+1,[f.heap.objs.size+1,f.heap.objs.size],_,_,w,rfl,M,Ng a _ _ (Nat.succ_ne_self _),⟨⟨_,n⟩,x⟩,λb o=>?_,q D⟩;simp only[br,gc,or_false]at o;rcases o with rfl|rfl
 .exact g.fpOk (tj _) (g.hok.fresh (tj _))
 .exact g.fpOk (aZ _) (g.hok.fresh (aZ _))
end
end L2
namespace Pu
open L2
section
variable{X:Cx}{E:XK}
theorem Ot{K:ay}{a:af}{b:List V}:Hv (yk K a) (jG (λi=>V.int i) 0 b) (λH=>cp K H a b):=λH h i=>
 ⟨λx d=>by
  rw[HL,kQ]at d;obtain⟨z,c,rfl⟩:=d;refine⟨⟨b,z,h,c⟩,λv m ⟨p,w,l,j,g,f⟩=>?_⟩;have:=f b h;rw[c]at this;cases this;subst j g;rw[nG];exact⟨p,rfl,upd_same,.inr ⟨l,rfl⟩⟩,λe=>⟨b,h,by rw[e,AH]⟩⟩
def uU(b:aj->R (List PV)):aj->R (List (PV×PV)):=λε=>(b ε).bind λx ε1=>match x with
 |[.tup a]=>.ok (vg a) ε1
 |_=>.no
theorem P0{C:List aA}{k:Nat}{q p d:Pos}{a:aA}{l:aj->R (List PV)}(z:X.mg "enumerate"=ae)(b:DA X E [a] l)(A:Gl X "enumerate":=by rfl)(y:a9 [a] X.env=[(ak,bh a X.env)]:=by rfl):A0 X E (.Tuple C k q) (.Call (.Name "enumerate" p) [a] [] d) (uU l):=λF S n f H J u h=>Bx.mk λD s I=>by
 refine LC A z jK y D s f H J I (b F S n f H _ u ((Ok.bind h).imp λo m L G K j N e M w=>?_));split at e
 .rename_i o;obtain⟨v,rfl,r⟩:=gY w;obtain⟨a,c,rfl,b,g⟩:=r;refine⟨a,c,rfl,cp.of b,λx=>e L G K j (Grow.refl ..) (yk X.K a) (jG (λi=>V.int i) 0 c) (λH=>cp X.K H a c) ⟨Gs 0 g,by rw[AC];unfold vg;rw[AC];exact g⟩ (by rw[AH];exact x) Ot λO Q P B=>cp.of (B.imm j.fit b id)⟩
 .exact e.elim
end
abbrev eT:=List aF
def q_(a:List (eT×PV))(k:eT)(v:PV):List (eT×PV):=if(a.any λb=>decide (b.1=k))=ah then a.map (λb=>if b.1=k then(b.1,v)else b)else a++[(k,v)]
def pt:List PV->Option eT
 |[]=>aa []
 |x::a=>(jl x).bind λk=>(pt a).map (k::·)
def oA:PV->Option eT
 |.tup a=>pt a
 |_=>ae
section
variable{K:ay}{F:af->Prop}{S:Nat->af->Prop}{ε:aj}{f:St}{H:Hp}{i:Nat}{c:List (eT×PV)}{d:List (eT×V)}{a:af}
theorem FJ:∀{g:List PV}{b:List V}{k:eT},aR K H F g b->pt g=aa k->b=k.map kV
 |[],b,k,r,e=>by cases r;cases e;rfl
 |x::g,b,k,⟨v,r,l,j,h⟩,e=>by simp only[pt,tK,kQ]at e;obtain⟨o,n,ks,m,rfl⟩:=e;rw[l,sE j n,FJ h m];rfl
theorem D5{x:PV}{v:V}{k:eT}(r:aL K H F x v)(e:oA x=aa k):∃b,v=.ref b/\H b=aa (.tup (k.map kV)):=by
 cases x <;> simp[oA]at e;obtain⟨b,j,rfl,h,g⟩:=r;exact⟨b,rfl,by rw[h,FJ g e]⟩
theorem jq.len(h:jq K H F c d):d.length=c.length:=by
 unfold jq at h
 induction h with
 |nil=>rfl
 |cons _ _ b=>simp[b]
theorem jq.any(h:jq K H F c d)(k:eT):(c.any λb=>decide (b.1=k))=d.any λb=>decide (b.1=k):=by
 unfold jq at h
 induction h with
 |nil=>rfl
 |cons r _ e=>rw[oH,oH,e,r.1]
theorem jq.put(h:jq K H F c d)(k:eT){x:PV}{v:V}(r:aL K H F x v):jq K H F (q_ c k x) (fQ d k v):=by
 unfold q_ fQ;rw[h.any k];split
 .rename_i b;clear b;unfold jq at h ⊢
  induction h with
  |nil=>exact .nil
  |@cons p q ps qs r1 _ ih=>
   refine .cons ?_ ih;dsimp only;by_cases e:p.1=k
   .rw[if_pos e,if_pos (by rw[<-r1.1];exact e)];exact⟨r1.1,r⟩
   .rw[if_neg e,if_neg (by rw[<-r1.1];exact e)];exact r1
 .exact zi h ⟨rfl,r⟩
theorem aJ.dtAt(r:aJ K F S ε f H)(e:ε[i]?=aa (.own (.dT c))):∃a d,f[i]?=aa (aa (.ref a))/\H a=aa (.dT d)/\jq K H F c d/\S i a/\∀b,S i b->b=a:=by obtain⟨a,n,⟨j,m,l⟩,g⟩:=r.own i _ e;exact⟨a,j,n,m,l,(g a).mpr rfl,λb h=>(g b).mp h⟩
end
def jV(ε:aj)(i:Nat):Option (List (eT×PV)):=match ε[i]? with
 |some (.own (.dT a))=>aa a
 |_=>ae
theorem uR{b:aj}{i:Nat}{a:List (eT×PV)}(h:jV b i=aa a):b[i]?=aa (.own (.dT a)):=by
 unfold jV at h;split at h
 .cases h;assumption
 .cases h
section
variable{X:Cx}{E:XK}{pin:List Nat}{e b c:aA}{de db f:aj->R PV}{d:Pos}
def xN(i:Nat)(db de:aj->R PV):aj->R aM:=λj=>(de j).bind λy g=>(aO (jV g i) g).bind λ_ g=>(db g).bind λk a=>(aO (jV a i) a).bind λh a=>(aO (oA k) a).bind λk a=>if h.length<bv then .ok .next (a.set i (.own (.dT (q_ h k y))))else .no
theorem Sz(i:Nat){y:Str}{C j:Pos}(hu:X.A.units+64<cLine)(hb:DE X E b db)(he:DE X E e de)(hN:X.N[i]?=aa y:=by rfl)(eI:eC X.env.scope y:=by first|exact Or.inl rfl|exact Or.inr (Or.inl rfl)|exact Or.inr (Or.inr rfl))(hd:(y==("__debug__":Str))=ak:=by decide) (bD:(y==("__classdict__":Str))=ak:=by decide) (Z:ju e (aa (.Subscript (.Name y C) b j)) d.line X.env=pure ak:=by rfl):DS X E pin (.Assign [.Subscript (.Name y C) b j] e d) (xN i db de):=λF S K o H D P h=>by
 refine fM (EG ∅ (fA hN eI hd bD) bF bF Z) (he F S K o H _ P (h.bindE.imp λy l F1 S1 H1 r g1 q v N=>?_));cases B:jV l i with
 |none=>rw[B]at q;exact q.elim
 |some I=>
  rw[B]at q;simp only[bY,R.bind_ok]at q;obtain⟨a,L,z,ha0,_⟩:=r.dtAt (uR B);refine⟨.ref a,z,hb F1 S1 l o H1 _ r (q.bindE.imp λk p F2 S2 H2 G g2 g u O=>?_)⟩;cases n:jV p i with
  |none=>rw[n]at g;exact g.elim
  |some w=>
   rw[n]at g;simp only[bY,R.bind_ok]at g;obtain⟨a',M,m,ha,J,_⟩:=G.dtAt (uR n);rw[z]at m;cases m;cases A:oA k with
   |none=>rw[A]at g;exact g.elim
   |some s=>
    rw[A]at g;simp only[bY,R.bind_ok]at g;split at g
    .rename_i hl;obtain⟨bb,rfl,T⟩:=D5 O A;have eJ:=J.put s (N.grow g2 r.fit);obtain⟨Q,g3⟩:=G.updO (po':=.dT (q_ w s y)) (o':=.dT (fQ M s v)) (uR n) rfl z trivial λH' Y m2 x Sa W=>⟨⟨_,x,eJ.mono Y⟩,W⟩
     exact⟨a,_,rfl,za.t ha T (by rw[J.len];exact gK hl kw),g F2 S2 o _ Q g3 (jh.refl _ _)⟩
    .exact g.elim
def yN:aj->R PO:=λε=>.ok (.dT []) ε
theorem Me:DN X E (.Dict [] [] d) yN:=λF S l i H Q g h=>cn Rt λp a=>by
 have al:Al F F H (upd H p (.dT [])):=Al.new0 a;refine h F S _ (g.al al) al.grow p (λb=>b=p) ⟨⟨[],upd_same,.nil⟩,λb=>kU⟩ λb z=>?_;subst z;refine⟨a,λz=>?_,λ⟨j,z⟩=>?_,_,upd_same,trivial⟩
 .obtain⟨o,q⟩:=g.ex b z;rw[a]at q;cases q
 .obtain⟨_,_,o,q,_⟩:=g.foot j b z;rw[a]at q;cases q
end
end Pu
namespace L2
def k_(h:aB)(d:af)(a:Array tf)(b:Nat):Prop:=∃o,h.get? d=aa o/\o.ExactDict/\o.data=.dict a b
section
variable{P:aQ}{w:aI}{A:aX}{E:ai->ao->Prop}{s:ao}{d it:af}{es:Array tf}{ep i:Nat}
theorem k_.ty(r:k_ s.heap d es ep):s.TypeIs (.ref d) "dict":=let ⟨o,ho,hc,_⟩:=r;⟨o,ho,hc.1⟩
theorem k_.at{h h':aB}(r:k_ h d es ep)(k:∀o,h.get? d=aa o->h'.get? d=aa o):k_ h' d es ep:=let ⟨o,ho,z⟩:=r;⟨o,k o ho,z⟩
theorem k_.lt{h:aB}(r:k_ h d es ep):d<h.objs.size:=let ⟨o,ho,_⟩:=r;bG ho
theorem Fw{Q:ai->ao->Prop}(e:(d == jL)=ak)(r:k_ s.heap d es ep)(q:Q (.ref s.heap.objs.size) {s with heap:=s.heap.push {cls:=.type "dict_keyiterator",data:=.fields #[.ref d,.int 0 0,.int es.size 0,.int ep 0]}}):aq (au P w) A (nc (.ref d)) Q E s:=by have a:=r.ty;obtain⟨o,c,f,b⟩:=id r;refine I_ a F.slot_dict_iter (kP F.slot_dict_iter a F.entry_dict_iter ?_ (F.args_dict_iter_1 _));unfold Builtin.«dict.__iter__» Builtin.Dict.dictSlotNone;refine ap (ap (wpAny_notOrdered_dict a ?_));refine aD (show aq _ _ (Builtin.Dict.showsAll d >>= _) _ _ s from ?_);unfold Builtin.Dict.showsAll;rw[if_neg (by rw[e];exact eG)];refine ap (aD (ap (Jo c b (ap (wpAny_dictEpoch c b ?_)))));refine ap (jN (aD ⟨_,rfl,"dict_keyiterator",_,⟨_,cW _ rfl,rfl⟩,F.slot_dict_keyiterator_next.lookup,?_⟩));simpa[dr]using q
theorem DP{Q:Option ai->ao->Prop}(a:s.heap.IsKeyIter it d i es.size ep)(r:k_ s.heap d es ep)(l:i<es.size)(q:∀f,f.IsKeyIter it d (i+1) es.size ep->kK it s.heap f->Q (aa es[i].key) {s with heap:=f}):aq (au P w) A (mi (.ref it)) Q E s:=by
 obtain⟨m,c,e,b⟩:=id a;obtain⟨n,h,o,g⟩:=id r;unfold mi;refine ap (CK (vN (name:=sW "__next__") a.typeIs Dc (kP Dc a.typeIs SX ?_ (SY _))));refine ap (aD (ap (ap ?_)))
 first|refine ap (Dd a.typeIs (aD ?_))|refine ap (De a.typeIs (aD ?_))
 refine ap (wpAny_fieldsOf c b ?_);simp only[show Builtin.Dict_items.ownsTuple "dict_keyiterator"=ak by decide,eZ,if_false];show aq _ _ (if(Value.ref d == Value.none)=ah then _ else _) _ _ s;rw[if_neg (show ¬((Value.ref d == Value.none)=ah)from eG)];refine ap (aD (ap (Jo h g ?_)));rw[if_neg (by simp)];refine ap (aD (ap (wpAny_dictEpoch h g ?_)));rw[if_neg (by simp)];refine aD ?_;simp only[show ¬((i:Int)<0)from by lia,if_false,kN,jc l];refine ap ?_
 first|refine ap (Dd a.typeIs (aD ?_))|refine ap (De a.typeIs (aD ?_))
 refine ap (wpAny_isOneOf_keyiter a.typeIs ?_);refine show aq _ _ (lE (.ref it) 1 (dr ((i:Int)+1)) >>= _) _ _ s from ap (nA c b (by simp) ?_)
 have j:(s.heap.update it (nE (·.setIfInBounds 1 (dr ((i:Int)+1))))).IsKeyIter it d (i+1) es.size ep :=⟨_,nj _ c (zv (qy b _)),(Jc ..).trans e,by rw[qy b];simp[dr]⟩
 refine ap (ke (ap (wpAny_isOneOf_keyiter (s:={s with heap:=s.heap.update it (nE (·.setIfInBounds 1 (dr ((i:Int)+1))))}) j.typeIs ?_)));exact show aq _ _ (pure es[i].key) _ _ _ from aD (aD ⟨_,rfl,aD (q _ j (oJ ..))⟩)
theorem HH{Q:Option ai->ao->Prop}(n:A.handled=ae)(c:s.heap.IsKeyIter it d i es.size ep)(r:k_ s.heap d es ep)(l:es.size<=i)(q:∀j,Heap.ExtBut it s.heap j->Q ae {s with heap:=j}):aq (au P w) A (mi (.ref it)) Q E s:=by
 obtain⟨p,h,o,g⟩:=id c;obtain⟨u,f,v,e⟩:=id r;unfold mi;refine ap (CK (vN (name:=sW "__next__") c.typeIs Dc (kP Dc c.typeIs SX ?_ (SY _))));refine ap (aD (ap (ap ?_)))
 first|refine ap (Dd c.typeIs (aD ?_))|refine ap (De c.typeIs (aD ?_))
 refine ap (wpAny_fieldsOf h g ?_);simp only[show Builtin.Dict_items.ownsTuple "dict_keyiterator"=ak by decide,eZ,if_false];show aq _ _ (if(Value.ref d == Value.none)=ah then _ else _) _ _ s;rw[if_neg (show ¬((Value.ref d == Value.none)=ah)from eG)];refine ap (aD (ap (Jo f e ?_)));rw[if_neg (by simp)];refine ap (aD (ap (wpAny_dictEpoch f e ?_)));rw[if_neg (by simp)];refine aD ?_;simp only[show ¬((i:Int)<0)from by lia,if_false,kN,Array.getElem?_eq_none l];refine ap ?_
 first|refine ap (Dd c.typeIs (aD ?_))|refine ap (De c.typeIs (aD ?_))
 refine show aq _ _ (lE (.ref it) 0 .none >>= _) _ _ s from ap (nA h g (by simp) ?_)
 refine show aq _ _ (qv (.type "StopIteration") [] >>= _) _ _ _ from ap ?_
 simp only[qv,newTuple];refine ap (jN ?_ (by size_fits));refine ap (m:=v3 _ _) (nv (a:=Value.none) (by first|rfl | (simp only[v3];rfl)) ?_);refine jN ?_ (by size_fits);simp only[vX];refine ap (wpAny_handled ?_);rw[show A.in1.handled=ae from n];refine ap (aD (wpAny_throw ?_));refine ap (CL (T:="StopIteration") (b:=ah) ⟨_,cW _ rfl,rfl⟩ isSubtype_stop ?_);exact aD (q _ (((oJ ..).extBut.push _).push _))
theorem Mw(p:A.handled=ae)(I d:af)(q:d≠I)(es:Array tf)(ep:Nat):Walks P w A I [I,d] [I] es.size (λi v=>∃e,es[i]?=aa e/\v=e.key) (λi h=>h.IsKeyIter I d i es.size ep/\k_ h d es ep) where
 sub:=λb c=>by simp at c;simp[c]
 frame:=λ_ _ _ a l=>⟨a.1.at λo e=>l I (by simp) o e,a.2.at λo e=>l d (by simp) o e⟩
 item:=λi s Q E m a f=>DP a.1 a.2 m λg r j=>f _ g s.toks ⟨es[i],by simp[m],rfl⟩ ⟨r,a.2.at λo e=>by rw[j.2 d q];exact e⟩ λb o c e=>j.extBut b o (λh=>c (by simp[h])) e
 done:=λs Q E a f=>HH p a.1 a.2 (aZ _) λg n=>f g s.toks λb o c e=>n b o (λh=>c (by simp[h])) e
 self:=λ_ _ _ _ a f=>wpAny_pyIter_keyiter a.1 f
theorem Po(c:(d == jL)=ak):PySem.W.KdlSrc P w "dict" d d es.size (λi v=>∃e,es[i]?=aa e/\v=e.key) (λh=>k_ h d es ep) where
 type:=λ_ a=>a.ty
 there:=λ_ a=>⟨a.lt,a.lt⟩
 keep:=λ_ _ a f=>a.at λo e=>f d (.inl rfl) o e
 notList:=by decide
 notTuple:=by decide
 hint:=λ_ _ _ _ a b=>PySem.W.kdl_hint_dict a.ty b
 iter:=λ_ _ g a=>⟨_,_,(λ_ _ b=>Fw c a b),Mw g _ d (df a.lt) es ep,⟨⟨_,cW _ rfl,rfl,rfl⟩,a.at λo e=>bH _ e⟩⟩
end
section
variable{X:Cx}{f:List (af×Obj)}{d:St}{H:Hp}{s:ao}{a:af}{c:List (List aF×V)}
theorem GA{P:aQ}{w:aI}{h:aB}{o:Obj}(z:h.get? a=aa o)(k:cc P w H h a (.dT c)):(a == jL)=ak/\∃j,k_ h a j (rf o)/\j.size=c.length/\(c.map (·.1)).Nodup /\
  ∀(i:Nat) (e:tf),j[i]?=aa e->∃p b,c[i]?=aa p/\e.key=.ref b/\H b=aa (.tup (p.1.map kV)):=by
 obtain⟨u,G,F,g,M,j,K,E,v,D,y,A⟩:=k;rw[z]at E;cases E;have L:rf o=K:=by unfold rf;rw[D]
 have B:=oE g;refine⟨G,j,⟨o,z,v,by rw[L];exact D⟩,by rw[<-fk,y,bZ];exact B.symm,?_,λi e C=>?_⟩
 .have:c.map (·.1)=F.map (·.1):=by
   clear y A B u
   induction g with
   |nil=>rfl
   |cons r _ n=>simp[n,r.1]
  rw[this];exact A
 .rw[<-oO,y,d7]at C;obtain⟨x,v,rfl⟩:=kQ.mp C;have:∀{l:List (List aF×V)}{m:List (List aF×af×ai)} (i:Nat) (x:List aF×af×ai),fi (λ(p:List aF×V) (q:List aF×af×ai)=>p.1=q.1/\H q.2.1=aa (.tup (p.1.map kV))/\RelV p.2 q.2.2) l m->m[i]?=aa x->∃p,l[i]?=aa p/\H x.2.1=aa (.tup (p.1.map kV)):=by
   intro l m i x r
   induction r generalizing i with
   |nil=>intro e;simp at e
   |cons r _ n=>
    intro e;cases i with
    |zero=>simp at e;subst e;exact⟨_,rfl,r.2.1⟩
    |succ i=>exact n i (by simpa using e)
  obtain⟨p,I,J⟩:=this i x g v;exact⟨p,x.2.1,I,rfl,J⟩
theorem Inv.freezeT(I:Inv X f d H s)(e:H a=aa (.dT c)):∃o,s.heap.get? a=aa o/\Inv X f d (upd H a (.frz o (.dT c))) s:=by
 have k:cc X.prog X.w H s.heap a (.dT c):=I.hok a _ e;obtain⟨z,i,h,b,o,es,ep,g,r⟩:=id k;refine⟨o,g,I.recast e (λ_ q=>by cases q) (λo u q=>?_) (λ_ q=>by cases q) (λ_ q=>by cases q) ⟨g,z,i,h,Paired.mapP b λp q z=>⟨z.1,?_,z.2.2⟩,o,es,ep,g,r⟩⟩
 .have:=I.base.frzs a o u q;rw[e]at this;cases this
 .rw[bf (xo z.2.1 e (λz=>nomatch z))];exact z.2.1
theorem Inv.thawT{o:Obj}(I:Inv X f d H s)(e:H a=aa (.frz o (.dT c)))(i:∀o u,X.H₀ a≠aa (.frz o u)):Inv X f d (upd H a (.dT c)) s:=by
 obtain⟨j,z,h,g,b,r⟩:=(show cc X.prog X.w H s.heap a (.frz o (.dT c))from I.hok a _ e)
 refine I.recast e (λ_ q=>by cases q) i (λ_ q=>by cases q) (λ_ q=>by cases q) ⟨z,h,g,Paired.mapP b λp q z=>⟨z.1,?_,z.2.2⟩,r⟩;rw[bf (xo z.2.1 e (λz=>nomatch z))];exact z.2.1
end
def gs(o:Obj):List af:=match o.data with
 |.dict es _=>es.toList.map λe=>match e.key with
  |.ref b=>b
  |_=>0
 |_=>[]
def sr(a:af)(o:Obj)(c:List (List aF×V)):It :=⟨λi H=>H a=aa (.frz o (.dT c))/\i<c.length,λi H x d=>d=H/\∃b,(gs o)[i]?=aa b/\x=.ref b,λi H=>H a=aa (.frz o (.dT c))/\c.length<=i⟩
def zU(H:Hp)(a:List (List aF×V))(bs:List af):Prop:=bs.length=a.length/\∀(i:Nat) (b:af),bs[i]?=aa b->∃p,a[i]?=aa p/\H b=aa (.tup (p.1.map kV))
theorem Au{P:aQ}{w:aI}{H:Hp}{h:aB}{a:af}{o:Obj}{d:List (List aF×V)}(q:h.get? a=aa o)(k:cc P w H h a (.dT d)):(a == jL)=ak/\∃es,k_ h a es (rf o)/\es.size=d.length/\(d.map (·.1)).Nodup/\zU H d (gs o)/\∀(i:Nat) (e:tf),es[i]?=aa e->∃b,(gs o)[i]?=aa b/\e.key=.ref b:=by
 obtain⟨A,es,rd,n,z,m⟩:=GA q k;have j:gs o=es.toList.map λe=>match e.key with
  |.ref b=>b
  |_=>0:=by
  obtain⟨C,y,_,B⟩:=rd;rw[q]at y;cases y;unfold gs;rw[B]
 have l:∀(i:Nat) (e:tf),es[i]?=aa e->∃b,(gs o)[i]?=aa b/\e.key=.ref b:=λi e f=>by obtain⟨p,b,x,g,v⟩:=m i e f;refine⟨b,?_,g⟩;rw[j,d7,oO,f,oK,g]
 refine⟨A,es,rd,n,z,⟨by rw[j,bZ,fk];exact n,λi b r=>?_⟩,l⟩;have f:i<es.size:=by have:=(cA.mp r).1;rw[j,bZ,fk]at this;exact this
 obtain⟨p,c,x,g,v⟩:=m i es[i] (by simp[f]);obtain⟨D,u,s⟩:=l i es[i] (by simp[f]);rw[r]at u;cases u;rw[g]at s;cases s;exact⟨p,x,v⟩
theorem RD{P:aQ}{w:aI}{K:ay}{Q:aA}(a l:af)(o:Obj)(g:List (List aF×V)):pK P w K Q (sr a o g) [l] l (λi h=>h.IsKeyIter l a i g.length (rf o)) where
 mem:=by simp
 obj:=λi h f b j=>by
  have e:b=l:=by simpa using j
  subst e;obtain⟨o,e,c,d⟩:=f;exact⟨o,e,λv z=>by rw[d]at z;cases z⟩
 keep:=λi h p f k=>f.at λo e=>k l (by simp) o e
 item:=by
  intro X A q B N i O s L H E I n f y;subst A q B;obtain⟨r,M⟩:=y;obtain⟨u,x⟩:=(show cc X.prog X.w H s.heap a (.frz o (.dT g))from I.hok a _ r)
  obtain⟨T,G,rd,m,_,_,S⟩:=Au u x;obtain⟨b,j,Y⟩:=S i G[i] (by simp[m,M]);obtain⟨F,D,f2,f3,f4,C⟩:=n l (by simp);rw[<-m]at f;refine DP f rd ∅ λp J sb=>?_;have Z:Inv X O L H {s with heap:=p}:=I.turned (t':=s.toks) (λb o j e=>(sb.2 b j).trans e) F D f3 f4 C;rw[m]at J;obtain⟨oi,e,c,d⟩:=id J;exact⟨G[i].key,rfl,uk (s:={s with heap:=p}) e c d (by decide) ⟨.ref b,H,Z,by rw[Y];rfl,⟨rfl,b,j,rfl⟩,J,λb j=>(n b j).1⟩⟩
 done:=by
  intro X A q B N i O s L H E I n f y;subst A q B;obtain⟨r,M⟩:=y;obtain⟨u,x⟩:=(show cc X.prog X.w H s.heap a (.frz o (.dT g))from I.hok a _ r)
  obtain⟨T,G,rd,m,_⟩:=GA u x;obtain⟨F,D,f2,f3,f4,C⟩:=n l (by simp);rw[<-m]at f;exact HH (I.ok.hd N) f rd ∅ λp W=>⟨rfl,I.turned (t':=s.toks) (λb o j e=>W b o j e) F D f3 f4 C⟩
 self:=λ_ _ _ _ _ f h=>wpAny_pyIter_keyiter f h
section
variable{X:Cx}{c:aA}
def Kh(f:TE):TI:=λe H R=>f e H λx d=>∃a b,x=.ref a/\d a=aa (.dT b)/\∀o,(b.map (·.1)).Nodup->b.length<=bg->zU d b (gs o)->R (sr a o b) (upd d a (.frz o (.dT b)))
theorem MJ{d:aA}{m:TE}(C:PE X d m):PI X c d (Kh m):=by
 intro E s p H R I h;refine aP (C E s p H _ I h) λv g ζ=>?_;obtain⟨x,n,l,r,u⟩:=ζ;obtain⟨a,f,e,i,q⟩:=u;subst e;cases r;obtain⟨o,B,j⟩:=l.freezeT i;obtain⟨A,F,rd,z,w,y,_⟩:=Au (o:=o) B (show cc X.prog X.w n g.heap a (.dT f)from l.hok a _ i);refine Fw A rd ?_;rw[z];refine⟨g.heap.objs.size,[g.heap.objs.size],_,_,_,rfl,j.kept (t':=g.toks) λb o e=>bH _ e,RD a _ o f,⟨_,cW _ rfl,rfl,rfl⟩,λb D=>?_,q o w (show cc X.prog X.w n g.heap a (.dT f)from l.hok a _ i).1 y⟩;have e:b=g.heap.objs.size:=by simpa using D
 subst e;exact j.fpOk (aZ _) (j.hok.fresh (aZ _))
theorem JZ{a:af}{o:Obj}{d:List (List aF×V)}(l:(gs o).length=d.length):Walk (sr a o d) ((gs o).map .ref) (λH=>H a=aa (.frz o (.dT d))):=λH h i=>
 ⟨λx f=>by
  rw[d7]at f;obtain⟨b,j,rfl⟩:=kQ.mp f;have g:=(cA.mp j).1;exact⟨⟨h,∅⟩,λy n z=>⟨z.1,by obtain⟨m,e,rfl⟩:=z.2;rw[j]at e;cases e;rfl⟩⟩,λg=>⟨h,by rw[g,bZ];lia⟩⟩
def uB(a:af)(b:List (List aF×V))(D:j5):St->Hp->Prop:=λd e=>∃o,e a=aa (.frz o (.dT b))/\D.nx d (upd e a (.dT b))
def K4(j:Nat)(g:TG)(p:TS):TS:=λD h H=>∃a b,h[j]?=aa (aa (.ref a))/\H a=aa (.dT b)/\∀o,(b.map (·.1)).Nodup->b.length<=bg->zU H b (gs o) ->
 ∃W:Nat->Nat->St->Hp->Prop,(∃m,W 0 m h (upd H a (.frz o (.dT b))))/\∀i m d e,W i m d e ->
 ((sr a o b).stop i e/\uB a b D d e)\/((sr a o b).go i e/\∃N:St->Hp->Prop,(∀d e,N d e->∃l,l<m/\W (i+1) l d e)/\∀x n,(sr a o b).yld i e x n->g x d n λf q=>p ⟨N,λ_ _=>False,uB a b D,N⟩ f q)
theorem Qy{b:List bn}{g:TG}{r:TS}{n p:Pos}{y:Str}(j:Nat)(K:vL (au X.prog X.w) X.A X.env X.xe)(P:X.calm=ah)(S:X.N[j]?=aa y)(G:eC X.env.scope y)(O:(y==("__debug__":Str))=ak)(Z:(y==("__classdict__":Str))=ak)(N:PG X c g)(Q:kG X b r)(J:∀x,lz (.Name y p) X.env x=pure x:=by intro _;rfl):PS X (.For c (.Name y p) b [] n) (K4 j g r):=by
 intro ag s B H D I h;obtain⟨a,l,T,v,h⟩:=h;have L:∀o u,X.H₀ a≠aa (.frz o u):=λo u z=>by
  have:=I.base.frzs a o u z;rw[v]at this;cases this
 refine aP (FX K P (MJ (fA S G O Z)) N Q J ag s B H ⟨uB a l D,λ_ _=>False,λ_ _=>False,λ_ _=>False⟩ I ⟨.ref a,T,a,l,rfl,v,λo E F M=>?_⟩) λf s' q=>?_
 .obtain⟨W,C,e⟩:=h o E F M;refine⟨W,C,λi m d A w=>?_⟩;exact e i m d A w
 .cases f with
  |next=>obtain⟨d,A,I',o,Y,q⟩:=q;exact⟨d,_,I'.thawT Y L,q⟩
  |brk=>obtain⟨_,_,_,q⟩:=q;exact q.elim
  |cont=>obtain⟨_,_,_,q⟩:=q;exact q.elim
  |ret u=>obtain⟨_,_,_,_,_,q⟩:=q;exact q.elim
end
section
variable{X:Cx}
def Oj(e d:TE):TE:=λc H Q=>∀p,H p=ae->yb [(e,d)] c (upd H p (.dT [])) λf a=>∃x y,f=[(x,y)]/\a p=aa (.dT [])/\∃b k,x=.ref b/\a b=aa (.tup (k.map kV))/\Q (.ref p) (upd a p (.dT [(k,y)]))
theorem KW{k v:aA}{l j:TE}{f:Pos}(hu:X.A.units+1<cLine)(K:PE X k l)(F:PE X v j):PE X (.Dict [aa k] [v] f) (Oj l j):=by
 intro Y s p H Q I q;have J:=I.hok.fresh (aZ s.heap.objs.size);have Z:=I.laid (a:=s.heap.objs.size) (o:=.dT []) (h':=s.heap.push {cls:=.type "dict",data:=.dict #[]}) (t':=s.toks) (λ_ _ q=>bH _ q) (aZ _) (Ga s.heap I.big);refine wpAny_Dict_any rfl rfl (by simp) (by simp) (aP ((Gc K F Hw) Y _ p _ (λm c=>∃x y,m=[(x,y)]/\c s.heap.objs.size=aa (.dT [])/\∃b k,x=.ref b/\c b=aa (.tup (k.map kV))/\Q (.ref s.heap.objs.size) (upd c s.heap.objs.size (.dT [(k,y)]))) Z ?_) ?_)
 .exact q _ J
 .rintro ws s2 ⟨m,c,i,d,x,y,rfl,e,b,k,rfl,g,C⟩;cases d with
  |cons B r=>
   cases r;rename_i E;obtain⟨D,p2⟩:=E;obtain⟨A,w⟩:=B;cases (show D=Value.ref b from A);unfold storeAll;rw[List.forIn_cons];obtain⟨z,L,xs,u,W⟩:=Eh i.hok e;cases u;refine ap (ap (wpAny_dictSet_heap (hsz:=by size_fits) (show(sR (gF X.prog X.w)).room X.A from ?_) (sw i.hok g) W λh' h G=>aD ?_))
   .show X.A.units<cLine;lia
   .dsimp only;rw[List.forIn_nil];refine aD ⟨.ref s.heap.objs.size,_,?_,rfl,C⟩;obtain⟨q,S,T,n,P,O,N,_,M⟩:=h;refine xt i (by rw[e];exact True.intro) G ⟨q,n⟩ ⟨by size_fits,L,_,.cons ⟨rfl,?_,w⟩ .nil,q,S,T,n,P,O,N,M⟩;rw[bf (xo g e (λz=>nomatch z))];exact g
end
open Mx
section
variable{P:aQ}{w:aI}{A:aX}{E:ai->ao->Prop}{s:ao}
def FtIs(h:aB)(c:List Str)(v:ai):Prop:=c≠[]/\∃(a:af) (b:Array ai),v=.ref a/\IsTup h a b/\d9 b.toList c
theorem FtIs.inj{h:aB}{k b:List Str}{v:ai}(x:FtIs h k v)(y:FtIs h b v):k=b:=by
 obtain⟨_,a,d,rfl,g,f⟩:=x;obtain⟨_,l,c,e,i,j⟩:=y;cases e;obtain rfl:=tup_uniq g i;exact strs_uniq f j
theorem FtIs.keep{h c:aB}{k:List Str}{v:ai}(x:FtIs h k v)(g:∀b o,h.get? b=aa o->c.get? b=aa o):FtIs c k v:=by obtain⟨n,a,its,rfl,f,d⟩:=x;exact⟨n,a,its,rfl,tup_kept f λb o e _=>g b o e,d⟩
def ftKey(h:aB):KeyKind where
 toKeyOrd:=ordL
 keyOf:=λv=>open Classical in if z:∃a,FtIs h a v then aa (cpsL z.choose)else ae
 dflt:=([]:List Tx)
theorem ftKey_of{h:aB}{a:List Str}{v:ai}(x:FtIs h a v):(ftKey h).keyOf v=aa (cpsL a):=by
 have z:∃a,FtIs h a v:=⟨a,x⟩
 show(open Classical in if z:∃a,FtIs h a v then aa (cpsL z.choose)else ae)=_;rw[dif_pos z,z.choose_spec.inj x]
theorem ftKey_some{h:aB}{k:List Tx}{v:ai}(x:(ftKey h).keyOf v=aa k):∃a,FtIs h a v/\cpsL a=k:=by
 by_cases z:∃a,FtIs h a v
 .obtain⟨a,z⟩:=z;rw[ftKey_of z]at x;exact⟨a,z,cO x⟩
 .have:(ftKey h).keyOf v=ae:=dif_neg z;rw[this]at x;cases x
theorem lex_strs{b:Bool}{Q:Bool->ao->Prop}{m g:List ai}{j f:List Str}(i:Nat){d:Bool}(q:d9 m j)(o:d9 g f)(l:d=decide (j.length<f.length))(h:Q (ltL (cpsL j) (cpsL f)) s):PySem.W.KatLex P w A b d Q (m.zip g) i s:=by
 induction q generalizing g f i d with
 |nil=>
  rw[List.zip_nil_left];refine PySem.W.kat_nil ?_;rw[l];refine cast (congrArg (λz=>Q z s) ?_) h;cases o with
  |nil=>exact(decide_eq_false (by simp[cpsL])).trans (decide_eq_false (by simp)).symm
  |cons c u n=>exact(decide_eq_true (by simp[cpsL])).trans (decide_eq_true (by simp)).symm
 |cons a t r p=>
  cases o with
  |nil=>rw[List.zip_nil_right];refine PySem.W.kat_nil ?_;rw[l];refine cast (congrArg (λz=>Q z s) ?_) h;exact(decide_eq_false (by simp[cpsL])).trans (decide_eq_false (by simp)).symm
  |cons c u n=>
   rw[zH];refine Jm (IJ a t c u _ _ _ _ ?_);have h:=ltL_cons .. ▸ h;by_cases e:a=c
   .subst e;rw[if_pos rfl]at h;rw[beq_self_eq_true];exact PySem.W.kat_yes (p (i+1) n (by rw[l];simp) h)
   .rw[if_neg (λz=>e (cps_inj z))]at h;rw[beq_false_of_ne e];refine PySem.W.kat_no ?_;cases (b&&i == 0)with
    |true=>exact oneLt_str h
    |false=>exact PySem.W.kat_one _ _ (PyProof.Rows.lt_str h)
theorem ftLt{h i:aB}(I:A.units+8<cLine)(k:∀b o,h.get? b=aa o->i.get? b=aa o):hG (ftKey h) (tuples' ah) P w A {s with heap:=i}:=λE x y a b Q z v q=>by obtain⟨F,p,rfl⟩:=ftKey_some z;obtain⟨J,n,rfl⟩:=ftKey_some v;obtain⟨_,L,l,rfl,B,g⟩:=p.keep k;obtain⟨_,K,f,rfl,D,c⟩:=n.keep k;obtain⟨o,r,_,m,u⟩:=B;obtain⟨G,C,_,H,j⟩:=D;refine PySem.W.kat_lt r u C j (lex_strs 0 g c ?_ q);have e:=strs_len g;have d:=strs_len c;rw[fk]at e d;rw[e,d]
theorem ft_kind{b:List ai}{Q:gw->ao->Prop}(c:∀v∈b,∃d,FtIs s.heap d v)(H:2<=b.length)(h:Q (tuples' ah) s):aq (au P w) A (keyKind' b.toArray) Q E s:=by
 have g:∀(b:List ai),(∀v∈b,∃d,FtIs s.heap d v)->∃fs,SV s.heap b fs/\fs.length=b.length/\∀f∈fs,∃z t,f=Value.str z t:=by
  intro b
  induction b with
  |nil=>intro _;exact⟨[],PySem.W.KatTups.nil,rfl,λf e=>by simp at e⟩
  |cons v b r=>
   intro c;obtain⟨fs,n,q,j⟩:=r λu x=>c u (fj _ x);obtain⟨d,F,a,i,rfl,⟨o,y,D,m,C⟩,p⟩:=c v f8;cases d with
   |nil=>exact absurd rfl F
   |cons z G=>
    generalize B:i.toList=l at p;cases p with
    |cons _ t p=>
     refine⟨.str z t::fs,PySem.W.KatTups.cons y D C (by rw[<-oO,B];rfl) n,by simp[q],λf e=>?_⟩;rcases br.mp e with rfl|e
     .exact⟨z,t,rfl⟩
     .exact j f e
 obtain⟨fs,n,q,j⟩:=g b c;refine PySem.W.kat_kind (T:=.type "str") n ∅ (λv c=>?_) (by decide) ?_
 .obtain⟨z,t,rfl⟩:=j v c;exact .now
 .have:(Value.type "str" != Value.type "tuple")=ah:=by decide
  rw[this];exact h
end
end L2
namespace Pu
open L2
section
variable{K:ay}{F g:af->Prop}{S:Nat->af->Prop}{f:aj}{d:St}{H b:Hp}
mutual
theorem aL.mono2(n:∀a i,Rd H a (.lst i)->Rd b a (.lst i))(m:∀a i,H a=aa (.tup i)->b a=aa (.tup i))(l:∀a c,H a=aa (pJ a c)->b a=aa (pJ a c)):∀(x:PV) (v:V),aL K H F x v->aL K b F x v
 |.non,_,h=>h
 |.bl _,_,h=>h
 |.int _,_,h=>h
 |.str _,_,h=>h
 |.raw _,_,h=>h
 |.exc _,_,⟨a,e,h⟩=>⟨a,e,l a _ h⟩
 |.tup i,_,⟨a,j,e,p,o⟩=>⟨a,j,e,m a _ p,aR.mono2 n m l i j o⟩
 |.lst i,_,⟨a,j,e,p,q,o⟩=>⟨a,j,e,n a j p,q,aR.mono2 n m l i j o⟩
theorem aR.mono2(n:∀a i,Rd H a (.lst i)->Rd b a (.lst i))(m:∀a i,H a=aa (.tup i)->b a=aa (.tup i))(l:∀a c,H a=aa (pJ a c)->b a=aa (pJ a c)):∀(i:List PV) (j:List V),aR K H F i j->aR K b F i j
 |[],_,h=>h
 |x::i,_,⟨v,r,e,p,o⟩=>⟨v,r,e,aL.mono2 n m l x v p,aR.mono2 n m l i r o⟩
end
def pW(p:HO):Prop:=(∃a,p=.dT a)\/∃o a,p=.frz o (.dT a)
theorem pW.lst{p:HO}(h:pW p)(a:List V):p≠.lst a/\(∀o,p≠.frz o (.lst a))/\p≠.tup a:=by
 rcases h with⟨ws,rfl⟩|⟨o,ws,rfl⟩
 .exact⟨λz=>(nomatch z),λ_ z=>(nomatch z),λz=>(nomatch z)⟩
 .exact⟨λz=>(nomatch z),λ_ z=>(by cases z),λz=>(nomatch z)⟩
section
variable{a:af}{p q:HO}
theorem yL(f:H a=aa p)(d:pW p):∀b c,Rd H b (.lst c)->Rd (upd H a q) b (.lst c):=λb c h=>by
 have e:b≠a:=by
  rintro rfl;rcases h with h|⟨o,h⟩ <;> rw[f]at h
  .exact(d.lst c).1 (cO h)
  .exact(d.lst c).2.1 o (cO h)
 rcases h with h|⟨o,h⟩
 .exact .inl (by rw[bf e];exact h)
 .exact .inr ⟨o,by rw[bf e];exact h⟩
theorem vm(e:H a=aa p)(d:pW p):∀b c,H b=aa (.tup c)->upd H a q b=aa (.tup c):=λb c h=>by rw[bf (by rintro rfl;rw[e]at h;exact(d.lst c).2.2 (cO h))];exact h
theorem xw(e:H a=aa p)(d:pW p):∀b c,H b=aa (pJ b c)->upd H a q b=aa (pJ b c):=λb c h=>by
 rw[bf (by
  rintro rfl;rw[e]at h;cases h;rcases d with⟨ws,z⟩|⟨o,ws,z⟩ <;> cases z)];exact h
theorem aJ.recast(r:aJ K F S ε σ H)(f:H a=aa p)(d:pW p)(u:¬U S a):aJ K F S ε σ (L2.upd H a q):=by
 have n:∀x v,aL K H F x v->aL K (L2.upd H a q) F x v:=aL.mono2 (yL f d) (vm f d) (xw f d);have l:∀x v,aR K H F x v->aR K (L2.upd H a q) F x v:=aR.mono2 (yL f d) (vm f d) (xw f d);have s:∀i b,S i b->b≠a:=λi b z e=>u ⟨i,e ▸ z⟩;refine⟨r.len,λb z=>?_,λi pv e=>let ⟨v,j,g⟩:=r.val i pv e;⟨v,j,n _ _ g⟩,λi po e=>let ⟨b,j,g⟩:=r.own i po e;⟨b,j,g.mono n l λc o z w=>by rw[bf (s i c z)];exact w⟩,λi b z=>?_,r.dist⟩
 .obtain⟨o,h⟩:=r.ex b z;by_cases m:b=a
  .subst m;exact⟨_,upd_same⟩
  .exact⟨o,by rw[bf m];exact h⟩
 .obtain⟨j,g,o,A,y⟩:=r.foot i b z;exact⟨j,g,o,by rw[bf (s i b z)];exact A,y⟩
end
theorem aJ.putOwn{j:Nat}{po:PO}{a:af}{Sa:af->Prop}(r:aJ K F S ε σ H)(d:j<ε.length)(e:σ[j]?=aa (aa (.ref a)))(h:ff K H F po a Sa)(f:vC F S H Sa):aJ K F (λk b=>(S k b/\k≠j)\/(k=j/\Sa b)) (ε.set j (.own po)) σ H:=by
 have:=r.setOwn d h f;have g:σ.set j (aa (.ref a))=σ:=by
  apply qw;intro k;by_cases c:j=k
  .subst c;rw[dY (by rw[<-r.len];exact d),e]
  .rw[cS c]
 rw[g]at this;exact this
end
def D_:aF->PV
 |.inl i=>.int i
 |.inr z=>.str z.cps.toList
def lw(k:eT):PV:=.tup (k.map D_)
def qZ:aF->Bool
 |.inl _=>ah
 |.inr z=>decide (z.cps.toList.length<=bv)
def zR(a:List (eT×PV)):Bool:=a.all λp=>p.1.all qZ
section
variable{K:ay}{F:af->Prop}{H:Hp}
theorem z7:∀{k:eT},k.all qZ=ah->aR K H F (k.map D_) (k.map kV)
 |[],_=>rfl
 |.inl i::k,h=>⟨_,_,rfl,rfl,z7 (by simpa[qZ]using h)⟩
 |.inr z::k,h=>by rw[qt,h_]at h;exact⟨_,_,rfl,⟨by show V.str z=V.str (tS z.cps.toList);rw[pU],of_decide_eq_true h.1⟩,z7 h.2⟩
theorem Qw{k:eT}{b:af}(h:k.all qZ=ah)(a:H b=aa (.tup (k.map kV))):aL K H F (lw k) (.ref b):=⟨b,_,rfl,a,z7 h⟩
theorem jq.keys{a:List (eT×PV)}{b:List (eT×V)}(h:jq K H F a b):b.map (·.1)=a.map (·.1):=by
 unfold jq at h
 induction h with
 |nil=>rfl
 |cons r _ c=>rw[bE,bE,c,r.1]
end
section
variable{X:Cx}{E:XK}{pin:List Nat}{e b c:aA}{de db l:aj->R PV}{d:Pos}
def vp(db l:aj->R PV):aj->R PO:=λε=>(db ε).bind λk ε1=>(l ε1).bind λy a=>(aO (oA k) a).bind λf a=>.ok (.dT [(f,y)]) a
theorem LQ(hu:X.A.units+64<cLine)(hb:DE X E b db)(hc:DE X E c l):DN X E (.Dict [aa b] [c] d) (vp db l):=λF S N I H Q s h=>by
 refine cn (KW ∅ bF bF) λp g=>?_;have al:Al F F H (upd H p (.dT [])):=Al.new0 g;have Z:¬F p:=λz=>by obtain⟨o,q⟩:=s.ex p z;rw[g]at q;cases q
 have Y:¬U S p:=λζ=>by obtain⟨i,z⟩:=ζ;obtain⟨_,_,o,q,_⟩:=s.foot i p z;rw[g]at q;cases q
 have B:Grow (U S) (U S) F F H (upd H p (.dT [])):=al.grow;refine hb F S N I _ _ (s.al al) ((Ok.bindB h B).imp λk m F1 S1 H1 J D h1 u O=>?_);obtain⟨e1,x,v⟩:=D.stay (upd_same:upd H p (.dT []) p=aa (.dT [])) Y Z;refine hc F1 S1 m I H1 _ J ((Ok.bindB h1 (B.trans D)).imp λy M L S2 H2 T C j w n=>?_);obtain⟨K,f,a⟩:=C.stay e1 v x;cases G:oA k with
 |none=>rw[G]at j;exact j.elim
 |some A=>rw[G]at j;simp only[bY,R.bind_ok]at j;have r:aL X.K H2 L k u:=O.grow C J.fit;obtain⟨bb,rfl,W⟩:=D5 r G;refine⟨_,_,rfl,K,bb,A,rfl,W,?_⟩;obtain⟨gl,fit,P⟩:=T.lay (o':=.dT [(A,w)]) K trivial f a;have g3:=((B.trans D).trans C).lay (o':=.dT [(A,w)]) g;refine j L S2 _ P g3 p (λb=>b=p) ⟨⟨_,upd_same,.cons ⟨rfl,n.grow gl fit⟩ .nil⟩,λb=>kU⟩ λb z=>?_;subst z;exact⟨g,f,a,_,upd_same,trivial⟩
def vn(i j:Nat):aj->R aM:=λε=>match ε[j]? with
 |some (.own a)=>if i<ε.length then .ok .next ((ε.set j .none).set i (.own a))else .no
 |_=>.no
theorem LN(i j:Nat){x y:Str}{p m:Pos}(I:X.N.Nodup)(w:i∉pin:=by decide)(B:X.N[i]?=aa x:=by rfl)(s:Loc X.env.scope x:=by first|exact Or.inl rfl|exact Or.inr rfl)(v:ju (.Name y m) (aa (.Name x p)) d.line X.env=pure ak:=by rfl)(C:X.fn x=ah\/X.env.scope.names.lookup x=aa .local:=by first|exact .inl rfl|exact .inr rfl) (g:X.N[j]?=aa y:=by rfl) (u:eC X.env.scope y:=by first|exact Or.inl rfl|exact Or.inr (Or.inl rfl)|exact Or.inr (Or.inr rfl))(G:(y==("__debug__":Str))=ak:=by decide) (L:(y==("__classdict__":Str))=ak:=by decide):DS X E pin (.Assign [.Name x p] (.Name y m) d) (vn i j):=λF S N M H D f h=>by
 unfold vn at h;split at h
 .rename_i O K;split at h
  .rename_i A;obtain⟨a,J,r⟩:=f.own j _ K;refine fM (B1 I B s (fA g u G L) v C) ⟨_,J,?_⟩;refine h F _ _ H ((f.drop j).setOwn (Sa:=S j) (by rw[gb];exact A) r λb z=>⟨(f.foot j b z).2.1,λ⟨k,q,n⟩=>n (f.dist k j b q z),(f.foot j b z).2.2⟩) ⟨λ_ z=>z,λ_ _ z _=>z,λ_ o z=>⟨o,z⟩,λ_ z=>.inl z,λb ⟨k,z⟩=>?_⟩ (jh.set w);rcases z with z|⟨_,z⟩
   .exact .inl ⟨k,z.1.1⟩
   .exact .inl ⟨j,z⟩
  .exact h.elim
 .exact h.elim
def rR(i j:Nat)(db:aj->R aM):aj->R aM:=λg=>(aO (jV g j) g).bind λa g=>if zR a=ah then match fE i db (a.map λp=>lw p.1) (g.set j .none)with
 |.ok .next f=>if j<f.length then .ok .next (f.set j (.own (.dT a)))else .no
 |_=>.no else .no
theorem LS(i j:Nat){x y:Str}{p yp:Pos}{M:List bn}{db:aj->R aM}(wy:vL (au X.prog X.w) X.A X.env X.xe)(hc:X.calm=ah)(hN:X.N.Nodup)(hb:jg X E (j::pin) M db)(hp:i∉j::pin:=by decide) (hx:X.N[i]?=aa x:=by rfl) (hl:Loc X.env.scope x:=by first|exact Or.inl rfl|exact Or.inr rfl) (hs:∀x,lz (.Name y yp) X.env x=pure x:=by intro _;rfl)(hf:X.fn x=ah\/X.env.scope.names.lookup x=aa .local:=by first|exact .inl rfl|exact .inr rfl) (hNj:X.N[j]?=aa y:=by rfl) (hv:eC X.env.scope y:=by first|exact Or.inl rfl|exact Or.inr (Or.inl rfl)|exact Or.inr (Or.inr rfl))(hd:(y==("__debug__":Str))=ak:=by decide) (bD:(y==("__classdict__":Str))=ak:=by decide):DS X E pin (.For (.Name x p) (.Name y yp) M [] d) (rR i j db):=λF S ε σ H D rl h=>by
 unfold rR at h;cases e0:jV ε j with
 |none=>rw[e0]at h;exact h.elim
 |some L=>
  rw[e0]at h;simp only[bY,R.bind_ok]at h;split at h;rotate_left
  .exact h.elim
  rename_i hok;split at h;rotate_left
  .exact h.elim
  rename_i P JC;split at h;rotate_left
  .exact h.elim
  rename_i hje;obtain⟨a,A,ea,Y,hk,mC,hSo⟩:=rl.dtAt (uR e0);have lQ:=hk.keys;refine fM (Qy j wy hc hNj hv hd bD (qh hN hx hl hf) qb hs) ⟨a,A,ea,Y,λo nd hz lU=>?_⟩;have t8:¬U (λk b=>S k b/\k≠j) a:=λ⟨k,z1,z2⟩=>z2 (rl.dist k j a z1 mC);have hFa:¬F a:=(rl.foot j a mC).2.1;have r0:aJ X.K F (λk b=>S k b/\k≠j) (ε.set j .none) σ (upd H a (.frz o (.dT A))):=(rl.drop j).recast Y (.inl ⟨_,rfl⟩) t8;have r:∀(n:Nat) (b:af),(gs o)[n]?=aa b->∃k,(L.map λp=>lw p.1)[n]?=aa (lw k)/\k.all qZ=ah/\H b=aa (.tup (k.map kV)):=λn b hb=>by
   obtain⟨p,h1,h2⟩:=lU.2 n b hb;have h3:(A.map (·.1))[n]?=aa p.1:=by rw[d7,h1];rfl
   rw[lQ,d7]at h3;obtain⟨q,h4,h5⟩:=kQ.mp h3;refine⟨p.1,by rw[d7,h4,oK,h5],?_,h2⟩;have:=ki.mp hok q (jw h4);rw[<-h5];exact this
  have bp:(gs o).length=(L.map λp=>lw p.1).length:=by rw[bZ,lU.1,hk.len]
  generalize hxs:(L.map λp=>lw p.1)=xs at JC r bp;have fin:∀B I m u,aJ X.K B I P m u->Grow (U λk b=>S k b/\k≠j) (U I) F B (upd H a (.frz o (.dT A))) u->jh (j::pin) σ m->uB a A D m u:=by
   intro B I m u r' C N;have Z:u a=aa (.frz o (.dT A)):=C.keep a _ upd_same t8;obtain⟨_,nF',nS'⟩:=C.stay (upd_same:upd H a (.frz o (.dT A)) a=_) t8 hFa;have dt:pW (.frz o (.dT A)):=.inr ⟨_,_,rfl⟩;have W:pW (.dT A):=.inl ⟨_,rfl⟩;have T:aJ X.K B I P m (upd u a (.dT A)):=r'.recast Z dt nS';have km:jq X.K (upd u a (.dT A)) B L A:=hk.mono λx v z=>aL.mono2 (yL Z dt) (vm Z dt) (xw Z dt) _ _ ((aL.mono2 (yL Y W) (vm Y W) (xw Y W) _ _ z:aL X.K (upd H a (.frz o (.dT A))) F x v).grow C r0.fit);have r4:=T.putOwn (po:=.dT L) (Sa:=λb=>b=a) hje (by rw[N j (by simp)];exact ea) ⟨⟨A,upd_same,km⟩,λ_=>kU⟩ λb z=>by subst z;exact⟨nF',nS',_,upd_same,trivial⟩
   refine⟨o,Z,h B _ m _ r4 ⟨C.fro,λb o' e n=>?_,λb o' e=>?_,λb z=>?_,λb ⟨k,z⟩=>?_⟩ λk hk=>N k (by simp[hk])⟩
   .have J:b≠a:=by rintro rfl;exact n ⟨j,mC⟩
    rw[bf J];exact C.keep b o' (by rw[bf J];exact e) λ⟨k,z⟩=>n ⟨k,z.1⟩
   .by_cases J:b=a
    .subst J;exact⟨_,upd_same⟩
    .obtain⟨o2,q⟩:=C.there b o' (by rw[bf J];exact e);exact⟨o2,by rw[bf J];exact q⟩
   .rcases C.fnew b z with w|w|⟨k,w⟩
    .exact .inl w
    .refine .inr (.inl ?_);by_cases J:b=a
     .subst J;rw[upd_same]at w;cases w
     .rw[bf J]at w;exact w
    .exact .inr (.inr ⟨k,w.1⟩)
   .rcases z with z|⟨_,z⟩
    .rcases C.onew b ⟨k,z.1⟩with⟨k',w⟩|w
     .exact .inl ⟨k',w.1⟩
     .by_cases J:b=a
      .subst J;rw[upd_same]at w;cases w
      .rw[bf J]at w;exact .inr w
    .subst z;exact .inl ⟨j,mC⟩
  refine GN (D:=⟨uB a A D,λ_ _=>False,λ_ _=>False,λ_ _=>False⟩) (JZ lU.1) (λn m u=>∃B I G,aJ X.K B I G m u/\Grow (U λk b=>S k b/\k≠j) (U I) F B (upd H a (.frz o (.dT A))) u/\jh (j::pin) σ m/\fE i db (xs.drop n) G=.ok .next P) ⟨F,_,_,r0,Grow.refl ..,jh.refl _ _,JC⟩ (λn m u _ ⟨B,I,G,_,g,_⟩=>g.keep a _ upd_same t8) ?_ ?_
  .rintro n v m u t9 ⟨B,I,G,r',C,N,q⟩;rw[d7]at t9;obtain⟨bb,qO,rfl⟩:=kQ.mp t9;obtain⟨k,jC,eJ,fJ⟩:=r n bb qO;have hn:n<xs.length:=(cA.mp jC).1;have ed:xs.drop n=lw k::xs.drop (n+1):=by rw[qx hn];congr 1;exact(cA.mp jC).2
   rw[ed]at q;have jD:upd H a (.frz o (.dT A)) bb=aa (.tup (k.map kV)):=vm Y (.inl ⟨_,rfl⟩) _ _ fJ;have lR:u bb=aa (.tup (k.map kV)):=C.imm r0.fit jD (λz=>z);have r2:=r'.set (i:=i) (Qw (K:=X.K) (F:=B) eJ lR);have gl:Grow (U I) (U λj b=>I j b/\j≠i) B B u u:=Grow.less i;show pP X M _ (m.set i (aa (.ref bb))) u;refine hb B _ _ _ u _ r2 ?_;unfold fE at q;cases e:db (G.set i (.val (lw k)))with
   |no=>rw[e]at q;cases q
   |er c Q=>rw[e]at q;cases q
   |ok f Q=>
    rw[e]at q;cases f with
    |next=>exact λF3 S3 O H3 T g3 p3=>⟨F3,S3,Q,T,(C.trans gl).trans g3,(N.trans (jh.set hp)).trans p3,q⟩
    |cont=>exact λF3 S3 O H3 T g3 p3=>⟨F3,S3,Q,T,(C.trans gl).trans g3,(N.trans (jh.set hp)).trans p3,q⟩
    |brk=>
     cases q;exact λF3 S3 O H3 T g3 p3=>fin F3 S3 O H3 T ((C.trans gl).trans g3) ((N.trans (jh.set hp)).trans p3)
    |ret s=>cases q
  .rintro m u ⟨B,I,G,r',C,N,q⟩;rw[bZ,bp,zu]at q;cases q;exact fin B I m u r' C N
end
end Pu
namespace L2
open Mx
def iA(a b:List Tx):Bool:=!ltL b a
def cf(ks:List (List Tx)):List (List Tx):=ks.mergeSort iA
theorem Sd(a b:List Tx):(iA a b||iA b a)=ah:=by
 unfold iA;cases h:ltL b a with
 |false=>rfl
 |true=>
  have:ltL a b=ak:=by
   cases c:ltL a b with
   |false=>rfl
   |true=>exact absurd (ordL.trans _ _ _ h c) (by have:ltL b b=ak:=ordL.irrefl _;show ¬ltL b b=ah;rw[this];decide)
  rw[this];rfl
theorem K_(a b c:List Tx)(e:iA a b=ah)(d:iA b c=ah):iA a c=ah:=by unfold iA at *;have:ltL c a=ak:=qz (O:=ordL) (a:=a) (b:=b) (c:=c) (show ltL b a=ak by simpa using e) (show ltL c b=ak by simpa using d);rw[this];rfl
theorem Q7(a b:List Tx)(d:iA a b=ah)(c:iA b a=ah):a=b:=by unfold iA at *;exact ordL.total a b (show ltL a b=ak by simpa using c) (show ltL b a=ak by simpa using d)
theorem mU(ks:List (List Tx)):(cf ks).Perm ks:=CF ks iA
theorem HV(ks:List (List Tx)):(cf ks).Pairwise (λa b=>iA a b=ah):=IV K_ Sd ks
theorem P4{ks c:List (List Tx)}(e:c.Perm ks)(d:c.Pairwise (λx y=>iA x y=ah)):c=cf ks :=IW (le:=λa b=>iA a b=ah) (λa b _ _=>Q7 a b) d (HV ks) (e.trans (mU ks).symm)
def eR(k:List Tx):List aF:=k.map λx=>Sum.inr (tS x)
theorem KP(k:List Tx):(eR k).map kV=cN k:=by simp[eR,cN,kV,tV]
section
variable{X:Cx}
theorem P3{P:aQ}{w:aI}{H:Hp}{h:aB}{k:List Tx}{a:af}(ok:dw P w H h)(e:H a=aa (.tup (cN k)))(c:k≠[]):FtIs h (k.map tS) (.ref a):=by
 obtain⟨_,b,r,p,_⟩:=(show cc P w H h a (.tup (cN k))from ok a _ e)
 exact⟨λz=>c (by simpa using z),a,b.toArray,rfl,p,by have:=xf r;rw[zm];exact this⟩
theorem K8(hu:X.A.units+64<cLine)(hc:X.calm=ah):gg X (.builtin "sorted") (λxs H Q=>∃(d:af) (a:List (List aF×V)) (ks:List (List Tx)),xs=[.ref d]/\H d=aa (.dT a)/\a.map (·.1)=ks.map eR/\(∀k∈ks,k≠[])/\ks.length<=1000000 /\ ∀l (S:List (List Tx×af)),H l=ae->(∀q∈S,H q.2=aa (.tup (cN q.1)))->S.map (·.1)=cf ks->Q (.ref l) (upd H l (.lst (S.map λq=>.ref q.2)))):=by
 intro ag s σ H xs us Q I r h;obtain⟨d,a,ks,rfl,hd,hk,cP,Y,q⟩:=h;obtain⟨u,rfl,ru⟩:=vals1 r;cases ru;obtain⟨o,ho,_⟩:=I.freezeT hd;obtain⟨hs,es,rd,W,nd,D,tY⟩:=Au ho (show cc X.prog X.w H s.heap d (.dT a)from I.hok d _ hd);have A:a.length=ks.length:=by have:=congrArg ng hk;simpa using this
 have t_:∀x∈ks.zip (gs o),H x.2=aa (.tup (cN x.1)):=λx c=>by
  obtain⟨n,F⟩:=zx c;rw[zt]at F;obtain⟨p,h1,f⟩:=D.2 n _ F.2;have M:(a.map (·.1))[n]?=aa p.1:=by rw[d7,h1];rfl
  rw[hk,d7,F.1,oK]at M;rw[f,<-cO M,KP]
 refine sorted_genK ∅ (PySem.W.kdu_collect (Po (P:=X.prog) (w:=X.w) (es:=es) (ep:=rf o) hs) (xg (I.ok.hd hc)) rd (by rw[W,A];exact kJ (rT Y)) λm J O k L=>?_);have I1:Inv X ag σ H {s with heap:=m,toks:=J}:=I.kept (t':=J) k;have jy:O.toList=(ks.zip (gs o)).map λx=>Value.ref x.2:=by
  have G:(ks.zip (gs o)).map (λx=>Value.ref x.2)=(gs o).map Value.ref:=by rw[<-Jn (l₁:=ks) (l₂:=gs o) (by rw[D.1,A];exact aZ _),cB];simp[Jn,D.1,A]
  rw[G];apply qw;intro n;by_cases F:n<es.size
  .have t4:n<O.size:=by rw[L.1];exact F
   obtain⟨e,h1,f⟩:=L.2 n O[n] (by rw[jc]);obtain⟨b,M,h4⟩:=tY n e h1;rw[d7,M,oO,jc t4,f,h4];rfl
  .rw[oM (by rw[fk,L.1];lia),oM (by rw[bZ,D.1,<-W];lia)]
 have g:∀(f:aB),(∀b o,m.get? b=aa o->f.get? b=aa o)->∀x∈ks.zip (gs o),FtIs f (x.1.map tS) (.ref x.2):=λf i x c=>(P3 I1.hok (t_ x c) (cP _ (ze c).1)).keep i;have C:∀v∈O.toList,∃x∈ks.zip (gs o),v=.ref x.2:=λv j=>by rw[jy]at j;obtain⟨x,c,rfl⟩:=bI.mp j;exact⟨x,c,rfl⟩
 refine⟨ftKey m,tuples' ah,λv j=>?_,by rw[fk,L.1,W,A];exact Y,λA' f hA i k6=>⟨ftLt hA i,λ{E Q} qq=>ft_kind (s:={s with heap:=f,toks:=J}) (λv j=>?_) k6 qq⟩,λf T e i ig b1 b2=>?_⟩
 .obtain⟨x,c,rfl⟩:=C v j;exact⟨_,ftKey_of (g m (λ_ _ z=>z) x c)⟩
 .obtain⟨x,c,rfl⟩:=C v j;exact⟨_,g f i x c⟩
 .rw[jy]at b1;obtain⟨B,G,N⟩:=perm_mapE b1;have K:∀q∈B,q∈ks.zip (gs o):=λq Z=>N.mem_iff.mp Z;refine⟨.ref _,_,I1.laid (t':=J) (o:=.lst (B.map λq=>.ref q.2)) i (aZ _) ⟨?_,T.toList,e,?_,by rw[CH];exact ig⟩,rfl,q _ B I1.fresh (λq Z=>t_ q (K q Z)) ?_⟩
  .rw[bZ,N.length_eq,List.length_zip];have:=rT Y;lia
  .rw[G];clear G N K
   induction B with
   |nil=>exact .nil
   |cons q B ih=>exact .cons rfl ih
  .refine P4 ?_ ?_
   .have:=N.map (·.1);rwa[List.map_fst_zip (by rw[D.1,A];exact aZ _)]at this
   .rw[G]at b2;refine oI.mpr ((oI.mp b2).imp_of_mem λ{x y} c hy hh=>?_);have:=hh _ _ (ftKey_of (g m (λ_ _ z=>z) x (K x c))) (ftKey_of (g m (λ_ _ z=>z) y (K y hy)));have:ltL (cpsL (y.1.map tS)) (cpsL (x.1.map tS))=ak:=this;simp only[cpsL,cB,lD,jJ,zJ]at this;unfold iA;rw[this];rfl
end
end L2
namespace Pu
open L2
def pf:eT->Option (List Tx)
 |[]=>aa []
 |.inr z::r=>(pf r).map (z.cps.toList::·)
 |_=>ae
def qa:List (eT×PV)->Option (List (List Tx))
 |[]=>aa []
 | (k,_)::r=>(pf k).bind λt=>(qa r).map (t::·)
theorem EA:∀{k:eT}{t:List Tx},pf k=aa t->k=eR t
 |[],t,h=>by cases h;rfl
 |.inr z::r,t,h=>by simp only[pf,kQ]at h;obtain⟨l,a,rfl⟩:=h;rw[EA a];simp[eR,pU]
 |.inl _::_,_,h=>by cases h
theorem Go:∀{a:List (eT×PV)}{ks:List (List Tx)},qa a=aa ks->a.map (·.1)=ks.map eR
 |[],ks,h=>by cases h;rfl
 | (k,_)::r,ks,h=>by simp only[qa,tK,kQ]at h;obtain⟨t,c,d,b,rfl⟩:=h;rw[bE,bE,Go b,EA c]
theorem AF(t:List Tx):pf (eR t)=aa t:=by
 induction t with
 |nil=>rfl
 |cons x t a=>show pf (Sum.inr (tS x)::eR t)=_;simp[pf,a,jJ]
theorem Px(ks:List (List Tx))(v:PV):qa (ks.map λk=>(eR k,v))=aa ks:=by
 induction ks with
 |nil=>rfl
 |cons k ks a=>simp[qa,a,AF]
def n6(k:List Tx):PV:=.tup (am k)
def xK(a:List (eT×PV)):Option PO:=(qa a).bind λks=>if ks.length<=1000000/\(∀k∈ks,k≠[]/\∀x∈k,x.length<=bv)then aa (.lst ((cf ks).map n6))else ae
def vd(i:Nat):aj->R PO:=λε=>(aO (jV ε i) ε).bind λa ε=>aO (xK a) ε
theorem RY{X:Cx}{E:XK}(i:Nat){y:Str}{D p n:Pos}(K:X.A.units+64<cLine)(O:X.calm=ah)(L:X.mg "sorted"=ae)(T:X.N[i]?=aa y:=by rfl)(eI:eC X.env.scope y:=by first|exact Or.inl rfl|exact Or.inr (Or.inl rfl)|exact Or.inr (Or.inr rfl))(N:(y==("__debug__":Str))=ak:=by decide) (bD:(y==("__classdict__":Str))=ak:=by decide) (M:Gl X "sorted":=by rfl):DN X E (.Call (.Name "sorted" p) [.Name y D] [] n) (vd i):=λF S C σ H Q f h=>by
 unfold vd at h;cases A:jV C i with
 |none=>rw[A]at h;exact h.elim
 |some r=>
  rw[A]at h;simp only[bY,R.bind_ok]at h;obtain⟨a,G,Z,P,s,ia,_⟩:=f.dtAt (uR A);unfold xK at h;cases v:qa r with
  |none=>rw[v]at h;exact h.elim
  |some ks=>
   rw[v,gR]at h;split at h
   .rename_i u;refine cn (mY (K8 K O) M L mQ (j7 (fA T eI N bD) kA (kn rfl)) (by decide) (by decide) (kn rfl) rfl) ⟨.ref a,Z,a,G,ks,rfl,P,by rw[s.keys];exact Go v,λk s=>(u.2 k s).1,u.1,λl d m g e=>?_⟩;have al:Al F F H (L2.upd H l (.lst (d.map λq=>.ref q.2))):=Al.new0 m;have reps:∀(d:List (List Tx×af)),(∀q∈d,H q.2=aa (.tup (cN q.1))/\∀x∈q.1,x.length<=bv)->aR X.K H F ((d.map (·.1)).map n6) (d.map λq=>.ref q.2):=by
     intro d
     induction d with
     |nil=>intro _;rfl
     |cons q d I=>intro g;obtain⟨Y,W⟩:=g q f8;exact⟨_,_,rfl,⟨q.2,cN q.1,rfl,Y,To.mpr ⟨rfl,W⟩⟩,I λz J=>g z (fj _ J)⟩
    refine h F S _ (f.al al) al.grow l (λc=>c=l) ⟨⟨_,upd_same,?_⟩,λc=>kU⟩ λb z=>?_
    .rw[<-e];refine al.reps (reps d λq B=>⟨g q B,?_⟩);have:q.1∈cf ks:=by rw[<-e];exact bI.mpr ⟨q,B,rfl⟩
     exact(u.2 _ ((mU ks).mem_iff.mp this)).2
    .subst z;exact⟨m,λz=>zA (f.ex _ z) (λo w=>by rw[m]at w;cases w),λ⟨j,z⟩=>zA (f.foot j b z).2.2 (λo w=>by rw[m]at w;cases w.1),_,upd_same,trivial⟩
   .exact h.elim
def om:List PV->PV->Option Bool
 |[],_=>aa ak
 |y::c,x=>(cF y x).bind λa=>(om c x).map λb=>a||b
def w8:PV->PV->Option PV
 |x,.lst a=>if c_ a<=8 then(om a x).map .bl else ae
 |_,_=>ae
def G6(K:ay):R2:=λx y H Q=>∃p a k,y=.ref p/\cz K H p a/\(∃ks:List Bool,ks.length=a.length/\(∀(i:Nat) u b,a[i]?=aa u->ks[i]?=aa b->gX K H 8 u x b)/\k=ks.any id)/\Q (.bl k) H
section
variable{X:Cx}{K:ay}
theorem K9(W:X.A.units+64<cLine):b8 X (dZ .In) (G6 X.K):=by
 classical
 intro T s E H x y v u Q I G F h;obtain⟨p,f,k,rfl,O,⟨ks,D,P,rfl⟩,q⟩:=h;cases F;obtain⟨a,r,J,n⟩:=I.list O;have C:a.length=f.length:=(oE r).symm
 let e:ai->Bool:=λz=>decide (∃i:Nat,a[i]?=aa z/\ks[i]?=aa ah)
 have m:∀(i:Nat) (z:ai) (b:Bool),a[i]?=aa z->ks[i]?=aa b->sY X.A.in1 s z v b:=λi z b d g=>by
  have A:i<f.length:=by rw[<-C];exact(cA.mp d).1
  have:∀{f:List V}{a:List ai} (r:bA f a) (i:Nat) (z:ai),a[i]?=aa z->∃w,f[i]?=aa w/\RelV w z:=by
   intro f a r;unfold bA at r
   induction r with
   |nil=>intro i z h;simp at h
   |cons r _ M=>
    intro i z h;cases i with
    |zero=>simp at h;subst h;exact⟨_,rfl,r⟩
    |succ i=>exact M i z (by simpa using h)
  obtain⟨w,N,o⟩:=this r i z d;exact P i w b N g X rfl T E s z v X.A.in1 I o G (by show X.A.units+1+8<cLine;lia)
 refine SeqAt.in_listAt e J.isList (λz n=>?_) ⟨.bl _,H,I,rfl,?_⟩
 .obtain⟨i,d⟩:=zx (show z∈a by simpa using n);have l:i<ks.length:=by rw[D,<-C];exact(cA.mp d).1
  by_cases c:∃i:Nat,a[i]?=aa z/\ks[i]?=aa ah
  .rw[show e z=ah from decide_eq_true c];obtain⟨j,S,B⟩:=c;exact m j z ah S B
  .rw[show e z=ak from decide_eq_false c];cases g:ks[i]with
   |true=>exact absurd ⟨i,d,by rw[dP l,g]⟩ c
   |false=>exact m i z ak d (by rw[dP l,g])
 .have:a.toArray.any e=ks.any id:=by
   rw[show a.toArray.any e=a.any e by simp,jv,tL,tL];constructor
   .rintro⟨z,_,n⟩;obtain⟨i,_,B⟩:=of_decide_eq_true n;exact⟨ah,jw B,rfl⟩
   .rintro⟨b,g,L⟩;obtain rfl:b=ah:=L;obtain⟨i,d⟩:=zx g;have A:i<a.length:=by rw[C,<-D];exact(cA.mp d).1
    exact⟨a[i],zI A,decide_eq_true ⟨i,by simp[A],d⟩⟩
  rw[this];exact q
theorem F6{H:Hp}{F:af->Prop}{x:PV}{v:V}(l:aL K H F x v):∀{f:List PV}{d:List V}{k:Bool},c_ f<=8->om f x=aa k->aR K H F f d->∃ks:List Bool,ks.length=d.length/\(∀(i:Nat) u b,d[i]?=aa u->ks[i]?=aa b->gX K H 8 u v b)/\k=ks.any id
 |[],d,k,_,e,m=>by
  cases e;rw[show d=[] from m];exact⟨[],rfl,λi u b h=>by simp at h,rfl⟩
 |y::f,d,k,p,e,⟨u,r,z,s,q⟩=>by
  subst z;simp only[om,tK,kQ]at e;obtain⟨a,B,b,A,rfl⟩:=e;unfold c_ at p;obtain⟨ks,o,n,rfl⟩:=F6 l ∅ A q;refine⟨a::ks,by simp[o],λi w c g j=>?_,by simp⟩;cases i with
  |zero=>simp at g j;subst g j;exact Ca (Iq y x B s l) ∅
  |succ i=>exact n i w c (by simpa using g) (by simpa using j)
theorem RE:P2 K (G6 K) w8:=λF H x y v u Q pv d c e q=>by
 unfold w8 at e;split at e
 .split at e
  .rename_i g;obtain⟨k,i,rfl⟩:=kQ.mp e;obtain⟨a,b,rfl,h,_,f⟩:=c;exact⟨a,b,k,rfl,.inl h,F6 d g i f,q _ F H (Al.refl ..) rfl⟩
  .cases e
 .cases e
end
end Pu
namespace L2
theorem OJ{P:aQ}{w:aI}{A:aX}{E:ai->ao->Prop}{s:ao}{t b:af}{e:List ai}{Q:ai->ao->Prop}(u:IsTup s.heap t #[])(v:IsTup s.heap b e.toArray)(h:Q (.ref b) s):aq (au P w) A (i_ .Add (.ref t) (.ref b)) Q E s:=by
 obtain⟨⟨y,x,o,q⟩,j,m,n,l⟩:=id u;obtain⟨⟨p,c,d,a⟩,g,i,r,f⟩:=id v;simp only at m l i f;subst m l i f;exact concat_meets ⟨_,j,rfl⟩ ⟨_,g,rfl⟩ IC seq_tuple_add ID IE (IF _ _)
  (tuple_addW0 t b #[] e.toArray n r x c q a rfl) ⟨j,g,h⟩
def BK(K:ay):R2:=λx y H Q=>∃a b c,x=.ref a/\y=.ref b/\cp K H a []/\cp K H b c/\Q (.ref b) H
theorem TM{X:Cx}:b8 X (i_ .Add) (BK X.K):=by
 intro r s n H x y v u Q I e d h;obtain⟨a,b,o,rfl,rfl,m,l,q⟩:=h;cases e;cases d;obtain⟨j,f,i,_⟩:=I.tuple m;obtain⟨c,p,g,_⟩:=I.tuple l;cases f;exact OJ i g ⟨.ref b,H,I,rfl,q⟩
end L2
namespace Pu
open L2
def vA:PV->PV->Option PV
 |.tup [],.tup a=>aa (.tup a)
 |x,y=>ba x y
theorem K5{X:Cx}:b8 X (i_ .Add) (λx y H Q=>BK X.K x y H Q\/xQ X.K x y H Q):=TM.or fN
theorem Of{K:ay}:P2 K (λx y H Q=>BK K x y H Q\/xQ K x y H Q) vA:=λF H x y v u Q pv d c e q=>by
 unfold vA at e;split at e
 .cases e;obtain⟨a,h,rfl,f,i⟩:=d;obtain⟨b,g,rfl,j,l⟩:=id c;rw[show h=[] from i]at f;exact .inl ⟨a,b,g,rfl,rfl,cp.of f,cp.of j,q _ F H (Al.refl ..) c⟩
 .exact .inr (fK F H _ _ v u Q pv d c e q)
end Pu
local macro_rules | `(tactic| simp! [$xs,*]) => `(tactic| simp [Pu.aH, Pu.cL, Pu.dB, Pu.d2, Pu.d1, Pu.dV, Pu.dC, Pu.dL, Pu.dF, Pu.aC, Pu.aE, Pu.cI, Pu.ph, Pu.bM, Pu.cU, Pu.aY, Pu.gV, Pu.gO, Pu.bN, Pu.im, Pu.gq, Pu.cV, Pu.fR, Pu.iO, Pu.R.bind, Pu.aO, Pu.bU, Pu.fX, Pu.bS, Pu.back, Pu.gE, Pu.nW, Pu.iV, Pu.Ak, Pu.BU, Pu.yz, Pu.bo, Pu.j4, Pu.cQ, Pu.eW, Pu.gt, Pu.HM, Pu.qf, Pu.Hx, Pu.jW, Pu.yR, Pu.pi, Pu.lV, Pu.mF, Pu.Gy, Pu.pO, Pu.dI, Pu.gB, Pu.uY, Pu.kC, Pu.pD, Pu.imm, Pu.vk, Pu.mL, dO, ng, $xs,*])
local macro_rules | `(⇑$x) => `(.val (.int $x))
local macro_rules | `(↥$x) => `(.val (.str $x))
namespace Sh
open L2 Pu
set_option genInjectivity false in
structure Ad where
 SlitError:af
 NoText:af
 NoWidth:af
 NoView:af
 NoWindow:af
 Never:af
 Full:af
 Nothing:af
 Unlike:af
 NoPlace:af
 NoLetters:af
 BadText:af
 Seeker:af
 Slit:af
def yal(a:Ad):aj->R aM:=cI (dL sh (aC (dF (bO [1] (aT (dV 0)) (cb) (d2 (rA ak) (dV 0) (dV 1)))) (aE)))
def yV(a:Ad):aj->R Slot:=bU 2 [] (bS 0 (yal a))
def yap(a:Ad):aj->R aM:=cI (mF (dL i7 (aC (dV 0) (aC (dC (.raw (.ty "int"))) (aE)))) (yR (dL i7 (aC (dV 0) (aC (dC (.raw (.ty "bool"))) (aE))))))
def xr(a:Ad):aj->R Slot:=bU 1 [] (bS 0 (yap a))
def yaq(a:Ad):aj->R aM:=cI (mF (bo (aY (xr a) (gV (dV 0) (bN)))) (pO (dI λi j=>decide (i<=j)) (dI λi j=>decide (i<=j)) (dC (.int 1)) (dV 0) (dC (.int 4))))
def sL(a:Ad):aj->R Slot:=bU 1 [] (bS 0 (yaq a))
def yar(a:Ad):aj->R aM:=cI (mF (dL i7 (aC (dV 0) (aC (dC (.raw (.ty "str"))) (aE)))) (mF (d2 (eqT ak) (dL b7 (aC (dV 0) (aE))) (dV 1)) (bo (aY (yV a) (gV (dV 0) (gV (dV 2) (bN)))))))
def sy(a:Ad):aj->R Slot:=bU 3 [] (bS 0 (yar a))
def yac(a:Ad):aj->R aM:=aH (cL (lV (jW (dB (dL i7 (aC (dV 0) (aC (dC (.raw (.ty "tuple"))) (aE)))))) (jW (dB (pO (dI λi j=>decide (i<=j)) (dI λi j=>decide (i<=j)) (dC (.int 1)) (dL b7 (aC (dV 0) (aE))) (dC (.int 9)))))) (cI (dC (.bl ak))) (gt))
 (aH (cL (jW (dB (dL sh (aC (dF (bO [1,2] (aT (dV 0)) (cb) (bo (aY (sy a) (gV (dV 0) (gV (dV 1) (gV (dV 2) (bN)))))))) (aE))))) (cI (dC (.bl ak))) (gt))
 (cI (d2 (eqT ak) (dF (dL sd (aC (dV 0) (aE)))) (dF (dL iS (aC (dV 0) (aE)))))))
def oj(a:Ad):aj->R Slot:=bU 3 [] (bS 0 (yac a))
def yao(a:Ad):aj->R aM:=aH (cL (lV (jW (dB (dL i7 (aC (dV 0) (aC (dC (.raw (.ty "tuple"))) (aE)))))) (dB (d2 (eqT ah) (dL b7 (aC (dV 0) (aE))) (dC (.int 2))))) (cI (dC (.bl ak))) (gt))
 (cI (mF (bo (aY (sL a) (gV (d2 bB (dV 0) (dC (.int 0))) (bN)))) (bo (aY (oj a) (gV (d2 bB (dV 0) (dC (.int 1))) (gV (d2 bB (dV 0) (dC (.int 0))) (gV (dV 1) (bN))))))))
def ot(a:Ad):aj->R Slot:=bU 2 [] (bS 0 (yao a))
def yan(a:Ad):aj->R aM:=ph (aY (ot a) (gV (dV 0) (gV (dC (.str [97,98,99])) (bN))))
def yt(a:Ad):aj->R Slot:=bU 1 [] (bS 0 (yan a))
def yaf(a:Ad):aj->R aM:=cL (jW (dB (bo (aY (yt a) (gV (dV 0) (bN)))))) (An (.ref a.NoView) (λb=>bC ((dC (.str [97,32,118,105,101,119,32,105,115,32,97,32,116,117,112,108,101,32,111,102,32,97,32,119,105,100,116,104,32,97,110,100,32,97,32,114,105,115,105,110,103,32,116,117,112,108,101,32,111,102,32,49,32,116,111,32,57,32,119,105,110,100,111,119,115])) b))) (gt)
def pI(a:Ad):aj->R Slot:=bU 1 [] (bS 0 (yaf a))
def yaj(a:Ad):aj->R aM:=aH (cU 1 (xS))
 (aH (λb=>dJ (ca 2 (aT (dV 0)) (aH (jF 1 (et fg (dV 2) (fe) (dU (d1 iw (dC (.int 1))))) (d2 ba (l9 1 (et fg (dV 2) (fe) (dU (d1 iw (dC (.int 1))))) (dC (.int 0))) (dC (.int 1))))
 (jF 1 (et fg (dV 2) (dU (dC (.int 1))) (fe)) (d2 lm (l9 1 (et fg (dV 2) (dU (dC (.int 1))) (fe)) (dC (.int 0))) (dC (.int 1))))) b))
 (kB 1))
def rj(a:Ad):aj->R Slot:=bU 1 [] (bS 2 (yaj a))
def yaG(a:Ad):aj->R aM:=aH (cU 1 (ur (et fg (d2 bB (dV 0) (dC (.int 0))) (fe) (dU (d1 iw (dC (.int 1))))) (dC (.bl ah))))
 (aH (bM 2 (dC (.int 0)))
 (aH (λb=>dJ (iZ (dB (d2 (dI λi j=>decide (i<j)) (dV 2) (mV 1))) (aH (bM 2 (mV 1))
 (ca 3 (aT (dV 0)) (cL (lV (dB (jj ak 1 (et fg (dV 3) (fe) (dU (d1 iw (dC (.int 1))))))) (dB (jj ak 1 (et fg (dV 3) (dU (dC (.int 1))) (fe))))) (aH (jF 1 (et fg (dV 3) (fe) (dU (d1 iw (dC (.int 1))))) (dC (.bl ah)))
 (jF 1 (et fg (dV 3) (dU (dC (.int 1))) (fe)) (dC (.bl ah)))) (gt)))) 1000 b))
 (kB 1)))
def ou(a:Ad):aj->R Slot:=bU 1 [] (bS 3 (yaG a))
def yav(a:Ad):aj->R aM:=aH (cL (dB (d2 (dI λi j=>decide (i<j)) (dV 1) (dL b7 (aC (dV 0) (aE))))) (cI (d2 bB (dV 0) (dV 1))) (gt))
 (aH (cL (dB (d2 (eqT ak) (dV 0) (dF (dL cQ (aE))))) (cI (dC (.int 0))) (gt))
 (cI (d2 ba (d2 ln (d2 bB (dV 0) (d2 gD (dV 1) (dL b7 (aC (dV 0) (aE))))) (dC (.int 31))) (dV 1))))
def rV(a:Ad):aj->R Slot:=bU 2 [] (bS 0 (yav a))
def yay(a:Ad):aj->R aM:=aH (bM 3 (d2 gD (d2 ba (d2 ba (d2 ln (bo (aY (rV a) (gV (dV 0) (gV (dV 1) (bN))))) (dC (.int 1103515245))) (d2 ln (dC (.int 7919)) (dV 1))) (dC (.int 12345))) (dC (.int 2147483647))))
 (cI (d2 gD (d2 gD (d2 gD (d2 uP (dV 3) (dC (.int 5))) (dC (.int 2147483647))) (dC (.int 999983))) (dV 2)))
def yT(a:Ad):aj->R Slot:=bU 3 [] (bS 1 (yay a))
def yaw(a:Ad):aj->R aM:=aH (uY 1 (dC (.int 0)))
 (ph (aY (yT a) (gV (dV 0) (gV (kC (λb=>pD (b7 b)) 1) (gV (dV 2) (bN))))))
def gJ(a:Ad):aj->R Slot:=bU 3 [1] (bS 0 (yaw a))
def yaz(a:Ad):aj->R aM:=cI (d2 bB (dV 2) (bo (aY (gJ a) (gV (dV 0) (gO 1 (gV (dL b7 (aC (dV 2) (aE))) (bN)))))))
def uV(a:Ad):aj->R Slot:=bU 3 [1] (bS 0 (yaz a))
def yaB(a:Ad):aj->R aM:=aH (bM 4 (bo (aY (uV a) (gV (dV 0) (gO 1 (gV (dF (dL cQ (aC (dC (.int 1)) (aC (dC (.int 2)) (aC (dC (.int 2)) (aC (dC (.int 3)) (aC (dC (.int 3)) (aC (dC (.int 3)) (aE))))))))) (bN)))))))
 (aH (bM 5 (dC (.str [])))
 (aH (λb=>dJ (ca 6 (dL j8 (aC (d2 ba (dV 2) (bo (aY (gJ a) (gV (dV 0) (gO 1 (gV (d2 ba (d2 lm (dV 3) (dV 2)) (dC (.int 1))) (bN))))))) (aE))) (bM 5 (d2 ba (dV 5) (d2 bB (dC (.str [97,98,99])) (bo (aY (gJ a) (gV (dV 0) (gO 1 (gV (dV 4) (bN))))))))) b))
 (cI (dV 5))))
def rG(a:Ad):aj->R Slot:=bU 4 [1] (bS 3 (yaB a))
def yaA(a:Ad):aj->R aM:=cI (dL ix (aC (dF (dL iS (aC (dF (bO [0,1] (dL j8 (aC (dL b7 (aC (dV 0) (aE))) (aE))) (dB (d2 (dI λi j=>decide (i<=j)) (d2 ba (dV 0) (dV 2)) (dL b7 (aC (dV 1) (aE))))) (et fg (dV 1) (dU (dV 0)) (dU (d2 ba (dV 0) (dV 2)))))) (aE)))) (aE)))
def oh(a:Ad):aj->R Slot:=bU 2 [] (bS 0 (yaA a))
def yaF(a:Ad):aj->R aM:=aH (bM 4 (cL (dB (d2 (eqT ah) (dV 2) (dC (.int 2)))) (d2 ba (dC (.int 2)) (bo (aY (gJ a) (gV (dV 0) (gO 1 (gV (dC (.int 3)) (bN))))))) (d2 ba (dC (.int 1)) (bo (aY (gJ a) (gV (dV 0) (gO 1 (gV (dC (.int 4)) (bN)))))))))
 (aH (cU 5 (dL sd (aC (bo (aY (oh a) (gV (bo (aY (rG a) (gV (dV 0) (gO 1 (gV (dV 4) (gV (d2 lm (d2 ba (dV 4) (dV 3)) (dC (.int 1))) (bN))))))) (gV (dV 4) (bN))))) (aE))))
 (aH (λc=>dJ (ca 6 (dL j8 (aC (d2 gD (dV 2) (dC (.int 3))) (aE))) (yW 5 (bo (aY (gJ a) (gV (dV 0) (gO 1 (gV (kC (λb=>pD (b7 b)) 5) (bN)))))) (bo (aY (rG a) (gV (dV 0) (gO 1 (gV (dV 4) (gV (dV 4) (bN)))))))) c))
 (cI (dL eW (aC (dV 4) (aC (dL ix (aC (dF (kC (λb=>vk (iS b)) 5)) (aE))) (aE)))))))
def ub(a:Ad):aj->R Slot:=bU 4 [1] (bS 3 (yaF a))
def yaE(a:Ad):aj->R aM:=aH (bM 3 (bo (aY (oh a) (gV (dV 0) (gV (dV 1) (bN))))))
 (cI (dL sh (aC (dF (bO [3,2] (aT (dV 3)) (cb) (d2 (dI λi j=>decide (i<=j)) (rH pL (dV 1) (dV 0)) (rH pL (dV 2) (dV 0))))) (aE))))
def oy(a:Ad):aj->R Slot:=bU 3 [] (bS 1 (yaE a))
def yat(a:Ad):aj->R aM:=aH (A_ 1 2 (dV 0))
 (aH (bM 3 (dF (dL cQ (aC (dC (.str [])) (aE)))))
 (aH (λε=>dJ (ca 4 (dL j8 (aC (d2 lm (d2 ba (dL b7 (aC (dV 2) (aE))) (dV 1)) (dC (.int 1))) (aE))) (aH (cU 5 (dL cQ (aE)))
 (aH (ca 6 (aT (dV 3)) (g8 5 (dF (bO [6,1,2] (aT (dC (.str [97,98,99]))) (dB (bo (aY (oy a) (gV (d2 ba (dV 1) (dV 0)) (gV (dV 2) (gV (dV 3) (bN))))))) (d2 ba (dV 1) (dV 0))))))
 (bM 3 (dM 5)))) ε))
 (ko (bO [1,2] (aT (dV 3)) (dB (d2 (eqT ak) (bo (aY (oh a) (gV (dV 0) (gV (dV 1) (bN))))) (dV 2))) (dV 0)))))
def pH(a:Ad):aj->R Slot:=bU 1 [] (bS 6 (yat a))
def yam(a:Ad):aj->R aM:=cI (mF (bo (aY (ot a) (gV (dV 0) (gV (d2 ba (dC (.str [46])) (dC (.str [97,98,99]))) (bN))))) (d2 (dI λi j=>decide (i<=j)) (l4 xF (l4 mH (dC (.str [])) (aC (d2 bB (dV 0) (dC (.int 1))) (aE))) (aC (dC (.str [46])) (aE))) (dC (.int 6))))
def n9(a:Ad):aj->R Slot:=bU 1 [] (bS 0 (yam a))
def yae(a:Ad):aj->R aM:=cL (jW (dB (bo (aY (n9 a) (gV (dV 0) (bN)))))) (An (.ref a.NoView) (λb=>bC ((dC (.str [97,32,98,108,117,114,114,101,100,32,118,105,101,119,32,105,115,32,97,32,118,105,101,119,32,111,102,32,119,104,111,115,101,32,108,101,116,116,101,114,115,32,117,112,32,116,111,32,54,32,109,97,121,32,98,101,32,112,111,105,110,116,115])) b))) (gt)
def sq(a:Ad):aj->R Slot:=bU 1 [] (bS 0 (yae a))
def yaH(a:Ad):aj->R aM:=aH (bM 1 (dF (dL cQ (aC (dC (.str [])) (aE)))))
 (aH (λb=>dJ (ca 2 (aT (dV 0)) (aH (bM 3 (cL (dB (d2 (eqT ak) (dV 2) (dC (.str [46])))) (dC (.str [97,98,99])) (dV 2)))
 (aH (cU 4 (dL cQ (aE)))
 (aH (ca 5 (aT (dV 1)) (g8 4 (dF (bO [5] (aT (dV 3)) (cb) (d2 ba (dV 1) (dV 0))))))
 (bM 1 (dM 4))))) b))
 (cI (dV 1)))
def rL(a:Ad):aj->R Slot:=bU 1 [] (bS 5 (yaH a))
def yah(a:Ad):aj->R aM:=aH (cU 1 (vp (dL eW (aE)) (dC (.bl ah))))
 (aH (λε=>dJ (ca 2 (aT (d2 bB (dV 0) (dC (.int 1)))) (aH (cU 3 yN)
 (aH (rR 4 1 (ca 5 (aT (bo (aY (rL a) (gV (dV 2) (bN))))) (xN 3 (dL ix (aC (dF (dL iS (aC (d2 vA (dV 4) (dL eW (aC (dV 5) (aE)))) (aE)))) (aE))) (dC (.bl ah)))))
 (vn 1 3))) ε))
 (ko (bO [0] (aT (dF (vd 1))) (cb) (dL eW (aC (d2 bB (dV 1) (dC (.int 0))) (aC (dV 0) (aE)))))))
def vy(a:Ad):aj->R Slot:=bU 1 [] (bS 5 (yah a))
def yai(a:Ad):aj->R aM:=aH (qf (aY (sq a) (gV (dV 0) (bN))))
 (aH (qf (aY (pI a) (gV (dV 1) (bN))))
 (cI (d2 w8 (dV 1) (bo (aY (vy a) (gV (dV 0) (bN)))))))
def rO(a:Ad):aj->R Slot:=bU 2 [] (bS 0 (yai a))
def yau(a:Ad):aj->R aM:=aH (cU 4 (yJ [] (aT (d2 bB (dV 2) (dC (.int 1)))) (dL rh (aC (dV 0) (aE)))))
 (aH (λb=>dJ (ca 5 (dL j8 (aC (bo (aY (gJ a) (gV (dV 0) (gO 1 (gV (d2 ba (dV 3) (dC (.int 1))) (bN)))))) (aE))) (yI 4 (bo (aY (gJ a) (gV (dV 0) (gO 1 (gV (uo 4) (bN)))))) (bo (aY (gJ a) (gV (dV 0) (gO 1 (gV (d2 bB (dV 2) (dC (.int 0))) (bN)))))) (dC (.str [46]))) b))
 (cI (dL eW (aC (d2 bB (dV 2) (dC (.int 0))) (aC (dL ix (aC (dF (dL iS (aC (dF (bO [] (aT (yQ 4)) (cb) (l4 mH (dC (.str [])) (aC (dV 0) (aE))))) (aE)))) (aE))) (aE))))))
def yn(a:Ad):aj->R Slot:=bU 4 [1] (bS 2 (yau a))
def yak(a:Ad):aj->R aM:=aH (cU 1 (j4 (aY (rj a) (gV (dV 0) (bN)))))
 (aH (bM 2 (dF (bO [1] (aT (dF (oB 1))) (dB (d2 (dI λi j=>decide (j<i)) (kE 1 (dV 0)) (dC (.int 0)))) (dV 0))))
 (aH (cL (dB (d2 (dI λi j=>decide (j<i)) (dL b7 (aC (dV 2) (aE))) (dC (.int 1)))) (cI (dL eW (aC (dC (.str [116,119,111])) (aC (d2 bB (dV 2) (dC (.int 0))) (aC (d2 bB (dV 2) (dC (.int 1))) (aE)))))) (gt))
 (aH (cL (pi (dB (d2 (eqT ak) (dL b7 (aC (dV 2) (aE))) (dC (.int 1)))) (dB (d2 (dI λi j=>decide (j<i)) (kE 1 (d2 bB (dV 2) (dC (.int 0)))) (dC (.int 1))))) (cI (dL eW (aC (dC (.str [109,111,114,101])) (aC (d2 bB (dV 2) (dC (.int 0))) (aE))))) (gt))
 (aH (cU 3 (j4 (aY (ou a) (gV (dV 0) (bN)))))
 (aH (bM 4 (dF (pX [3] (uU (aC (dV 0) (aE))) (dB (jj ak 2 (et fg (dV 1) (fe) (dU (d1 iw (dC (.int 1))))))) (dV 0))))
 (aH (cL (dB (d2 (dI λi j=>decide (i<j)) (dL b7 (aC (dV 4) (aE))) (dL b7 (aC (dV 0) (aE))))) (cI (dL eW (aC (dC (.str [97,112,97,114,116])) (aC (dL ix (aC (dV 4) (aE))) (aE))))) (gt))
 (cI (dC .non))))))))
def uC(a:Ad):aj->R Slot:=bU 1 [] (bS 4 (yak a))
def yad(a:Ad):aj->R aM:=aH (qf (aY (pI a) (gV (dV 0) (bN))))
 (ph (aY (uC a) (gV (d2 bB (dV 0) (dC (.int 1))) (bN))))
def ut(a:Ad):aj->R Slot:=bU 1 [] (bS 0 (yad a))
def yag(a:Ad):aj->R aM:=aH (qf (aY (sq a) (gV (dV 0) (bN))))
 (ko (bO [] (aT (bo (aY (vy a) (gV (dV 0) (bN))))) (dB (d2 (rK ak) (bo (aY (ut a) (gV (dV 0) (bN)))) (dC .non))) (dV 0)))
def uD(a:Ad):aj->R Slot:=bU 1 [] (bS 0 (yag a))
def yaC(a:Ad):aj->R aM:=aH (cU 1 (dL cQ (aE)))
 (aH (λb=>dJ (ca 2 (aT (dV 0)) (g8 1 (dF (bO [2] (aT (dC (.str [97,98,99]))) (cb) (d2 ba (dV 1) (dV 0))))) b))
 (kB 1))
def vt(a:Ad):aj->R Slot:=bU 1 [] (bS 2 (yaC a))
def yaD(a:Ad):aj->R aM:=aH (cU 2 (dL cQ (aE)))
 (aH (λb=>dJ (ca 3 (aT (dV 0)) (g8 2 (dF (bO [3] (aT (dV 1)) (cb) (d2 ba (dV 1) (dF (dL cQ (aC (dV 0) (aE)))))))) b))
 (kB 2))
def vh(a:Ad):aj->R Slot:=bU 2 [] (bS 2 (yaD a))
def yax(a:Ad):aj->R aM:=aH (bM 1 (dF (dL cQ (aC (dF (dL cQ (aE))) (aE)))))
 (aH (λε=>dJ (ca 2 (aT (d2 bB (dV 0) (dC (.int 1)))) (aH (bM 3 (dF (dL cQ (aC (dC (.str [])) (aE)))))
 (aH (ca 4 (aT (dV 2)) (bM 3 (cL (dB (d2 (eqT ak) (dV 4) (dC (.str [46])))) (bo (aY (vt a) (gV (dV 3) (bN)))) (dF (bO [4] (aT (dV 3)) (cb) (d2 ba (dV 0) (dV 1)))))))
 (bM 1 (bo (aY (vh a) (gV (dV 1) (gV (dV 3) (bN)))))))) ε))
 (aH (bM 5 (dF (dL sortSetVP (aC (dF (bO [0] (aT (dV 1)) (cb) (dL eW (aC (d2 bB (dV 1) (dC (.int 0))) (aC (dL ix (aC (dF (dL iS (aC (dV 0) (aE)))) (aE))) (aE)))))) (aE)))))
 (ko (bO [] (aT (dV 5)) (dB (d2 (eqT ah) (bo (aY (pH a) (gV (dV 0) (bN)))) (dF (dL cQ (aE))))) (dV 0)))))
def yw(a:Ad):aj->R Slot:=bU 1 [] (bS 5 (yax a))
end Sh
local macro_rules | `(tactic| and_intros) => `(tactic| (refine' Pu.Tj ?a ?l ?c ?k; (case a => k_is); (case l => k_is); (case c => k_is); (case k => k_is)))
namespace K08
open L2 Pu Sh
def dy(i:Nat):bn:=PySem.Challenge.pw_slitview_k08_whole_cleared.main.body.getD i (.Pass ⟨0,0,0,0⟩)
abbrev Aa:bn:=dy 30
abbrev zV:bn:=dy 31
abbrev AY:bn:=dy 32
abbrev B2:bn:=dy 33
abbrev xh:bn:=dy 35
abbrev AK:bn:=dy 34
abbrev Ao:bn:=dy 36
abbrev ud:bn:=dy 37
abbrev Av:bn:=dy 10
abbrev Cd:bn:=dy 11
abbrev xJ:bn:=dy 9
abbrev BI:bn:=dy 12
abbrev xM:bn:=dy 13
abbrev BA:bn:=dy 14
abbrev Bn:bn:=dy 16
abbrev B6:bn:=dy 18
abbrev xL:bn:=dy 19
abbrev xn:bn:=dy 26
abbrev Be:bn:=dy 15
abbrev Ce:bn:=dy 17
abbrev zY:bn:=dy 21
abbrev Af:bn:=dy 22
abbrev uT:bn:=dy 23
abbrev Cb:bn:=dy 24
abbrev x_:bn:=dy 28
abbrev xY:bn:=dy 41
abbrev yE:bn:=dy 40
abbrev yZ:bn:=dy 38
abbrev ul:bn:=dy 39
abbrev r_:bn:=dy 42
abbrev AN:bn:=dy 27
abbrev uc:bn:=dy 43
def vf(a:Ad):List af:=[a.NoView]
structure dq(K:ay)(mg:Str->Option ai)(base:aB)(a:Ad):Prop where
 yav:cY K mg "_law_cell_at" Aa
 yay:cY K mg "_law_mixed" zV
 yaw:cY K mg "_law_draw" AY
 yaz:cY K mg "_law_pick" B2
 yaA:cY K mg "_law_seen" xh
 yaB:cY K mg "_law_text" AK
 yaF:cY K mg "_law_view" Ao
 yau:cY K mg "_law_blurred" ud
 yap:cY K mg "is_whole_number" Av
 yaq:cY K mg "is_width" Cd
 yal:cY K mg "has_only" xJ
 yar:cY K mg "is_window" BI
 yac:cY K mg "are_windows" xM
 yao:cY K mg "is_view_with" BA
 yam:cY K mg "is_blurred_view" Bn
 yae:cY K mg "check_blurred_view" B6
 yaH:cY K mg "windows_that_fit" xL
 yah:cY K mg "clearing_views" xn
 yan:cY K mg "is_view" Be
 yaf:cY K mg "check_view" Ce
 yaj:cY K mg "excesses" zY
 yaG:cY K mg "reached_pieces" Af
 yak:cY K mg "find_bar" uT
 yad:cY K mg "bar" Cb
 yag:cY K mg "cleared" x_
 yaD:cY K mg "_law_times" xY
 yaC:cY K mg "_law_three" yE
 yaE:cY K mg "_law_under" yZ
 yat:cY K mg "_law_all" ul
 yax:cY K mg "_law_filled" r_
 yai:cY K mg "clears" AN
 yas:cY K mg "law" uc
 yaI:mg "all"=ae
 yaJ:mg "bool"=ae
 yaK:mg "enumerate"=ae
 yaL:mg "int"=ae
 yaM:mg "isinstance"=ae
 yaN:mg "len"=ae
 yaO:mg "list"=ae
 yaP:mg "range"=ae
 yaQ:mg "set"=ae
 yaR:mg "sorted"=ae
 yaS:mg "str"=ae
 yaT:mg "tuple"=ae
 yaV:∃t,mg "LETTERS"=aa (.str (tS [97,98,99]) t)
 yaW:∃t,mg "MOST_POINTS"=aa (.int 6 t)
 yaX:∃t,mg "MOST_WINDOWS"=aa (.int 9 t)
 yaY:∃t,mg "POINT"=aa (.str (tS [46]) t)
 yaZ:∃t,mg "WIDEST"=aa (.int 4 t)
 yab:mg "SlitError"=aa (.ref a.SlitError)
 yaa:mg "NoView"=aa (.ref a.NoView)
 yaU:OwnCls "NoView" a.NoView [.type "ValueError",.type "Exception",.type "BaseException",.type "object"] "ValueError.__new__" mg base
section
variable{P:aQ}{w:aI}{K:ay}{c:Str->Option ai}{b:aB}{a:Ad}
theorem PY:cJ ["_law_script","_law_k"] ["_law_script","_law_k"] (a_ Aa):=by ac_nf
theorem Qe(G:dq K c b a):c8 (cE P w) P w K c b "_law_cell_at" 1 ["_law_script","_law_k"] (cg K (rV a)) :=
 dA (k:=0) (pin:=[]) G.yav PY rfl (λ_ _ _ _ _ _ e h=>Pu.Tk (λ_ _=>rfl) e h) (λf i A d s H E g=>by exact
  (bq (j9 (gC BN ka (ar 1) (fO iU jr G.yaN jn (aW (ar 0) be)) rfl) (bz (dX (fU fP fZ (ar 0) (ar 1)))) jZ)
  (bq (j9 (gC (oz g.units) n8 (ar 0) (jI be) rfl) (bz (dX bj)) jZ)
  (bz (dX (cT fN fK (cT AV AA (fU fP fZ (ar 0) (cT rn sQ (ar 1) (fO iU jr G.yaN jn (aW (ar 0) be)))) bj) (ar 1)))))))
theorem OV:cJ ["_law_script","_law_k","_law_many","_law_drawn"] ["_law_script","_law_k","_law_many"] (a_ zV):=by ac_nf
theorem JO(G:dq K c b a):c8 (cE P w) P w K c b "_law_mixed" 2 ["_law_script","_law_k","_law_many"] (cg K (yT a)) :=
 dA (k:=1) (pin:=[]) G.yay OV rfl (λ_ _ _ _ _ _ e h=>Pu.Tu (λ_ _ _=>rfl) e h) (λf i A d s H E g=>by exact
  (bq (fu 3 OV.nd (cT rn sQ (cT fN fK (cT fN fK (cT AV AA ((bT (Qe G) (g.mono (by decide)) c7 (aU (ar 0) (aU (ar 1) bR)))).de bj) (cT AV AA bj (ar 1))) bj) bj))
  (bz (dX (cT rn sQ (cT rn sQ (cT rn sQ (cT QK SI (ar 3) bj) bj) bj) (ar 2))))))
theorem RC:cJ ["_law_script","_law_town","_law_many"] ["_law_script","_law_town","_law_many"] (a_ AY):=by ac_nf
theorem lW(G:dq K c b a):c8 (cE P w) P w K c b "_law_draw" 3 ["_law_script","_law_town","_law_many"] (cg K (gJ a)) :=
 dA (k:=2) (pin:=[1]) G.yaw RC rfl (λ_ _ _ _ _ _ e h=>Pu.Tu (λ_ _ _=>rfl) e h) (λf i A d s H E g=>by exact
  (bq (OD 1 bj)
  (bz (zX (bT (JO G) (g.mono (by decide)) c7 (aU (ar 0) (aU (GL 1 iU jr G.yaN jn) (aU (ar 2) bR))))))))
theorem OZ:cJ ["_law_script","_law_town","_law_some"] ["_law_script","_law_town","_law_some"] (a_ B2):=by ac_nf
theorem Ie(G:dq K c b a):c8 (cE P w) P w K c b "_law_pick" 4 ["_law_script","_law_town","_law_some"] (cg K (uV a)) :=
 dA (k:=3) (pin:=[1]) G.yaz OZ rfl (λ_ _ _ _ _ _ e h=>Pu.Tu (λ_ _ _=>rfl) e h) (λf i A d s H E g=>by exact
  (bz (dX (fU fP fZ (ar 2) ((bT (lW G) (g.mono (by decide)) c7 (aU (ar 0) (iP 1 (aU (fO iU jr G.yaN jn (aW (ar 2) be)) bR))))).de))))
theorem Q2:cJ ["_law_text_here","_law_width"] ["_law_text_here","_law_width"] (a_ xh):=by ac_nf
theorem z6(G:dq K c b a):c8 (cE P w) P w K c b "_law_seen" 1 ["_law_text_here","_law_width"] (cg K (oh a)) :=
 dA (k:=0) (pin:=[]) G.yaA Q2 rfl (λ_ _ _ _ _ _ h j=>Pu.Tk (λ_ _=>rfl) h j) (λf n A g s H E m=>by exact
  (bz (dX (sN sD sF G.yaT n_ (aW (uz rF sK G.yaR mQ (aW (iN (cap:=[0,1]) (N':=["_law_at","_law_text_here","_law_width"]) (iQ.of ["_law_text_here","_law_width"] (a_ xh) rfl rfl (by decide +kernel)) rfl (ux G.yaP (aW (fO iU jr G.yaN jn (aW (ar 0) be)) be)) (λC d e l i=>by exact oq (gC pe ka (cT fN fK (ar 0) (ar 2)) (fO iU jr G.yaN jn (aW (ar 1) be)) rfl)) (λC d e l i=>by exact(lp lx lu (ar 1) (kq (ar 0)) (kq (cT fN fK (ar 0) (ar 2)))))).de be)).de be)))))
theorem Su:cJ ["_law_script","_law_town","_law_low","_law_most","_law_few","_law_made","_law_k"] ["_law_script","_law_town","_law_low","_law_most"] (a_ AK):=by ac_nf
theorem ED(G:dq K c b a):c8 (cE P w) P w K c b "_law_text" 5 ["_law_script","_law_town","_law_low","_law_most"] (cg K (rG a)) :=
 dA (k:=4) (pin:=[1]) G.yaB Su rfl (λ_ _ _ _ _ _ g h=>Pu.TQ (λ_ _ _ _=>rfl) g h) (λf i A d s H E e=>by exact
  (bq (fu 4 Su.nd ((bT (Ie G) (e.mono (by decide)) c7 (aU (ar 0) (iP 1 (aU (jI (aW bj (aW bj (aW bj (aW bj (aW bj (aW bj be))))))) bR))))).de)
  (bq (fu 5 Su.nd (iW []))
  (bq (lf (jm 6 je rfl Su.nd (ux G.yaP (aW (cT fN fK (ar 2) ((bT (lW G) (e.mono (by decide)) i6 (aU (ar 0) (iP 1 (aU (cT fN fK (cT xm xq (ar 3) (ar 2)) bj) bR))))).de) be)) (bz (fu 5 Su.nd (cT fN fK (ar 5) (fU fP fZ (iW [97,98,99]) ((bT (lW G) (e.mono (by decide)) i6 (aU (ar 0) (iP 1 (aU (ar 4) bR))))).de))))))
  (bz (dX (ar 5)))))))
theorem Rn:cJ ["_law_script","_law_town","_law_spoil","_law_most","_law_width","_law_windows","_law_k"] ["_law_script","_law_town","_law_spoil","_law_most"] (a_ Ao):=by ac_nf
theorem QF(G:dq K c b a):c8 (cE P w) P w K c b "_law_view" 6 ["_law_script","_law_town","_law_spoil","_law_most"] (cg K (ub a)) :=
 dA (k:=5) (pin:=[1]) G.yaF Rn rfl (λ_ _ _ _ _ _ g h=>Pu.TQ (λ_ _ _ _=>rfl) g h) (λf i A e s H E d=>by exact
  (bq (fu 4 Rn.nd (yo (gC (rD d.units) sj (ar 2) bj rfl) (cT fN fK bj ((bT (lW G) (d.mono (by decide)) c7 (aU (ar 0) (iP 1 (aU bj bR))))).de) (cT fN fK bj ((bT (lW G) (d.mono (by decide)) c7 (aU (ar 0) (iP 1 (aU bj bR))))).de)))
  (bq (kD 5 Rn.nd (AR Ig Gp G.yaO xH (aW ((bT (z6 G) (d.mono (by decide)) c7 (aU ((bT (ED G) (d.mono (by decide)) c7 (aU (ar 0) (iP 1 (aU (ar 4) (aU (cT xm xq (cT fN fK (ar 4) (ar 3)) bj) bR)))))).de (aU (ar 4) bR)))).de be)))
  (bq (lf (jm 6 je rfl Rn.nd (ux G.yaP (aW (cT rn sQ (ar 2) bj) be)) (bz (Pl 5 ((bT (lW G) (d.mono (by decide)) i6 (aU (ar 0) (iP 1 (aU (GL 5 iU jr G.yaN jn) bR))))).de ((bT (ED G) (d.mono (by decide)) i6 (aU (ar 0) (iP 1 (aU (ar 4) (aU (ar 4) bR)))))).de))))
  (bz (dX (mJ (aW (ar 4) (aW (sN sD sF G.yaT n_ (aW (Pt 5 rF sK G.yaR mQ).de be)) be)))))))))
theorem MK:cJ ["_law_script","_law_town","_law_asked","_law_most","_law_windows","_law_k"] ["_law_script","_law_town","_law_asked","_law_most"] (a_ ud):=by ac_nf
theorem Qq(G:dq K c b a):c8 (cE P w) P w K c b "_law_blurred" 4 ["_law_script","_law_town","_law_asked","_law_most"] (cg K (yn a)) :=
 dA (k:=3) (pin:=[1]) G.yau MK rfl (λ_ _ _ _ _ _ l m=>Pu.TQ (λ_ _ _ _=>rfl) l m) (λf n A g s H E h=>by exact
  (bq (OE 4 MK.nd (cap:=[]) (N':=["_law_window"]) (iQ.of ["_law_script","_law_town","_law_asked","_law_most","_law_windows","_law_k"] (a_ ud) rfl rfl (by decide +kernel)) rfl (ee (fU fP fZ (ar 2) bj)) (λC d e j i=>by exact AR (Qv rfl) O7 G.yaO xH (aW (ar 0) be)))
  (bq (lf (jm 5 je rfl MK.nd (ux G.yaP (aW ((bT (lW G) (h.mono (by decide)) i6 (aU (ar 0) (iP 1 (aU (cT fN fK (ar 3) bj) bR))))).de be)) (bz (SA 4 ((bT (lW G) (h.mono (by decide)) i6 (aU (ar 0) (iP 1 (aU (P6 4 G.yaN) bR))))).de ((bT (lW G) (h.mono (by decide)) i6 (aU (ar 0) (iP 1 (aU (fU fP fZ (ar 2) bj) bR))))).de (iW [46])))))
  (bz (dX (mJ (aW (fU fP fZ (ar 2) bj) (aW (sN sD sF G.yaT n_ (aW (uz rF sK G.yaR mQ (aW (iN (cap:=[]) (N':=["_law_window"]) (iQ.of ["_law_script","_law_town","_law_asked","_law_most","_law_windows","_law_k"] (a_ ud) rfl rfl (by decide +kernel)) rfl (ee (JU 4)) (λC d e j i=>by exact lc) (λC d e j i=>by exact(AL PySem.F.slot_str_join PySem.F.type_str_join EU Gd (iW []) (aW (ar 0) be)))).de be)).de be)) be))))))))
theorem M4:cJ ["thing"] ["thing"] (a_ Av):=by ac_nf
theorem K7(G:dq K c b a):c8 (cE P w) P w K c b "is_whole_number" 1 ["thing"] (cg K (xr a)) :=
 dA (k:=0) (pin:=[]) G.yap M4 rfl (λ_ _ _ _ _ _ e g=>Pu.TB (λ_=>rfl) e g) (λf i A d s H E h=>by exact
  (bz (dX (sv (fO rm rW G.yaM r8 (aW (ar 0) (aW (rE G.yaL Pk) be))) (ue (Qx (fO rm rW G.yaM r8 (aW (ar 0) (aW (rE G.yaJ O9) be)))))))))
theorem Rj:cJ ["thing"] ["thing"] (a_ Cd):=by ac_nf
theorem MY(G:dq K c b a):c8 (cE P w) P w K c b "is_width" 2 ["thing"] (cg K (sL a)) :=
 dA (k:=1) (pin:=[]) G.yaq Rj rfl (λ_ _ _ _ _ _ e h=>Pu.TB (λ_=>rfl) e h) (λf i A d s H E g=>by exact
  (bz (dX (sv ((bT (K7 G) (g.mono (by decide)) c7 (aU (ar 0) bR))).de (ue (RZ pe pe ka ka bj (ar 0) (BQ G.yaZ)))))))
theorem Lk:cJ ["text","signs"] ["text","signs"] (a_ xJ):=by ac_nf
theorem O5(G:dq K c b a):c8 (cE P w) P w K c b "has_only" 1 ["text","signs"] (cg K (yV a)) :=
 dA (k:=0) (pin:=[]) G.yal Lk rfl (λ_ _ _ _ _ _ h j=>Pu.Tk (λ_ _=>rfl) h j) (λf n A g s H E m=>by exact
  (bz (dX (fO (BS rfl) Cf G.yaI B_ (aW (iN (cap:=[1]) (N':=["sign","signs"]) (iQ.of ["text","signs"] (a_ xJ) rfl rfl (by decide +kernel)) rfl (ee (ar 0)) (λC d e l i=>by exact lc) (λC d e l i=>by exact(qe QR J_ (ar 0) (ar 1) rfl))).de be)))))
theorem Lq:cJ ["thing","width","signs"] ["thing","width","signs"] (a_ BI):=by ac_nf
theorem ML(G:dq K c b a):c8 (cE P w) P w K c b "is_window" 2 ["thing","width","signs"] (cg K (sy a)) :=
 dA (k:=1) (pin:=[]) G.yar Lq rfl (λ_ _ _ _ _ _ g h=>Pu.Tu (λ_ _ _=>rfl) g h) (λf i A d s H E e=>by exact
  (bz (dX (sv (fO rm rW G.yaM r8 (aW (ar 0) (aW (rE G.yaS NI) be))) (sv (qe (oz e.units) n8 (fO iU jr G.yaN jn (aW (ar 0) be)) (ar 1) rfl) (ue ((bT (O5 G) (e.mono (by decide)) c7 (aU (ar 0) (aU (ar 2) bR)))).de))))))
theorem QC:cJ ["thing","width","signs"] ["thing","width","signs"] (a_ xM):=by ac_nf
theorem NB(G:dq K c b a):c8 (cE P w) P w K c b "are_windows" 3 ["thing","width","signs"] (cg K (oj a)) :=
 dA (k:=2) (pin:=[]) G.yac QC rfl (λ_ _ _ _ _ _ i l=>Pu.Tu (λ_ _ _=>rfl) i l) (λf n A g s H E h=>by exact
  (bq (j9 ((xD (n0 (oD (fO rm rW G.yaM r8 (aW (ar 0) (aW (rE G.yaT n_) be))))) (xy (n0 (Ln pe pe ka ka bj (fO iU jr G.yaN jn (aW (ar 0) be)) (BQ G.yaX)))))).dt (bz (dX l6)) jZ)
  (bq (j9 (n0 (oD (fO (BS rfl) Cf G.yaI B_ (aW (iN (cap:=[1,2]) (N':=["window","width","signs"]) (iQ.of ["thing","width","signs"] (a_ xM) rfl rfl (by decide +kernel)) rfl (ee (ar 0)) (λC d e m j=>by exact lc) (λC d e m j=>by exact((bT (ML G) (h.mono (by decide)) i6 (aU (ar 0) (aU (ar 1) (aU (ar 2) bR))))).de)).de be)))) (bz (dX l6)) jZ)
  (bz (dX (qe (oz h.units) n8 (AR Ig Gp G.yaO xH (aW (ar 0) be)).de (uz rF sK G.yaR mQ (aW (ar 0) be)).de rfl))))))
theorem JY:cJ ["thing","signs"] ["thing","signs"] (a_ BA):=by ac_nf
theorem EJ(G:dq K c b a):c8 (cE P w) P w K c b "is_view_with" 4 ["thing","signs"] (cg K (ot a)) :=
 dA (k:=3) (pin:=[]) G.yao JY rfl (λ_ _ _ _ _ _ g h=>Pu.Tk (λ_ _=>rfl) g h) (λf i A d s H E e=>by exact
  (bq (j9 ((xD (n0 (oD (fO rm rW G.yaM r8 (aW (ar 0) (aW (rE G.yaT n_) be))))) (xy (gC (rD e.units) sj (fO iU jr G.yaN jn (aW (ar 0) be)) bj rfl)))).dt (bz (dX l6)) jZ)
  (bz (dX (sv ((bT (MY G) (e.mono (by decide)) c7 (aU (fU fP fZ (ar 0) bj) bR))).de (ue ((bT (NB G) (e.mono (by decide)) c7 (aU (fU fP fZ (ar 0) bj) (aU (fU fP fZ (ar 0) bj) (aU (ar 1) bR))))).de))))))
theorem Mt:cJ ["thing"] ["thing"] (a_ Bn):=by ac_nf
theorem Kr(G:dq K c b a):c8 (cE P w) P w K c b "is_blurred_view" 5 ["thing"] (cg K (n9 a)) :=
 dA (k:=4) (pin:=[]) G.yam Mt rfl (λ_ _ _ _ _ _ e h=>Pu.TB (λ_=>rfl) e h) (λf i A d s H E g=>by exact
  (bz (dX (sv ((bT (EJ G) (g.mono (by decide)) c7 (aU (ar 0) (aU (cT fN fK (sI G.yaY) (sI G.yaV)) bR)))).de (ue (qe pe ka (AL PySem.F.slot_str_count PySem.F.type_str_count O_ P9 (AL PySem.F.slot_str_join PySem.F.type_str_join EU Gd (iW []) (aW (fU fP fZ (ar 0) bj) be)) (aW (sI G.yaY) be)) (BQ G.yaW) rfl))))))
theorem Q_:cJ ["thing"] ["thing"] (a_ B6):=by ac_nf
theorem HE(G:dq K c b a):c8 (cE P w) P w K c b "check_blurred_view" 6 ["thing"] (cg K (sq a)) :=
 dA (k:=5) (pin:=[]) G.yae Q_ rfl (λ_ _ _ _ _ _ e h=>Pu.TB (λ_=>rfl) e h) (λf i A d s H E g=>by exact
  (bz (j9 (n0 (oD ((bT (Kr G) (g.mono (by decide)) c7 (aU (ar 0) bR))).de)) (bz (Gr Ev rfl G.yaU PySem.F.excBase_ValueError (iW [97,32,98,108,117,114,114,101,100,32,118,105,101,119,32,105,115,32,97,32,118,105,101,119,32,111,102,32,119,104,111,115,101,32,108,101,116,116,101,114,115,32,117,112,32,116,111,32,54,32,109,97,121,32,98,101,32,112,111,105,110,116,115]))) jZ)))
theorem NJ:cJ ["blurred_window","found","sign","letters","longer","start"] ["blurred_window"] (a_ xL):=by ac_nf
theorem Pr(G:dq K c b a):c8 (cE P w) P w K c b "windows_that_fit" 1 ["blurred_window"] (cg K (rL a)) :=
 dA (k:=0) (pin:=[]) G.yaH NJ rfl (λ_ _ _ _ _ _ h l=>Pu.TB (λ_=>rfl) h l) (λf n A g s H E j=>by exact
  (bq (fu 1 NJ.nd (jI (aW (iW []) be)))
  (bq (lf (jm 2 je rfl NJ.nd (ee (ar 0)) (bq (fu 3 NJ.nd (yo (gC (oz j.units) n8 (ar 2) (sI G.yaY) rfl) (sI G.yaV) (ar 2)))
  (bq (kD 4 NJ.nd (rJ be))
  (bq (jm 5 je rfl NJ.nd (ee (ar 1)) (bz (xU 4 (iN (cap:=[5]) (N':=["letter","start"]) (iQ.of ["blurred_window","found","sign","letters","longer","start"] (a_ xL) rfl rfl (by decide +kernel)) rfl (ee (ar 3)) (λC d e m i=>by exact lc) (λC d e m i=>by exact(cT fN fK (ar 1) (ar 0)))).de)))
  (bz (fu 1 NJ.nd (H_ 4))))))))
  (bz (dX (ar 1))))))
theorem J8:cJ ["blurred","ways","blurred_window","longer","windows","window"] ["blurred"] (a_ xn):=by ac_nf
theorem GW(G:dq K c b a):c8 (cE P w) P w K c b "clearing_views" 2 ["blurred"] (cg K (vy a)) :=
 dA (k:=1) (pin:=[]) G.yah J8 rfl (λ_ _ _ _ _ _ i l=>Pu.TB (λ_=>rfl) i l) (λf n A h s H E g=>by exact
  (bq (kD 1 J8.nd (LQ g.units (mJ be) l6))
  (bq (lf (jm 2 je rfl J8.nd (ee (fU fP fZ (ar 0) bj)) (bq (kD 3 J8.nd Me)
  (bq (LS 4 1 je rfl J8.nd (bz (jm 5 je rfl J8.nd (ee ((bT (Pr G) (g.mono (by decide)) i6 (aU (ar 2) bR))).de) (bz (Sz 3 g.units (sN sD sF G.yaT n_ (aW (uz rF sK G.yaR mQ (aW (cT K5 Of (ar 4) (mJ (aW (ar 5) be))) be)).de be)) l6)))))
  (bz (LN 1 3 J8.nd))))))
  (bz (xW (iN (cap:=[0]) (N':=["windows","blurred"]) (iQ.of ["blurred","ways","blurred_window","longer","windows","window"] (a_ xn) rfl rfl (by decide +kernel)) rfl (ee (RY 1 g.units rfl G.yaR).de) (λC d e m j=>by exact lc) (λC d e m j=>by exact(mJ (aW (fU fP fZ (ar 1) bj) (aW (ar 0) be))))))))))
theorem KO:cJ ["thing"] ["thing"] (a_ Be):=by ac_nf
theorem Qz(G:dq K c b a):c8 (cE P w) P w K c b "is_view" 5 ["thing"] (cg K (yt a)) :=
 dA (k:=4) (pin:=[]) G.yan KO rfl (λ_ _ _ _ _ _ e h=>Pu.TB (λ_=>rfl) e h) (λf i A d s H E g=>by exact
  (bz (zX (bT (EJ G) (g.mono (by decide)) c7 (aU (ar 0) (aU (sI G.yaV) bR))))))
theorem Sx:cJ ["thing"] ["thing"] (a_ Ce):=by ac_nf
theorem Hd(G:dq K c b a):c8 (cE P w) P w K c b "check_view" 6 ["thing"] (cg K (pI a)) :=
 dA (k:=5) (pin:=[]) G.yaf Sx rfl (λ_ _ _ _ _ _ e h=>Pu.TB (λ_=>rfl) e h) (λf i A d s H E g=>by exact
  (bz (j9 (n0 (oD ((bT (Qz G) (g.mono (by decide)) c7 (aU (ar 0) bR))).de)) (bz (Gr Ev rfl G.yaU PySem.F.excBase_ValueError (iW [97,32,118,105,101,119,32,105,115,32,97,32,116,117,112,108,101,32,111,102,32,97,32,119,105,100,116,104,32,97,110,100,32,97,32,114,105,115,105,110,103,32,116,117,112,108,101,32,111,102,32,49,32,116,111,32,57,32,119,105,110,100,111,119,115]))) jZ)))
theorem Nk:cJ ["windows","excess","window"] ["windows"] (a_ zY):=by ac_nf
theorem PX(G:dq K c b a):c8 (cE P w) P w K c b "excesses" 1 ["windows"] (cg K (rj a)) :=
 dA (k:=0) (pin:=[]) G.yaj Nk rfl (λ_ _ _ _ _ _ g h=>Pu.TB (λ_=>rfl) g h) (λf i A e s H E d=>by exact
  (bq (kD 1 Nk.nd (Lu))
  (bq (lf (jm 2 je rfl Nk.nd (ee (ar 0)) (bq (yY 1 d.units (lp lx lu (ar 2) l5 (kq (rX rN sJ bj))) (cT fN fK (GY 1 d.units (lp lx lu (ar 2) l5 (kq (rX rN sJ bj))) bj) bj))
  (bz (yY 1 d.units (lp lx lu (ar 2) (kq bj) l5) (cT xm xq (GY 1 d.units (lp lx lu (ar 2) (kq bj) l5) bj) bj))))))
  (bz (yu 1)))))
theorem RB:cJ ["windows","reached","known","window"] ["windows"] (a_ Af):=by ac_nf
theorem QE(G:dq K c b a):c8 (cE P w) P w K c b "reached_pieces" 1 ["windows"] (cg K (ou a)) :=
 dA (k:=0) (pin:=[]) G.yaG RB rfl (λ_ _ _ _ _ _ g h=>Pu.TB (λ_=>rfl) g h) (λf i A e s H E d=>by exact
  (bq (kD 1 RB.nd (ME (lp lx lu (fU fP fZ (ar 0) bj) l5 (kq (rX rN sJ bj))) l6))
  (bq (fu 2 RB.nd bj)
  (bq (lf (NV (λ_=>1000) je (gC BN ka (ar 2) (Hi 1 G.yaN) rfl) (bq (fu 2 RB.nd (Hi 1 G.yaN))
  (bz (jm 3 je rfl RB.nd (ee (ar 0)) (bz (j9 ((xD (AZ 1 d.units (lp lx lu (ar 3) l5 (kq (rX rN sJ bj)))) (xy (AZ 1 d.units (lp lx lu (ar 3) (kq bj) l5))))).dt (bq (yY 1 d.units (lp lx lu (ar 3) l5 (kq (rX rN sJ bj))) l6)
  (bz (yY 1 d.units (lp lx lu (ar 3) (kq bj) l5) l6))) jZ)))))))
  (bz (yu 1))))))
theorem P8:cJ ["windows","excess","starts","reached","places"] ["windows"] (a_ uT):=by ac_nf
theorem PD(G:dq K c b a):c8 (cE P w) P w K c b "find_bar" 2 ["windows"] (cg K (uC a)) :=
 dA (k:=1) (pin:=[]) G.yak P8 rfl (λ_ _ _ _ _ _ m n=>Pu.TB (λ_=>rfl) m n) (λf o A i s H E g=>by exact
  (bq (kD 1 P8.nd (((bT (PX G) (g.mono (by decide)) c7 (aU (ar 0) bR))).dn))
  (bq (Kl 2 P8.nd (cap:=[1]) (N':=["piece","excess"]) (iQ.of ["windows","excess","starts","reached","places"] (a_ uT) rfl rfl (by decide +kernel)) rfl (ee (NY 1 rfl G.yaR).de) (λC d e l h=>by exact oq (gC AI ka (Fz 1 g.units (ar 0)) bj rfl)) (λC d e l h=>by exact(ar 0)))
  (bq (j9 (gC AI ka (fO iU jr G.yaN jn (aW (ar 2) be)) bj rfl) (bz (dX (mJ (aW (iW [116,119,111]) (aW (fU fP fZ (ar 2) bj) (aW (fU fP fZ (ar 2) bj) be)))))) jZ)
  (bq (j9 ((Nd (gC (oz g.units) n8 (fO iU jr G.yaN jn (aW (ar 2) be)) bj rfl) (Kj (gC AI ka (Fz 1 g.units (fU fP fZ (ar 2) bj)) bj rfl)))).dt (bz (dX (mJ (aW (iW [109,111,114,101]) (aW (fU fP fZ (ar 2) bj) be))))) jZ)
  (bq (kD 3 P8.nd (((bT (QE G) (g.mono (by decide)) c7 (aU (ar 0) bR))).dn))
  (bq (Rw 4 P8.nd (cap:=[3]) (j:=5) (N':=["place","window","reached"]) (iQ.of ["windows","excess","starts","reached","places"] (a_ uT) rfl rfl (by decide +kernel)) rfl (P0 G.yaK (aW (ar 0) be)) (λC d e l h=>by exact oq (AZ 2 g.units (lp lx lu (ar 1) l5 (kq (rX rN sJ bj))))) (λC d e l h=>by exact(ar 0)))
  (bq (j9 (gC BN ka (fO iU jr G.yaN jn (aW (ar 4) be)) (fO iU jr G.yaN jn (aW (ar 0) be)) rfl) (bz (dX (mJ (aW (iW [97,112,97,114,116]) (aW (sN sD sF G.yaT n_ (aW (ar 4) be)) be))))) jZ)
  (bz (dX D3))))))))))
theorem O4:cJ ["view"] ["view"] (a_ Cb):=by ac_nf
theorem PJ(G:dq K c b a):c8 (cE P w) P w K c b "bar" 7 ["view"] (cg K (ut a)) :=
 dA (k:=6) (pin:=[]) G.yad O4 rfl (λ_ _ _ _ _ _ g h=>Pu.TB (λ_=>rfl) g h) (λf i A d s H E e=>by exact
  (bq (xj (bT (Hd G) (e.mono (by decide)) c7 (aU (ar 0) bR)))
  (bz (zX (bT (PD G) (e.mono (by decide)) c7 (aU (fU fP fZ (ar 0) bj) bR))))))
theorem Nq:cJ ["blurred"] ["blurred"] (a_ x_):=by ac_nf
theorem D7(G:dq K c b a):c8 (cE P w) P w K c b "cleared" 8 ["blurred"] (cg K (uD a)) :=
 dA (k:=7) (pin:=[]) G.yag Nq rfl (λ_ _ _ _ _ _ i l=>Pu.TB (λ_=>rfl) i l) (λf n A g s H E h=>by exact
  (bq (xj (bT (HE G) (h.mono (by decide)) c7 (aU (ar 0) bR)))
  (bz (xW (iN (cap:=[]) (N':=["view"]) (iQ.of ["blurred"] (a_ x_) rfl rfl (by decide +kernel)) rfl (ee ((bT (GW G) (h.mono (by decide)) c7 (aU (ar 0) bR))).de) (λC d e m j=>by exact oq (gC JS QX ((bT (PJ G) (h.mono (by decide)) i6 (aU (ar 0) bR))).de D3 rfl)) (λC d e m j=>by exact(ar 0)))))))
theorem Mr:cJ ["_law_rows","_law_made","_law_longer","_law_row"] ["_law_rows","_law_made"] (a_ xY):=by ac_nf
theorem K2(G:dq K c b a):c8 (cE P w) P w K c b "_law_times" 1 ["_law_rows","_law_made"] (cg K (vh a)) :=
 dA (k:=0) (pin:=[]) G.yaD Mr rfl (λ_ _ _ _ _ _ h j=>Pu.Tk (λ_ _=>rfl) h j) (λf n A g s H E m=>by exact
  (bq (kD 2 Mr.nd (rJ be))
  (bq (lf (jm 3 je rfl Mr.nd (ee (ar 0)) (bz (xU 2 (iN (cap:=[3]) (N':=["_law_line","_law_row"]) (iQ.of ["_law_rows","_law_made","_law_longer","_law_row"] (a_ xY) rfl rfl (by decide +kernel)) rfl (ee (ar 1)) (λC d e l i=>by exact lc) (λC d e l i=>by exact(cT fN fK (ar 1) (jI (aW (ar 0) be))))).de))))
  (bz (yu 2)))))
theorem Ow:cJ ["_law_made","_law_longer","_law_line"] ["_law_made"] (a_ yE):=by ac_nf
theorem Q0(G:dq K c b a):c8 (cE P w) P w K c b "_law_three" 1 ["_law_made"] (cg K (vt a)) :=
 dA (k:=0) (pin:=[]) G.yaC Ow rfl (λ_ _ _ _ _ _ h j=>Pu.TB (λ_=>rfl) h j) (λf n A g s H E m=>by exact
  (bq (kD 1 Ow.nd (rJ be))
  (bq (lf (jm 2 je rfl Ow.nd (ee (ar 0)) (bz (xU 1 (iN (cap:=[2]) (N':=["_law_letter","_law_line"]) (iQ.of ["_law_made","_law_longer","_law_line"] (a_ yE) rfl rfl (by decide +kernel)) rfl (ee (iW [97,98,99])) (λC d e l i=>by exact lc) (λC d e l i=>by exact(cT fN fK (ar 1) (ar 0)))).de))))
  (bz (yu 1)))))
theorem Kt:cJ ["_law_text_here","_law_width","_law_windows","_law_made"] ["_law_text_here","_law_width","_law_windows"] (a_ yZ):=by ac_nf
theorem Op(G:dq K c b a):c8 (cE P w) P w K c b "_law_under" 2 ["_law_text_here","_law_width","_law_windows"] (cg K (oy a)) :=
 dA (k:=1) (pin:=[]) G.yaE Kt rfl (λ_ _ _ _ _ _ h l=>Pu.Tu (λ_ _ _=>rfl) h l) (λf n A g s H E j=>by exact
  (bq (fu 3 Kt.nd ((bT (z6 G) (j.mono (by decide)) c7 (aU (ar 0) (aU (ar 1) bR)))).de)
  (bz (dX (fO (BS rfl) Cf G.yaI B_ (aW (iN (cap:=[3,2]) (N':=["_law_window","_law_made","_law_windows"]) (iQ.of ["_law_text_here","_law_width","_law_windows","_law_made"] (a_ yZ) rfl rfl (by decide +kernel)) rfl (ee (ar 3)) (λC d e m i=>by exact lc) (λC d e m i=>by exact(qe pe ka (Gh (ar 1) (ar 0)) (Gh (ar 2) (ar 0)) rfl))).de be))))))
theorem LY:cJ ["_law_asked","_law_width","_law_windows","_law_rows","_law_k","_law_longer","_law_line"] ["_law_asked"] (a_ ul):=by ac_nf
theorem EO(G:dq K c b a):c8 (cE P w) P w K c b "_law_all" 3 ["_law_asked"] (cg K (pH a)) :=
 dA (k:=2) (pin:=[]) G.yat LY rfl (λ_ _ _ _ _ _ l m=>Pu.TB (λ_=>rfl) l m) (λf n A h s H E i=>by exact
  (bq (R4 1 2 rfl LY.nd (ar 0))
  (bq (fu 3 LY.nd (jI (aW (iW []) be)))
  (bq (lf (jm 4 je rfl LY.nd (ux G.yaP (aW (cT xm xq (cT fN fK (fO iU jr G.yaN jn (aW (ar 2) be)) (ar 1)) bj) be)) (bq (kD 5 LY.nd (rJ be))
  (bq (jm 6 je rfl LY.nd (ee (ar 3)) (bz (xU 5 (iN (cap:=[6,1,2]) (N':=["_law_letter","_law_line","_law_width","_law_windows"]) (iQ.of ["_law_asked","_law_width","_law_windows","_law_rows","_law_k","_law_longer","_law_line"] (a_ ul) rfl rfl (by decide +kernel)) rfl (ee (iW [97,98,99])) (λC d e j g=>by exact oq (oD ((bT (Op G) (i.mono (by decide)) i6 (aU (cT fN fK (ar 1) (ar 0)) (aU (ar 2) (aU (ar 3) bR))))).de)) (λC d e j g=>by exact(cT fN fK (ar 1) (ar 0)))).de)))
  (bz (fu 3 LY.nd (H_ 5)))))))
  (bz (xW (iN (cap:=[1,2]) (N':=["_law_line","_law_width","_law_windows"]) (iQ.of ["_law_asked","_law_width","_law_windows","_law_rows","_law_k","_law_longer","_law_line"] (a_ ul) rfl rfl (by decide +kernel)) rfl (ee (ar 3)) (λC d e j g=>by exact oq (gC (oz i.units) n8 ((bT (z6 G) (i.mono (by decide)) i6 (aU (ar 0) (aU (ar 1) bR)))).de (ar 2) rfl)) (λC d e j g=>by exact(ar 0)))))))))
theorem QL:cJ ["_law_blurred_here","_law_rows","_law_other","_law_made","_law_sign","_law_views"] ["_law_blurred_here"] (a_ r_):=by ac_nf
theorem Qj(G:dq K c b a):c8 (cE P w) P w K c b "_law_filled" 4 ["_law_blurred_here"] (cg K (yw a)) :=
 dA (k:=3) (pin:=[]) G.yax QL rfl (λ_ _ _ _ _ _ l m=>Pu.TB (λ_=>rfl) l m) (λf n A j s H E g=>by exact
  (bq (fu 1 QL.nd (jI (aW (jI be) be)))
  (bq (lf (jm 2 je rfl QL.nd (ee (fU fP fZ (ar 0) bj)) (bq (fu 3 QL.nd (jI (aW (iW []) be)))
  (bq (jm 4 je rfl QL.nd (ee (ar 2)) (bz (fu 3 QL.nd (yo (gC (oz g.units) n8 (ar 4) (iW [46]) rfl) ((bT (Q0 G) (g.mono (by decide)) i6 (aU (ar 3) bR))).de (iN (cap:=[4]) (N':=["_law_line","_law_sign"]) (iQ.of ["_law_blurred_here","_law_rows","_law_other","_law_made","_law_sign","_law_views"] (a_ r_) rfl rfl (by decide +kernel)) rfl (ee (ar 3)) (λC d e i h=>by exact lc) (λC d e i h=>by exact(cT fN fK (ar 0) (ar 1)))).de))))
  (bz (fu 1 QL.nd ((bT (K2 G) (g.mono (by decide)) i6 (aU (ar 1) (aU (ar 3) bR)))).de))))))
  (bq (fu 5 QL.nd (dn_sortSetV g.units rfl (aW (iN (cap:=[0]) (N':=["_law_row","_law_blurred_here"]) (iQ.of ["_law_blurred_here","_law_rows","_law_other","_law_made","_law_sign","_law_views"] (a_ r_) rfl rfl (by decide +kernel)) rfl (ee (ar 1)) (λC d e i h=>by exact lc) (λC d e i h=>by exact(mJ (aW (fU fP fZ (ar 1) bj) (aW (sN sD sF G.yaT n_ (aW (uz rF sK G.yaR mQ (aW (ar 0) be)).de be)) be))))).de be) G.yaR G.yaQ).de)
  (bz (xW (iN (cap:=[]) (N':=["_law_asked"]) (iQ.of ["_law_blurred_here","_law_rows","_law_other","_law_made","_law_sign","_law_views"] (a_ r_) rfl rfl (by decide +kernel)) rfl (ee (ar 5)) (λC d e i h=>by exact oq (gC (rD g.units) sj ((bT (EO G) (g.mono (by decide)) i6 (aU (ar 0) bR))).de (jI be) rfl)) (λC d e i h=>by exact(ar 0)))))))))
theorem L9:cJ ["blurred","view"] ["blurred","view"] (a_ AN):=by ac_nf
theorem M8(G:dq K c b a):c8 (cE P w) P w K c b "clears" 7 ["blurred","view"] (cg K (rO a)) :=
 dA (k:=6) (pin:=[]) G.yai L9 rfl (λ_ _ _ _ _ _ g h=>Pu.Tk (λ_ _=>rfl) g h) (λf i A e s H E d=>by exact
  (bq (xj (bT (HE G) (d.mono (by decide)) c7 (aU (ar 0) bR)))
  (bq (xj (bT (Hd G) (d.mono (by decide)) c7 (aU (ar 1) bR)))
  (bz (dX (qe (K9 d.units) RE (ar 1) ((bT (GW G) (d.mono (by decide)) c7 (aU (ar 0) bR))).de rfl))))))
def yas(a:Ad):aj->R aM:=aH (cU 1 (dL cQ (aE)))
 (aH (bM 2 (bo (aY (gJ a) (gV (dV 0) (gO 1 (gV (dC (.int 5)) (bN)))))))
 (aH (bM 3 (bo (aY (uV a) (gV (dV 0) (gO 1 (gV (dF (dL cQ (aC (dC (.int 0)) (aC (dC (.int 0)) (aC (dC (.int 1)) (aC (dC (.int 2)) (aE))))))) (bN)))))))
 (aH (bM 4 (bo (aY (ub a) (gV (dV 0) (gO 1 (gV (dV 3) (gV (dC (.int 6)) (bN))))))))
 (aH (bM 5 (bo (aY (yn a) (gV (dV 0) (gO 1 (gV (dV 4) (gV (dV 2) (bN))))))))
 (aH (bM 6 (bo (aY (uD a) (gV (dV 5) (bN)))))
 (aH (cL (lV (dB (d2 (eqT ah) (dV 6) (bo (aY (yw a) (gV (dV 5) (bN)))))) (jW (dB (dL i7 (aC (dV 6) (aC (dC (.raw (.ty "list"))) (aE))))))) (cI (dC (.bl ak))) (gt))
 (aH (cL (dB (d2 (eqT ah) (dF (bO [5] (aT (dV 6)) (jW (dB (bo (aY (rO a) (gV (dV 1) (gV (dV 0) (bN))))))) (dV 0))) (dF (dL cQ (aE))))) (cI (dC (.bl ak))) (gt))
 (cI (d2 (eqT ak) (bo (aY (uD a) (gV (dV 4) (bN)))) (cL (dB (d2 (eqT ah) (bo (aY (pH a) (gV (dV 4) (bN)))) (dF (dL cQ (aE))))) (dF (dL cQ (aC (dV 4) (aE)))) (dF (dL cQ (aE)))))))))))))
def uy(a:Ad):aj->R Slot:=bU 1 [] (bS 6 (yas a))
theorem OC:cJ ["_law_script","_law_town","_law_few","_law_spoil","_law_asked","_law_blurred_here","_law_made"] ["_law_script"] (a_ uc):=by ac_nf
theorem Ol(G:dq K c b a){f:af}{i:ja}(o:pG K "law" "law" uc f i):lg P w K c b (cE P w) 9 f i ["_law_script"] (cg K (uy a)) :=
 Nc (k:=8) (pin:=[]) o OC rfl (λ_ _ _ _ _ _ j m=>Pu.TB (λ_=>rfl) j m) (λf p A h s H E d=>by exact
  (bq (kD 1 OC.nd (rJ be))
  (bq (fu 2 OC.nd ((bT (lW G) (d.mono (by decide)) c7 (aU (ar 0) (iP 1 (aU bj bR))))).de)
  (bq (fu 3 OC.nd ((bT (Ie G) (d.mono (by decide)) c7 (aU (ar 0) (iP 1 (aU (jI (aW bj (aW bj (aW bj (aW bj be))))) bR))))).de)
  (bq (fu 4 OC.nd ((bT (QF G) (d.mono (by decide)) c7 (aU (ar 0) (iP 1 (aU (ar 3) (aU bj bR)))))).de)
  (bq (fu 5 OC.nd ((bT (Qq G) (d.mono (by decide)) c7 (aU (ar 0) (iP 1 (aU (ar 4) (aU (ar 2) bR)))))).de)
  (bq (fu 6 OC.nd ((bT (D7 G) (d.mono (by decide)) c7 (aU (ar 5) bR))).de)
  (bq (j9 ((xD (gC (rD d.units) sj (ar 6) ((bT (Qj G) (d.mono (by decide)) c7 (aU (ar 5) bR))).de rfl) (xy (n0 (oD (fO rm rW G.yaM r8 (aW (ar 6) (aW (rE G.yaO xH) be)))))))).dt (bz (dX l6)) jZ)
  (bq (j9 (gC (rD d.units) sj (iN (cap:=[5]) (N':=["_law_some","_law_blurred_here"]) (iQ.of ["_law_script","_law_town","_law_few","_law_spoil","_law_asked","_law_blurred_here","_law_made"] (a_ uc) rfl rfl (by decide +kernel)) rfl (ee (ar 6)) (λC e g n l=>by exact oq (n0 (oD ((bT (M8 G) (d.mono (by decide)) i6 (aU (ar 1) (aU (ar 0) bR)))).de))) (λC e g n l=>by exact(ar 0))).de (jI be) rfl) (bz (dX l6)) jZ)
  (bz (dX (qe (oz d.units) n8 ((bT (D7 G) (d.mono (by decide)) c7 (aU (ar 4) bR))).de (yo (gC (rD d.units) sj ((bT (EO G) (d.mono (by decide)) c7 (aU (ar 4) bR))).de (jI be) rfl) (jI (aW (ar 4) be)) (jI be)) rfl))))))))))))
end
end K08
namespace Mx
open L2 Pu
def bV:Tx:=[97,98,99]
def dN:Nat->List Tx
 |0=>[[]]
 |k+1=>bV.flatMap λc=>(dN k).map (c::·)
theorem mS:∀(k:Nat) (x:Tx),x∈dN k↔x.length=k/\∀c∈x,c∈bV
 |0,x=>by
  simp only[dN,gQ];constructor
  .rintro rfl;simp
  .rintro⟨h,_⟩;exact qF.mp h
 |k+1,x=>by
  simp only[dN,tN,bI];constructor
  .rintro⟨c,g,y,f,rfl⟩;obtain⟨e,b⟩:=(mS k y).mp f;refine⟨by simp[e],λd a=>?_⟩;rcases br.mp a with rfl|a
   .exact g
   .exact b d a
  .rintro⟨e,b⟩;cases x with
   |nil=>cases e
   |cons c y=>exact⟨c,b c (by simp),y,(mS k y).mpr ⟨zz e,λd a=>b d (by simp[a])⟩,rfl⟩
theorem HD:∀k:Nat,(dN k).length=3^k
 |0=>rfl
 |k+1=>by simp only[dN,bV,oQ,List.flatMap_nil,eY,bZ,HD k,nk,v8];lia
theorem FY(i j:Nat):dN (i+j)=(dN i).flatMap λh=>(dN j).map (h++·):=by
 induction i with
 |zero=>simp[dN]
 |succ i a=>rw[show i+1+j=(i+j)+1 by lia];simp only[dN,a,List.flatMap_assoc,List.map_flatMap,List.flatMap_map,cB,lD,qB]
theorem KG(k:Nat):dN (k+1)=(dN k).flatMap λh=>bV.map λc=>h++[c]:=by rw[FY k 1];congr 1
theorem BL:∀k:Nat,(dN k).Pairwise (λa b=>a<b)
 |0=>by simp[dN]
 |k+1=>by
  simp only[dN];rw[List.pairwise_flatMap];refine⟨λc _=>?_,?_⟩
  .rw[oI];exact(BL k).imp λh=>C_.mpr (.inr ⟨rfl,h⟩)
  .have:bV.Pairwise (λa b=>a<b):=by decide
   refine this.imp λh=>?_;intro x e y d;obtain⟨g,_,rfl⟩:=bI.mp e;obtain⟨f,_,rfl⟩:=bI.mp d;exact C_.mpr (.inl h)
theorem JX{a b:Tx}(h:a<b):cM a b=ah:=by simp only[cM,decide_eq_true_eq];exact List.le_of_lt h
theorem Kz(k:Nat):(dN k).Pairwise (λa b=>cM a b=ah):=(BL k).imp JX
theorem N7(k:Nat):(dN k).Nodup:=(BL k).imp λh z=>by subst z;exact List.lt_irrefl _ h
def a6(z:Tx)(w:Nat):List Tx:=((cG z.length).filter λi=>decide (i+w<=z.length)).map λi=>(z.drop i).take w
theorem Gj(w L:Nat):∀m:Nat,(cG m).filter (λi=>decide (i+w<=L))=cG (min m (L+1-w))
 |0=>by simp
 |m+1=>by
  rw[tq,List.filter_append,Gj w L m];by_cases h:m+w<=L
  .rw[show min m (L+1-w)=m by lia,show min (m+1) (L+1-w)=m+1 by lia,tq];simp[h]
  .rw[show min (m+1) (L+1-w)=min m (L+1-w) by lia];simp[h]
theorem qc(z:Tx)(w:Nat)(a:1<=w):a6 z w=(cG (z.length+1-w)).map λi=>(z.drop i).take w:=by unfold a6;rw[Gj,show min z.length (z.length+1-w)=z.length+1-w by lia]
def nw(w:Nat)(t:Tx):Tx->List Tx
 |[]=>[]
 |c::s=>(t.drop (t.length+1-w)++[c])::nw w (t++[c]) s
theorem Hr(w:Nat)(b:1<=w):∀(s t:Tx),w<=t.length+1->nw w t s=(cG s.length).map λi=>((t++s).drop (t.length+1-w+i)).take w
 |[],t,_=>by simp[nw]
 |c::s,t,h=>by
  rw[nw,Hr w b s (t++[c]) (by simp;lia),d8,IS,bE,cB];congr 1
  .show _=((t++c::s).drop (t.length+1-w)).take w;rw[CC ∅,List.take_append];have a:(t.drop (t.length+1-w)).length=w-1:=by rw[mo];lia
   rw[a,nt (by rw[a];lia),show w-(w-1)=1 by lia];rfl
  .refine jP λi _=>?_;simp only[oR];rw[eY,Cv,show t.length+1+1-w+i=t.length+1-w+Nat.succ i by lia];simp
theorem Ah{w:Nat}(a:1<=w){h s:Tx}(b:h.length=w-1):a6 (h++s) w=nw w h s:=by rw[qc _ _ a,Hr w a s h ∅,eY,show h.length+s.length+1-w=s.length by lia];refine jP λi _=>?_;rw[show h.length+1-w+i=i by lia]
theorem Hb{w:Nat}(a:1<=w)(t:Tx)(c:Nat):a6 (t++[c]) w=a6 t w++(if w<=t.length+1 then [((t++[c]).drop (t.length+1-w)).take w] else []):=by
 rw[qc _ _ a,qc _ _ a,eY,Cv];by_cases h:w<=t.length+1
 .rw[if_pos h,show t.length+1+1-w=(t.length+1-w)+1 by lia,tq,vU];congr 1;refine jP λi b=>?_;have b:i<t.length+1-w:=by simpa using b
  rw[CC ∅,Jp (by rw[mo];lia)]
 .rw[if_neg h,show t.length+1+1-w=0 by lia,show t.length+1-w=0 by lia];simp
def r9(w:Nat):Nat->Tx->List Tx->List Tx
 |0,t,_=>[t]
 |r+1,t,q=>bV.flatMap λc=>if t.drop (t.length+1-w)++[c]∈q then r9 w r (t++[c]) (q.erase (t.drop (t.length+1-w)++[c]))else []
theorem Ea(w:Nat):∀(r:Nat) (t:Tx) (q:List Tx),q.length=r->r9 w r t q=((dN r).filter λs=>(nw w t s).isPerm q).map (t++·)
 |0,t,q,hq=>by have:q=[]:=qF.mp hq;subst this;simp[r9,dN,nw,List.isPerm]
 |r+1,t,q,hq=>by
  simp only[r9,dN,Jq,List.map_flatMap];congr 1;funext c;rw[qG,cB];by_cases h:t.drop (t.length+1-w)++[c]∈q
  .rw[if_pos h,Ea w r (t++[c]) _ (by rw[C5 h,hq];rfl)];have e:((λs=>(nw w t s).isPerm q) ∘ λx=>c::x)=λs=>(nw w (t++[c]) s).isPerm (q.erase (t.drop (t.length+1-w)++[c])):=by funext s;show(q.contains (t.drop (t.length+1-w)++[c])&&(nw w (t++[c]) s).isPerm (q.erase (t.drop (t.length+1-w)++[c])))=_;rw[List.contains_iff_mem.mpr h,zk]
   rw[e];refine jP λs _=>?_;simp
  .rw[if_neg h];have e:((λs=>(nw w t s).isPerm q) ∘ λx=>c::x)=λ_=>ak:=by
    funext s;show(q.contains (t.drop (t.length+1-w)++[c])&&(nw w (t++[c]) s).isPerm (q.erase (t.drop (t.length+1-w)++[c])))=_;have:q.contains (t.drop (t.length+1-w)++[c])=ak:=by rw[C6];intro z;exact h (List.contains_iff_mem.mp z)
    rw[this,Bool.false_and]
   rw[e];simp
def iR(w:Nat)(ls:List Tx):List Tx:=(aV (uW (ls.map zK))).flatMap λh=>r9 w ls.length h ls
theorem Gf{a b:Type}{l:List a}{f:a->List b}(p:a->Bool)(h:∀x∈l,p x=ak->f x=[]):l.flatMap f=(l.filter p).flatMap f:=by
 induction l with
 |nil=>rfl
 |cons x l c=>
  rw[oQ,c λy d=>h y (by simp[d]),tO];cases e:p x with
  |true=>simp
  |false=>rw[h x (by simp) e];simp
theorem BJ{w:Nat}{a:List Tx}(f:1<=w)(C:1<=a.length)(i:∀x∈a,x.length=w/\∀c∈x,c∈bV):iR w a=(dN (w-1+a.length)).filter λz=>(a6 z w).isPerm a:=by
 rw[FY,Jq];have A:(λh=>((dN a.length).map (h++·)).filter λz=>(a6 z w).isPerm a)=λh=>((dN a.length).filter λs=>(a6 (h++s) w).isPerm a).map (h++·):=by funext h;rw[qG];rfl
 rw[A,Gf (λh=>decide (h∈a.map zK))]
 .have v:(dN (w-1)).filter (λh=>decide (h∈a.map zK))=aV (uW (a.map zK)):=by
   refine vo ?_ ((Kz (w-1)).filter _);refine(Jr ((N7 (w-1)).filter _) (R7 _)).mpr λx=>?_;rw[kI,decide_eq_true_eq,FK,mS];refine⟨λh=>h.2,λh=>⟨?_,h⟩⟩;obtain⟨y,d,rfl⟩:=bI.mp h;obtain⟨r,q⟩:=i y d;exact⟨by rw[List.length_dropLast,r],λc p=>q c ((List.dropLast_sublist _).mem p)⟩
  rw[v];unfold iR;have:∀l:List Tx,(∀h∈l,h.length=w-1)->l.flatMap (λh=>r9 w a.length h a)=l.flatMap λh=>((dN a.length).filter λs=>(a6 (h++s) w).isPerm a).map (h++·):=by
   intro l
   induction l with
   |nil=>intro _;rfl
   |cons h l m=>
    intro b;rw[oQ,oQ,m λy d=>b y (by simp[d]),Ea w _ h a rfl];have u:(λs=>(nw w h s).isPerm a)=λs=>(a6 (h++s) w).isPerm a:=by funext s;rw[Ah f (b h (by simp))]
    rw[u]
  refine this _ λh b=>?_;have o:=(FK _ _).mp ((fc _).mem_iff.mp b);obtain⟨y,d,rfl⟩:=bI.mp o;rw[List.length_dropLast,(i y d).1]
 .intro h b g;have B:=((mS _ h).mp b).1;rw[List.map_eq_nil_iff,List.filter_eq_nil_iff];intro s n e;have j:=((mS _ s).mp n).1;rw[Ah f B,List.isPerm_iff]at e;cases s with
  |nil=>rw[nk]at j;lia
  |cons c s=>rw[nw,show h.length+1-w=0 by lia,List.drop_zero]at e;have:h++[c]∈a:=e.mem_iff.mp (by simp);rw[decide_eq_false_iff_not]at g;exact g (bI.mpr ⟨_,this,by simp⟩)
def unD(w:Nat)(a:List Tx)(t:Tx):Bool:=(a6 t w).all λx=>decide ((a6 t w).count x<=a.count x)
theorem Fx{w:Nat}{a:List Tx}{t:Tx}:unD w a t=ah↔∀x,(a6 t w).count x<=a.count x:=by
 unfold unD;rw[ki];constructor
 .intro h x;by_cases b:x∈a6 t w
  .simpa using h x b
  .rw[List.count_eq_zero_of_not_mem b];lia
 .intro h x _;simpa using h x
theorem Lw{w:Nat}(b:1<=w){a:List Tx}{t:Tx}{c:Nat}(h:unD w a (t++[c])=ah):unD w a t=ah:=by rw[Fx]at h ⊢;intro x;have:=h x;rw[Hb b,Df]at this;lia
def rowsOf(w:Nat)(a:List Tx)(k:Nat):List Tx:=(dN k).filter (unD w a)
theorem Kd{w:Nat}(b:1<=w)(a:List Tx):rowsOf w a 0=[[]]:=by simp[rowsOf,dN,unD,a6]
theorem Qk{w:Nat}(e:1<=w)(a:List Tx)(k:Nat):rowsOf w a (k+1)=(rowsOf w a k).flatMap λt=>(bV.map λc=>t++[c]).filter (unD w a):=by
 unfold rowsOf;rw[KG,Jq];refine Gf _ λt _ b=>?_;rw[List.filter_eq_nil_iff];intro z d f;obtain⟨c,_,rfl⟩:=bI.mp d;rw[Lw e f]at b;cases b
theorem R8(w:Nat)(a:List Tx)(k:Nat):(rowsOf w a k).length<=3^k:=by rw[<-HD k];exact Js _ _
theorem Li{w:Nat}{c:List Tx}(d:c.Pairwise (λa b=>cM a b=ah))(L:Nat):(rowsOf w c L).filter (λz=>decide (aV (a6 z w)=c))=(dN L).filter λz=>(a6 z w).isPerm c:=by
 unfold rowsOf;rw[List.filter_filter];refine List.filter_congr λz _=>?_;rw[jv,h_,decide_eq_true_eq,List.isPerm_iff];constructor
 .rintro⟨h,_⟩;rw[<-h];exact(fc _).symm
 .intro h;refine⟨by rw[rq h,mW d],?_⟩;rw[Fx];intro x;rw[h.count_eq];exact aZ _
end Mx
namespace Sh
open L2 Pu Mx
theorem Qs{c:Type}{f:List PV->Option c}{d:aj->R (List PV)}{ε a:aj}{b:List PV}{v:c}(h:d ε=.ok b a)(e:f b=aa v):dL f d ε=.ok v a:=by unfold dL;rw[h];show aO (f b) a=_;rw[e];rfl
theorem No{d:aj->R PV}{c:aj->R (List PV)}{ε a b:aj}{x:PV}{e:List PV}(h:d ε=.ok x a)(f:c a=.ok e b):aC d c ε=.ok (x::e) b:=by unfold aC;rw[h];show(c a).bind _=_;rw[f];rfl
theorem LJ{ε:aj}:aE ε=.ok [] ε:=rfl
theorem yi{f:PV->PV->Option PV}{c db:aj->R PV}{ε b a:aj}{x y z:PV}(h:c ε=.ok x b)(e:db b=.ok y a)(d:f x y=aa z):d2 f c db ε=.ok z a:=by unfold d2;rw[h];show(db b).bind _=_;rw[e];show aO (f x y) a=_;rw[d];rfl
section
theorem AQ{ls:List Tx}(h:ls.length<=1000000):iS [.lst (am ls)]=aa (.lst (am (aV ls))):=by show(gp (am ls)).bind _=_;rw[pr,gR,if_pos h]
end
section
variable{a:Ad}
abbrev cu(b:List Int):Slot:=.val (.lst (b.map .int))
theorem HJ(b:List Int)(k:Int)(d:0<=k)(h:k<b.length):∃v,fV (b.map PV.int) k=aa (.int v):=by
 have c:k.toNat<b.length:=∅
 refine⟨b[k.toNat],?_⟩;rw[yC d (by rw[bZ];exact c)];simp
theorem Mz(b:List Int):Pu.eqT ak (.lst (b.map .int)) (.lst [])=aa (.bl b.isEmpty):=by
 cases b with
 |nil=>rfl
 |cons x c=>
  have e:∀l:List Int,c_ (l.map .int)=0:=λl=>by induction l with|nil=>rfl|cons y l d=>simp[c_,eX,d]
  have:c_ ((x::c).map .int)=0:=e _;simp only[bE]at this;simp[Pu.eqT,dS,cF,dW,eX,this]
theorem yr(b:Bool)(i j:Int):Pu.eqT b (.int i) (.int j)=aa (.bl (b^^decide (i=j))):=by show(if pZ (V.int i) (V.int j)then aa (PV.bl (b^^decide (V.int i=V.int j)))else ae)=_;have:pZ (V.int i) (V.int j)=ah:=rfl;rw[if_pos this];simp
theorem xT(b:Bool)(x y:Tx):Pu.eqT b (.str x) (.str y)=aa (.bl (b^^decide (x=y))):=by show(if pZ (tV x) (tV y)then aa (PV.bl (b^^decide (tV x=tV y)))else ae)=_;have:pZ (tV x) (tV y)=ah:=rfl;rw[if_pos this];have e:(tV x=tV y)=(x=y):=propext ⟨MW,λh=>by rw[h]⟩;simp only[e]
theorem KI(b:List Int)(k:Int)(i:0<=k):∃v,rV a [cu b,⇑k]=.ok (⇑v) [cu b,⇑k]:=by
 by_cases h:k<b.length
 .obtain⟨v,d⟩:=HJ b k i h;refine⟨v,?_⟩;simp![rV,yav,b7,bB,d,h]
 .have e:=Mz b;by_cases f:b=[]
  .subst f;refine⟨0,?_⟩;simp only[zj,List.isEmpty_nil]at e;have j:¬k<0:=∅
   simp![rV,yav,b7,bB,e,j]
  .have m:0<b.length:=by cases b with|nil=>exact absurd rfl f|cons=>simp
   obtain⟨v,d⟩:=HJ b (k % b.length) (zF _ ∅) (zE _ ∅);refine⟨v*31+k,?_⟩;have l:b.isEmpty=ak:=by cases b with|nil=>exact absurd rfl f|cons=>rfl
   rw[l]at e;have g:gD (.int k) (.int (b.length:Int))=aa (.int (k % b.length)):=by simp[gD];lia
   have c:ln (.int v) (.int 31)=aa (.int (v*31)):=by simp[ln,vB]
   simp![rV,yav,b7,bB,h,e,g,d,c,ba]
theorem On(b:List Int)(k m:Int)(p:0<=k)(h:0<m):∃v,0<=v/\v<m/\yT a [cu b,⇑k,⇑m]=.ok (⇑v) [cu b,⇑k,⇑m]:=by
 obtain⟨c,o⟩:=KI (a:=a) b k p;have q:0<=(c*1103515245+7919*k+12345) % 2147483647:=zF _ (by decide);have d1:(c*1103515245+7919*k+12345) % 2147483647<2147483647:=zE _ (by decide);have n:ln (.int c) (.int 1103515245)=aa (.int (c*1103515245)):=by simp[ln,vB]
 have l:ln (.int 7919) (.int k)=aa (.int (7919*k)):=by simp[ln,vB]
 have g:gD (.int (c*1103515245+7919*k+12345)) (.int 2147483647)=aa (.int ((c*1103515245+7919*k+12345) % 2147483647)):=by simp[gD]
 generalize (c*1103515245+7919*k+12345) % 2147483647=d at q d1 g;have j:uP (.int d) (.int 5)=aa (.int (d^5)):=by
  have:d.natAbs<2^64:=∅
  simp[uP,this]
 have f:gD (.int (d^5)) (.int 2147483647)=aa (.int (d^5 % 2147483647)):=by simp[gD]
 generalize d^5 % 2147483647=d5 at f;have e:gD (.int d5) (.int 999983)=aa (.int (d5 % 999983)):=by simp[gD]
 generalize d5 % 999983=d6 at e;have i:gD (.int d6) (.int m)=aa (.int (d6 % m)):=by simp[gD,h]
 refine⟨d6 % m,zF _ ∅,zE _ h,?_⟩;simp![yT,yay,o,n,l,g,j,f,e,i,ba]
theorem me(c:List Int)(b:List PV)(m:Int)(h:0<m)(i:b.length<=1000):∃v,0<=v/\v<m/\gJ a [cu c,.own (.lst b),⇑m]=.ok (⇑v) [cu c,.own (.lst (b++[.int 0])),⇑m]:=by
 obtain⟨v,e,d,g⟩:=On (a:=a) c ((b.length:Int)+1) m ∅ h;refine⟨v,e,d,?_⟩;have f:b.length<bv:=by unfold bv;lia
 simp![gJ,yaw,b7,f,g]
theorem Fi{c:Type}(b:List c)(v:Int)(e:0<=v)(f:v<b.length):∃x∈b,fV b v=aa x:=by
 have d:v.toNat<b.length:=∅
 exact⟨b[v.toNat],zI _,yC e d⟩
theorem G9(d:List Int)(c b:List PV)(h:c.length<=1000)(l:0<b.length):∃x∈b,uV a [cu d,.own (.lst c),.val (.lst b)]=.ok (.val x) [cu d,.own (.lst (c++[.int 0])),.val (.lst b)]:=by obtain⟨v,g,f,i⟩:=me (a:=a) d c (b.length:Nat) ∅ h;obtain⟨x,j,e⟩:=Fi b v g f;refine⟨x,j,?_⟩;simp![uV,yaz,b7,bB,i,e]
theorem vi{n:Nat}(h:n<=1000000):j8 [.int n]=aa (eO 0 n):=by show(if(n:Int)<=1000000/\-1000000<=(n:Int)then aa (eO 0 (n:Int).toNat)else ae)=_;rw[if_pos ⟨∅,∅⟩];simp
theorem pQ{x y:Tx}(h:x.length+y.length<=bv):ba (.str x) (.str y)=aa (.str (x++y)):=by show(if(x++y).length<=bv then aa (PV.str (x++y))else ae)=_;rw[if_pos (by rw[eY];exact h)]
theorem cr{d1 d2:aj->R aM}{ε ε1:aj}(h:d1 ε=.ok .next ε1):aH d1 d2 ε=d2 ε1:=by unfold aH;rw[h]
theorem sC{i:Nat}{d:aj->R PV}{ε ε1:aj}{x:PV}(h:d ε=.ok x ε1):bM i d ε=.ok .next (ε1.set i (.val x)):=by unfold bM;rw[h];rfl
theorem uE{i:Nat}{db:aj->R aM}{I:Nat->aj->Prop}{N:Nat}(step:∀k ε x,k<N->I k ε->∃b,db (ε.set i (.val x))=.ok .next b/\I (k+1) b):∀(c:List PV) (k:Nat) (ε:aj),k+c.length<=N->I k ε->∃b,fE i db c ε=.ok .next b/\I (k+c.length) b
 |[],k,ε,_,h=>⟨ε,rfl,h⟩
 |x::c,k,ε,e,h=>by simp only[d8]at e;obtain⟨ε1,l,g⟩:=step k ε x ∅ h;obtain⟨d,j,f⟩:=uE step c (k+1) ε1 ∅ g;refine⟨d,by unfold fE;rw[l];exact j,?_⟩;rw[d8,show k+(c.length+1)=k+1+c.length by lia];exact f
theorem ma{i:Nat}{db:aj->R aM}{I:List PV->aj->Prop}(step:∀(x:PV) (r:List PV) ε,I (x::r) ε->∃b,db (ε.set i (.val x))=.ok .next b/\I r b):∀(c:List PV) (ε:aj),I c ε->∃b,fE i db c ε=.ok .next b/\I [] b
 |[],ε,h=>⟨ε,rfl,h⟩
 |x::c,ε,h=>by obtain⟨ε1,j,f⟩:=step x c ε h;obtain⟨d,g,e⟩:=ma step c ε1 f;exact⟨d,by unfold fE;rw[j];exact g,e⟩
theorem GC(h:List Int)(g:List PV)(b most:Nat)(L:b<=most)(W:most<=100)(T:g.length<=500):∃(z:Tx) (e:List PV),b<=z.length/\z.length<=most/\(∀c∈z,c∈bV)/\e.length<=g.length+2+most /\ rG a [cu h,.own (.lst g),⇑b,⇑most]=.ok (↥z) [cu h,.own (.lst e),⇑b,⇑most]:=by
 obtain⟨f,w,J⟩:=G9 (a:=a) h g [.int 1,.int 2,.int 2,.int 3,.int 3,.int 3] ∅ (by decide);obtain⟨few,rfl,O,Y⟩:∃few:Int,f=.int few/\0<few/\few<=3:=by simp only[br,gc,or_false]at w;rcases w with rfl|rfl|rfl|rfl|rfl|rfl <;> exact⟨_,rfl,by decide,by decide⟩
 obtain⟨m,S,Q,j⟩:=me (a:=a) h (g++[.int 0]) ((most:Int)-b+1) ∅ (by simp;lia);obtain⟨n,K⟩:∃n:Nat,(b:Int)+m=n:=⟨(b+m).toNat,∅⟩
 have H:j8 [.int ((b:Int)+m)]=aa (eO 0 n):=by rw[K];exact vi ∅
 have Z:(eO 0 n).length=n:=by simp[eO]
 obtain⟨A,y,e,z,l,rfl,u,F,r⟩:=uE (i:=6) (db:=bM 5 (d2 ba (dV 5) (d2 bB (dC (.str [97,98,99])) (bo (aY (gJ a) (gV (dV 0) (gO 1 (gV (dV 4) (Pu.bN)))))))))
  (I:=λk s=>∃e z l,s=[cu h,.own (.lst e),⇑b,⇑most,⇑few,↥z,l]/\z.length=k/\e.length<=g.length+2+k/\∀c∈z,c∈bV) (N:=n)
  (by
   rintro k s x X ⟨e,z,l,rfl,u,F,r⟩;obtain⟨v,B,P,G⟩:=me (a:=a) h e few O ∅;obtain⟨c,M,D⟩:=Fi bV v B (by simp[bV];lia);refine⟨[cu h,.own (.lst (e++[.int 0])),⇑b,⇑most,⇑few,↥(z++[c]),.val x],?_,e++[.int 0],z++[c],.val x,rfl,by simp[u],by simp;lia,λd j=>?_⟩
   .have o:bB (.str [97,98,99]) (.int v)=aa (.str [c]):=by
     show(fV bV v).map _=_;rw[D];rfl
    have E:ba (.str z) (.str [c])=aa (.str (z++[c])):=pQ (by simp[bv];lia);simp![G,o,E]
   .simp only[gv,gQ]at j;rcases j with j|rfl
    .exact r d j
    .exact M)
  (eO 0 n) 0 [cu h,.own (.lst (g++[.int 0]++[.int 0])),⇑b,⇑most,⇑few,.val (.str []),.none] ∅ ⟨g++[.int 0]++[.int 0],[],.none,rfl,rfl,by simp,by simp⟩
 refine⟨z,e,∅,∅,r,∅,?_⟩;have C:lm (.int most) (.int b)=aa (.int ((most:Int)-b)):=rfl;have q:ba (.int ((most:Int)-b)) (.int 1)=aa (.int ((most:Int)-b+1)):=rfl;have p:ba (.int b) (.int m)=aa (.int ((b:Int)+m)):=rfl;simp only[gP,qB,fq]at y;simp![rG,yaB,J,C,q,p,j,ca,H,dJ,y]
theorem iq{cap:List Nat}{dt:aj->R Bool}{de:aj->R PV}{ε:aj}(p:PV->Bool)(f:PV->PV):∀(c:List PV),(∀x∈c,bC (bX cap dt x ε)=.ok (p x) ε/\(p x=ah->bC (bX cap de x ε)=.ok (f x) ε))->∀b,iy cap dt de c b ε=.ok (b++(c.filter p).map f) ε
 |[],_,b=>by simp[iy]
 |x::c,h,b=>by
  have g:=h x (by simp);have e:=iq p f c (λy i=>h y (by simp[i]));unfold iy;rw[g.1];simp only[R.bind_ok];cases d:p x with
  |false=>simp only[e b,tO,d];simp
  |true=>simp only[g.2 d,R.bind_ok,e (b++[f x]),tO,d];simp
theorem N2{z:Tx}{i w:Nat}(h:i+w<=z.length):g9 z (aa (i:Int)) (aa ((i:Int)+w))=(z.drop i).take w:=by
 unfold g9;have c:HT.sIx z.length 0 (aa (i:Int))=i:=by rw[HT.sIx_nat];lia
 have b:HT.sIx z.length z.length (aa ((i:Int)+w))=i+w:=by rw[show(i:Int)+w=((i+w:Nat):Int) by lia,HT.sIx_nat];lia
 rw[c,b,Nat.add_sub_cancel_left]
theorem BC(z:Tx)(w:Nat)(n:z.length<=60):oh a [↥z,⇑w]=.ok (.val (.tup (am (aV (a6 z w))))) [↥z,⇑w]:=by
 have f:j8 [.int (z.length:Nat)]=aa (eO 0 z.length):=vi ∅;have b:=iq (cap:=[0,1]) (dt:=(dB (d2 (dI λi j=>decide (i<=j)) (d2 ba (dV 0) (dV 2)) (dL b7 (aC (dV 1) (aE)))))) (de:=(et fg (dV 1) (dU (dV 0)) (dU (d2 ba (dV 0) (dV 2)))))
  (ε:=[↥z,⇑w]) (λx=>match x with|.int i=>decide (i+w<=z.length)|_=>ak) (λx=>match x with|.int i=>.str (g9 z (aa i) (aa (i+w)))|_=>.non) (eO 0 z.length)
  (by
   intro x d;simp only[eO,bI]at d;obtain⟨i,e,rfl⟩:=d;refine⟨?_,λh=>?_⟩
   .simp![bX,b_,bC,b7,ba]
   .simp![bX,b_,bC,b7,ba,et,dU,fg]) []
 have g:(a6 z w).length<=1000000:=by unfold a6;rw[bZ];have:=Js (λi=>decide (i+w<=z.length)) (cG z.length);rw[IU]at this;lia
 have l:(((eO 0 z.length).filter (λx=>match x with|.int i=>decide (i+w<=z.length)|_=>ak)).map (λx=>match x with|.int i=>PV.str (g9 z (aa i) (aa (i+w)))|_=>.non))=am (a6 z w):=by
  unfold eO a6 am;rw[qG,cB,cB];have m:((λx=>match x with|PV.int i=>decide (i+(w:Int)<=(z.length:Nat))|_=>ak) ∘ λ(i:Nat)=>PV.int (0+(i:Nat)))=λi=>decide (i+w<=z.length):=by funext i;simp only[oR];congr 1;simp;lia
  rw[m];refine jP λi e=>?_;have:=(kI.mp e).2;simp only[decide_eq_true_eq]at this;simp only[oR,Int.zero_add];rw[N2 this]
 simp only[fq]at b;rw[l]at b;have c:=AQ g;generalize am (aV (a6 z w))=T at c;generalize am (a6 z w)=B at b c;simp![oh,yaA,b7,f,bO,b,c,ix]
theorem DK{z:Tx}{w:Nat}:∀x∈a6 z w,x.length=w/\∀c∈x,c∈z:=by intro x b;simp only[a6,bI,kI,kb,decide_eq_true_eq]at b;obtain⟨i,⟨_,h⟩,rfl⟩:=b;exact⟨by rw[nh,mo];lia,λc d=>List.mem_of_mem_drop (List.mem_of_mem_take d)⟩
theorem QN{z:Tx}{w m:Nat}(c:1<=w)(e:w<=z.length)(d:z.length<=w+m):1<=(a6 z w).length/\(a6 z w).length<=m+1:=by
 unfold a6;rw[bZ];have:∀n,((cG n).filter λi=>decide (i+w<=z.length)).length=min n (z.length+1-w):=by
  intro n
  induction n with
  |zero=>simp
  |succ n b=>
   rw[tq,List.filter_append,eY,b];by_cases h:n+w<=z.length
   .simp[List.filter,h];lia
   .simp[List.filter,h];lia
 rw[this];lia
structure Good(l:Tx)(w:Nat)(ls:List Tx):Prop where
 len:∀x∈ls,x.length=w
 abc:∀x∈ls,∀c∈x,c∈l
 some:1<=ls.length
 few:ls.length<=9
theorem Good.perm{l:Tx}{w:Nat}{ls b:List Tx}(g:Good l w ls)(p:b.Perm ls):Good l w b:=⟨λx h=>g.len x (p.mem_iff.mp h),λx h=>g.abc x (p.mem_iff.mp h),by rw[p.length_eq];exact g.some,by rw[p.length_eq];exact g.few⟩
theorem Good.put{l:Tx}{w:Nat}{ls:List Tx}{z:Tx}{j:Nat}(g:Good l w ls)(b:z.length=w)(d:∀c∈z,c∈l):Good l w (ls.set j z):=by
 refine⟨λx h=>?_,λx h=>?_,by rw[gb];exact g.some,by rw[gb];exact g.few⟩
 .rcases Jt h with h|rfl
  .exact g.len x h
  .exact b
 .rcases Jt h with h|rfl
  .exact g.abc x h
  .exact d
theorem Mu(ls:List Tx)(j:Nat)(z:Tx):(am ls).set j (.str z)=am (ls.set j z):=by simp[am,List.map_set]
theorem j6(ls:List Tx):(am ls).length=ls.length:=by simp[am]
theorem BY{n:Nat}{v:Int}(c:0<=v)(b:v<n):gZ n v=aa v.toNat:=by unfold gZ;rw[if_pos c,if_pos b]
theorem Ni(ls:List Tx):mL (am ls)=ah:=by
 induction ls with
 |nil=>rfl
 |cons x ls b=>show(imm (.str x)&&mL (am ls))=ah;rw[b];rfl
theorem OH(g:List Int)(j:List PV)(d most:Nat)(hs:d<3)(m1:1<=most)(m9:most<=9)(hx:j.length<=300):∃(w:Nat) (ls:List Tx) (l:List PV),1<=w/\w<=4/\(d≠2->2<=w)/\Good bV w ls/\ls.Pairwise (λa b=>cM a b=ah)/\ls.length<=most/\(d=0->∃z:Tx,ls=aV (a6 z w)/\w<=z.length/\z.length+1<=w+most/\∀c∈z,c∈bV)/\l.length<=j.length+60 /\ ub a [cu g,.own (.lst j),⇑d,⇑most]=.ok (.val (.tup [.int w,.tup (am ls)])) [cu g,.own (.lst l),⇑d,⇑most]:=by
 obtain⟨w,M,S,W,hw⟩:∃w:Nat,1<=w/\w<=4/\(d≠2->2<=w)/\(cL (dB (d2 (Pu.eqT ah) (dV 2) (dC (.int 2)))) (d2 ba (dC (.int 2)) (bo (aY (gJ a) (gV (dV 0) (gO 1 (gV (dC (.int 3)) (Pu.bN))))))) (d2 ba (dC (.int 1)) (bo (aY (gJ a) (gV (dV 0) (gO 1 (gV (dC (.int 4)) (Pu.bN)))))))) [cu g,.own (.lst j),⇑d,⇑most,.none,.none,.none] =
   .ok (.int w) [cu g,.own (.lst (j++[.int 0])),⇑d,⇑most,.none,.none,.none]:=by
  by_cases h2:d=2
  .subst h2;obtain⟨v,E,D,o⟩:=me (a:=a) g j 4 (by decide) ∅;refine⟨(1+v).toNat,∅,∅,λz=>absurd rfl z,?_⟩;have e:Pu.eqT ah (.int 2) (.int 2)=aa (.bl ak):=by rw[yr];rfl
   have:((1+v).toNat:Int)=1+v:=∅
   simp![e,o,ba,this]
  .obtain⟨v,E,D,o⟩:=me (a:=a) g j 3 (by decide) ∅;refine⟨(2+v).toNat,∅,∅,λ_=>∅,?_⟩;have e:Pu.eqT ah (.int ((d:Nat):Int)) (.int 2)=aa (.bl ah):=by
    have:d=0\/d=1:=∅
    rcases this with rfl|rfl <;> (rw[yr];rfl)
   have:((2+v).toNat:Int)=2+v:=∅
   simp![e,o,ba,this]
 obtain⟨z,C,B,K,f,F,A⟩:=GC (a:=a) g (j++[.int 0]) w (w+(most-1)) ∅ ∅ (by simp;lia);simp only[eY,Cv]at F;have X:=BC (a:=a) z w ∅;have Te:=QN (z:=z) (w:=w) (m:=most-1) M B K;have g0:Good bV w (aV (a6 z w)):=by exact Good.perm ⟨λx h=>(DK x h).1,λx h c hc=>f c ((DK x h).2 c hc),Te.1,∅⟩ (fc _)
 have p:gD (.int d) (.int 3)=aa (.int d):=by
  have:d=0\/d=1\/d=2:=∅
  rcases this with rfl|rfl|rfl <;> rfl
 have hr:j8 [.int d]=aa (eO 0 d):=vi ∅;have bp:(eO 0 d).length=d:=by simp[eO]
 obtain⟨Q,e1,l,ls,y,rfl,s,n,h0,Z⟩:=uE (i:=6) (db:=(yW 5 (bo (aY (gJ a) (gV (dV 0) (gO 1 (gV (kC (λj=>pD (b7 j)) 5) (Pu.bN)))))) (bo (aY (rG a) (gV (dV 0) (gO 1 (gV (dV 4) (gV (dV 4) (Pu.bN)))))))))
  (I:=λk J=>∃l ls y,J=[cu g,.own (.lst l),⇑d,⇑most,⇑w,.own (.lst (am ls)),y]/\Good bV w ls/\ls.length<=most/\(k=0->ls=aV (a6 z w))/\l.length<=C.length+10*k) (N:=d)
  (by
   rintro k J x hk ⟨l,ls,y,rfl,s,n,_,Z⟩;obtain⟨z,L,B,K,f,Y,A⟩:=GC (a:=a) g l w w ∅ ∅ ∅;obtain⟨v,E,D,o⟩:=me (a:=a) g L (ls.length:Nat) (by have:=s.some;lia) ∅;refine⟨[cu g,.own (.lst (L++[.int 0])),⇑d,⇑most,⇑w,.own (.lst (am (ls.set v.toNat z))),.val x],?_,_,_,_,rfl,s.put ∅ f,by rw[gb];exact n,λz=>∅,by simp;lia⟩;have G:gZ (am ls).length v=aa v.toNat:=BY E (by rw[j6];exact D);have hl:b7 [.lst (am ls)]=aa (.int (ls.length:Nat)):=by simp[b7,j6]
   simp![yW,A,hl,o,G,Mu])
  (eO 0 d) 0 [cu g,.own (.lst C),⇑d,⇑most,⇑w,.own (.lst (am (aV (a6 z w)))),.none] ∅ ⟨C,_,.none,rfl,g0,by rw[yG];lia,λ_=>rfl,∅⟩
 refine⟨w,aV ls,l,M,S,W,s.perm (fc _),sB _,by rw[yG];exact n,λz0=>⟨z,by rw[h0 ∅,mW (sB _)],B,∅,f⟩,∅,?_⟩;have O:ba (.int w) (.int most)=aa (.int ((w:Int)+most)):=rfl;have H:lm (.int ((w:Int)+most)) (.int 1)=aa (.int (((w+(most-1):Nat)):Int)):=by show aa (PV.int ((w:Int)+most-1))=_;congr 2;lia
 have P:=AQ (ls:=ls) (by have:=s.few;lia);have u:yaF a [cu g,.own (.lst j),⇑d,⇑most,.none,.none,.none]=.ok (.ret (.val (.tup [.int w,.tup (am (aV ls))]))) [cu g,.own (.lst l),⇑d,⇑most,⇑w,.own (.lst (am ls)),y]:=by unfold yaF;refine(cr (sC hw)).trans ?_;have r:=Ni (aV ls);generalize am (aV ls)=T at P r;generalize ((w+(most-1):Nat):Int)=q at H A;generalize (w:Int)+most=q2 at O H;simp[aH,cL,dB,d2,d1,dV,dC,dL,dF,aC,aE,cI,ph,bM,cU,aY,gV,gO,Pu.bN,im,gq,cV,fR,iO,R.bind,aO,bU,fX,bS,back,gE,nW,iV,Ak,BU,yz,bo,j4,cQ,eW,gt,HM,qf,Hx,jW,yR,pi,lV,mF,Gy,pO,dI,gB,uY,kC,vk,dO,ng,O,H,A,X,sd,p,ca,hr,dJ,e1,P,G7,r,ix]
 simp[ub,bU,fX,bS,u,back,gE]
def eE(x:Tx):List PV:=x.map λc=>.str [c]
theorem PZ(x:Tx):(eE x).length=x.length:=by simp[eE]
theorem Sn(x:Tx)(j c:Nat):(eE x).set j (.str [c])=eE (x.set j c):=by simp[eE,List.map_set]
theorem Lg(x:Tx):gp (eE x)=aa (x.map λc=>[c]):=by
 have e:eE x=am (x.map λc=>[c]):=by unfold eE am;rw[cB];rfl
 rw[e,pr]
theorem SJ(x:Tx):gA [] (x.map λc=>[c])=x:=by
 induction x with
 |nil=>rfl
 |cons c x b=>
  cases x with
  |nil=>rfl
  |cons d x=>show [c]++[]++gA [] ((d::x).map λc=>[c])=_;rw[b];rfl
theorem NQ(x:Tx):hU [] (x.map λc=>[c])=x.length:=by
 unfold hU
 induction x with
 |nil=>rfl
 |cons c x b=>simp at b ⊢;lia
theorem Nm(b:List Tx)(c:aj):∀d,pq [] (dL rh (aC (dV 0) aE)) (am b) d c=.ok (d++b.map eE) c:=by
 induction b with
 |nil=>intro d;simp[am,pq]
 |cons x b e=>
  intro d;have:am (x::b)=.str x::am b:=rfl;rw[this];unfold pq;have h:bC (bX [] (dL rh (aC (dV 0) aE)) (.str x) c)=.ok (.lst (eE x)) c:=by simp![bX,b_,bC,rh,eE]
  rw[h];simp only[R.bind_ok];rw[e];simp
theorem map_set{b c:Type}(f:b->c)(l:List b)(j:Nat)(x:b):(l.map f).set j (f x)=(l.set j x).map f:=by simp[List.map_set]
def cm(ls:List Tx):Nat:=(ls.map λx=>x.count 46).sum
theorem Kn(x:Tx)(j c:Nat):(x.set j c).count 46<=x.count 46+1:=by
 induction x generalizing j with
 |nil=>simp
 |cons d x b=>
  cases j with
  |zero=>simp only[List.set_cons_zero,zw];split <;> split <;> lia
  |succ j=>have:=b j;simp only[Jj,zw];lia
theorem Mg(b:List Tx)(j:Nat)(x y:Tx)(h:b[j]?=aa x)(d:y.count 46<=x.count 46+1):cm (b.set j y)<=cm b+1:=by
 unfold cm
 induction b generalizing j with
 |nil=>simp
 |cons z b c=>
  cases j with
  |zero=>simp at h;subst h;simp only[List.set_cons_zero,bE,gS];lia
  |succ j=>have:=c j (by simpa using h);simp only[Jj,bE,gS];lia
theorem Rk{c b:List Tx}(p:c.Perm b):cm c=cm b:=(p.map _).sum_nat
def gz:Tx:=[46,97,98,99]
theorem KB(b:List Tx)(d:∀x∈b,x.length<=10)(c:aj):iy [] cb (l4 mH (dC (.str [])) (aC (dV 0) aE)) (b.map λx=>.lst (eE x)) [] c=.ok (am b) c:=by
 have h:∀(b:List Tx),(∀x∈b,x.length<=10)->∀e,iy [] cb (l4 mH (dC (.str [])) (aC (dV 0) aE)) (b.map λx=>.lst (eE x)) e c=.ok (e++am b) c:=by
  intro b
  induction b with
  |nil=>intro _ e;simp[iy,am]
  |cons x b f=>
   intro d e;have m:=d x (by simp);have l:bC (bX [] cb (.lst (eE x)) c)=.ok ah c:=by simp![bX,b_,bC,cb]
   have i:mH [] [.lst (eE x)]=aa (.str x):=by show(gp (eE x)).bind _=_;rw[Lg,gR,NQ,if_pos (by unfold bv;lia),SJ]
   have j:bC (bX [] (l4 mH (dC (.str [])) (aC (dV 0) aE)) (.lst (eE x)) c)=.ok (.str x) c:=by simp![bX,b_,bC,l4,yx,i]
   rw[bE];unfold iy;rw[l];simp only[R.bind_ok,j];rw[f (λy g=>d y (by simp[g]))];simp[am]
 have:=h b d [];simpa using this
theorem HN(c b:List Tx):am c++am b=am (c++b):=by simp[am]
theorem Ov{c:Type}(b:List c)(n:Nat):g9 b (aa (n:Int)) ae=b.drop n:=by
 unfold g9;have d:HT.sIx b.length b.length ae=b.length:=rfl;rw[d,HT.sIx_nat];by_cases h:n<=b.length
 .rw[Nat.min_eq_left h,nt (by rw[mo];lia)]
 .rw[Nat.min_eq_right ∅,Ju ∅,Ju ∅];simp
end
def opts(d:Nat):Tx:=if d=46 then bV else [d]
def fillS(a:List Tx)(d:Nat):List Tx:=a.flatMap λs=>(opts d).map λc=>s++[c]
def fillF(a:List Tx)(b:Tx):List Tx:=b.foldl fillS a
def fills(b:Tx):List Tx:=fillF [[]] b
def rowS(a:List (List Tx))(b:Tx):List (List Tx):=a.flatMap λr=>(fills b).map λx=>r++[x]
def rowsF(a:List Tx):List (List Tx):=a.foldl rowS [[]]
theorem opts_mem{c d:Nat}:c∈opts d↔(d=46/\c∈bV)\/(d≠46/\c=d):=by
 unfold opts;by_cases h:d=46
 .simp[h]
 .simp[h]
theorem opts_len(d:Nat):(opts d).length=3 ^ [d].count 46:=by
 unfold opts;by_cases h:d=46
 .subst h;rfl
 .simp[h]
theorem fillS_len(a:List Tx)(d:Nat):(fillS a d).length=a.length*3 ^ [d].count 46:=by
 unfold fillS;rw[Jv];simp only[bZ,opts_len]
 induction a with
 |nil=>simp
 |cons r a b=>rw[bE,gS,b,d8,CS,Nat.one_mul,zh]
theorem fillF_len(b:Tx):∀a:List Tx,(fillF a b).length=a.length*3^b.count 46:=by
 unfold fillF
 induction b with
 |nil=>intro a;simp
 |cons d b c=>intro a;rw[gM,c,fillS_len,Nat.mul_assoc,<-v9];congr 2;rw[<-Df];rfl
theorem fills_len(b:Tx):(fills b).length=3^b.count 46:=by rw[fills,fillF_len];simp
theorem rowS_len(a:List (List Tx))(b:Tx):(rowS a b).length=a.length*3^b.count 46:=by
 unfold rowS;rw[Jv];simp only[bZ,fills_len]
 induction a with
 |nil=>simp
 |cons r a c=>rw[bE,gS,c,d8,CS,Nat.one_mul,zh]
theorem rowsF_len'(c:List Tx):∀a:List (List Tx),(c.foldl rowS a).length=a.length*3^cm c:=by
 induction c with
 |nil=>intro a;simp[cm]
 |cons b c d=>intro a;rw[gM,d,rowS_len,Nat.mul_assoc,<-v9];congr 2
theorem rowsF_len(a:List Tx):(rowsF a).length=3^cm a:=by rw[rowsF,rowsF_len'];simp
theorem fillF_fits(b:Tx):∀(a:List Tx) (z:Tx),z∈fillF a b↔∃r∈a,∃x:Tx,z=r++x/\fi (λc d=>c∈opts d) x b:=by
 unfold fillF
 induction b with
 |nil=>
  intro a z;constructor
  .intro h;exact⟨z,h,[],by simp,.nil⟩
  .rintro⟨r,e,x,rfl,f⟩;cases f;simpa using e
 |cons d b i=>
  intro a z;rw[gM,i];constructor
  .rintro⟨r,e,x,rfl,f⟩;unfold fillS at e;obtain⟨s,j,e⟩:=tN.mp e;obtain⟨c,g,rfl⟩:=bI.mp e;exact⟨s,j,c::x,by simp,.cons g f⟩
  .rintro⟨r,e,x,rfl,f⟩;cases f with
   |cons g f=>rename_i c x;refine⟨r++[c],?_,x,by simp,f⟩;unfold fillS;exact tN.mpr ⟨r,e,bI.mpr ⟨c,g,rfl⟩⟩
def Fit(x b:Tx):Prop:=fi (λc d=>c∈opts d) x b
theorem fills_mem{b z:Tx}:z∈fills b↔Fit z b:=by
 unfold fills;rw[fillF_fits];constructor
 .rintro⟨r,a,x,rfl,c⟩;simp at a;subst a;exact c
 .intro h;exact⟨[],by simp,z,rfl,h⟩
theorem Fit.len{x b:Tx}(h:Fit x b):x.length=b.length:=oE h
theorem Fit.abc{x b:Tx}(h:Fit x b)(g:∀c∈b,c∈gz):∀c∈x,c∈bV:=by
 unfold Fit at h
 induction h with
 |nil=>intro c a;cases a
 |@cons c d x b a _ ih=>
  intro e f;rcases br.mp f with rfl|f
  .rcases opts_mem.mp a with⟨_,h⟩|⟨h1,rfl⟩
   .exact h
   .have:=g e (by simp);simp[gz]at this;simp[bV];lia
  .exact ih (λc a=>g c (by simp[a])) e f
theorem rowsF_mem'(g:List Tx):∀(a:List (List Tx)) (z:List Tx),z∈g.foldl rowS a↔∃r∈a,∃j:List Tx,z=r++j/\fi Fit j g:=by
 induction g with
 |nil=>
  intro a z;constructor
  .intro h;exact⟨z,h,[],by simp,.nil⟩
  .rintro⟨r,e,x,rfl,f⟩;cases f;simpa using e
 |cons d b l=>
  intro a z;rw[gM,l];constructor
  .rintro⟨r,e,x,rfl,f⟩;unfold rowS at e;obtain⟨s,m,e⟩:=tN.mp e;obtain⟨c,i,rfl⟩:=bI.mp e;exact⟨s,m,c::x,by simp,.cons (fills_mem.mp i) f⟩
  .rintro⟨r,e,x,rfl,f⟩;cases f with
   |cons i f=>rename_i c x;refine⟨r++[c],?_,x,by simp,f⟩;unfold rowS;exact tN.mpr ⟨r,e,bI.mpr ⟨c,fills_mem.mpr i,rfl⟩⟩
theorem rowsF_mem{b a:List Tx}:a∈rowsF b↔fi Fit a b:=by
 unfold rowsF;rw[rowsF_mem'];constructor
 .rintro⟨r,c,x,rfl,d⟩;simp at c;subst c;exact d
 .intro h;exact⟨[],by simp,a,rfl,h⟩
def addL(a:List (List Tx))(k:List Tx):List (List Tx):=if k∈a then a else a++[k]
theorem addL_mem{a:List (List Tx)}{k z:List Tx}:z∈addL a k↔z∈a\/z=k:=by
 unfold addL;by_cases h:k∈a
 .rw[if_pos h];exact⟨.inl,λq=>q.elim id λe=>e ▸ h⟩
 .rw[if_neg h];simp
theorem addL_nodup{d:List (List Tx)}{k:List Tx}(h:d.Nodup):(addL d k).Nodup:=by
 unfold addL;by_cases c:k∈d
 .rw[if_pos c];exact h
 .rw[if_neg c,v6];refine⟨h,by simp,λa f b e=>?_⟩;simp at e;subst e;rintro rfl;exact c f
theorem addF_mem(ks:List (List Tx)):∀(a:List (List Tx)) (z:List Tx),z∈ks.foldl addL a↔z∈a\/z∈ks:=by
 induction ks with
 |nil=>intro a z;simp
 |cons k ks b=>
  intro a z;rw[gM,b,addL_mem,br];constructor
  .rintro((h|h)|h)
   .exact .inl h
   .exact .inr (.inl h)
   .exact .inr (.inr h)
  .rintro(h|h|h)
   .exact .inl (.inl h)
   .exact .inl (.inr h)
   .exact .inr h
theorem addF_nodup(ks:List (List Tx)):∀a:List (List Tx),a.Nodup->(ks.foldl addL a).Nodup:=by
 induction ks with
 |nil=>intro a h;exact h
 |cons k ks b=>intro a h;exact b _ (addL_nodup h)
def nextW(b:Tx)(k:List Tx):List (List Tx):=(fills b).map λx=>aV (k++[x])
def stepW(ks:List (List Tx))(b:Tx):List (List Tx):=(ks.flatMap (nextW b)).foldl addL []
def waysF(a:List Tx):List (List Tx):=a.foldl stepW [[]]
theorem waysF_mem'(f:List Tx):∀(ks:List (List Tx)) (z:List Tx),z∈f.foldl stepW ks↔if f=[] then z∈ks else ∃k∈ks,∃d:List Tx,z=aV (k++d)/\fi Fit d f:=by
 induction f with
 |nil=>intro ks z;simp
 |cons b f l=>
  intro ks z;rw[gM,l,if_neg (show ¬b::f=[] by simp)];have g:∀y,y∈stepW ks b↔∃k∈ks,∃x,Fit x b/\y=aV (k++[x]):=λy=>by
   unfold stepW;rw[addF_mem];constructor
   .rintro(h|h)
    .simp at h
    .obtain⟨k,c,h⟩:=tN.mp h;obtain⟨x,a,rfl⟩:=bI.mp h;exact⟨k,c,x,fills_mem.mp a,rfl⟩
   .rintro⟨k,c,x,a,rfl⟩;exact .inr (tN.mpr ⟨k,c,bI.mpr ⟨x,fills_mem.mpr a,rfl⟩⟩)
  by_cases j:f=[]
  .subst j;rw[if_pos rfl,g];constructor
   .rintro⟨k,c,x,a,rfl⟩;exact⟨k,c,[x],rfl,.cons a .nil⟩
   .rintro⟨k,c,d,rfl,e⟩;cases e with
    |cons a e=>cases e;exact⟨k,c,_,a,rfl⟩
  .rw[if_neg j];constructor
   .rintro⟨y,m,d,rfl,e⟩;obtain⟨k,c,x,a,rfl⟩:=(g y).mp m;refine⟨k,c,x::d,rq ?_,.cons a e⟩;have i:=(fc (k++[x])).append_right d;simpa using i
   .rintro⟨k,c,d,rfl,e⟩;cases e with
    |cons a e=>rename_i x d;refine⟨aV (k++[x]),(g _).mpr ⟨k,c,x,a,rfl⟩,d,rq ?_,e⟩;have i:=(fc (k++[x])).symm.append_right d;simpa using i
theorem waysF_mem{c z:List Tx}:z∈waysF c↔∃a:List Tx,z=aV a/\fi Fit a c:=by
 unfold waysF;rw[waysF_mem'];by_cases d:c=[]
 .subst d;rw[if_pos rfl];constructor
  .intro h;simp at h;subst h;exact⟨[],(by simp[aV]),.nil⟩
  .rintro⟨a,rfl,b⟩;cases b;simp[aV]
 .rw[if_neg d];constructor
  .rintro⟨k,e,a,rfl,b⟩;simp at e;subst e;exact⟨a,rfl,b⟩
  .rintro⟨a,rfl,b⟩;exact⟨[],by simp,a,rfl,b⟩
theorem waysF_nodup'(a:List Tx):∀ks:List (List Tx),ks.Nodup->(a.foldl stepW ks).Nodup:=by
 induction a with
 |nil=>intro ks h;exact h
 |cons b a c=>intro ks _;exact c _ (addF_nodup _ _ vR)
theorem waysF_nodup(a:List Tx):(waysF a).Nodup:=waysF_nodup' a _ (by simp)
theorem addF_len(ks:List (List Tx)):∀a:List (List Tx),(ks.foldl addL a).length<=a.length+ks.length:=by
 induction ks with
 |nil=>intro a;simp
 |cons k ks b=>
  intro a;have:=b (addL a k);rw[gM,d8];have c:(addL a k).length<=a.length+1:=by unfold addL;split <;> simp
  lia
theorem next_len(ks:List (List Tx))(b:Tx):(ks.flatMap (nextW b)).length=ks.length*3^b.count 46:=by
 rw[Jv];simp only[nextW,bZ,fills_len]
 induction ks with
 |nil=>simp
 |cons r a c=>rw[bE,gS,c,d8,CS,Nat.one_mul,zh]
theorem stepW_len(ks:List (List Tx))(b:Tx):(stepW ks b).length<=ks.length*3^b.count 46:=by unfold stepW;have:=addF_len (ks.flatMap (nextW b)) [];rw[next_len]at this;simpa using this
theorem waysF_len'(a:List Tx):∀ks:List (List Tx),(a.foldl stepW ks).length<=ks.length*3^cm a:=by
 induction a with
 |nil=>intro ks;simp[cm]
 |cons b a c=>
  intro ks;rw[gM];refine c0 (c _) ?_;have e:3^cm (b::a)=3^b.count 46*3^cm a:=by rw[<-v9];rfl
  rw[e,<-Nat.mul_assoc];exact Nat.mul_le_mul_right _ (stepW_len ks b)
theorem waysF_len(a:List Tx):(waysF a).length<=3^cm a:=by have:=waysF_len' a [[]];simpa[waysF]using this
theorem uniqK_acc(l:List PrK):∀(a:List PrK) (z:PrK),z∈l.foldl (λa k=>if k∈a then a else a++[k]) a↔z∈a\/z∈l:=by
 induction l with
 |nil=>intro a z;simp
 |cons k l c=>
  intro a z;rw[gM,c];by_cases b:k∈a
  .rw[if_pos b,br];constructor
   .rintro(h|h)
    .exact .inl h
    .exact .inr (.inr h)
   .rintro(h|rfl|h)
    .exact .inl h
    .exact .inl b
    .exact .inr h
  .rw[if_neg b];simp[or_assoc]
theorem uniqK_mem{l:List PrK}{z:PrK}:z∈uniqK l↔z∈l:=by unfold uniqK;rw[uniqK_acc];simp
theorem views_same(w:Int)(a:List Tx):sortK (uniqK ((rowsF a).map λr=>(w,aV r)))=(cf (waysF a)).map λk=>(w,k):=by
 have i:∀k∈uniqK ((rowsF a).map λr=>((w,aV r):PrK)),k.1=w:=λk d=>by obtain⟨r,_,rfl⟩:=bI.mp (uniqK_mem.mp d);rfl
 refine(sortK_uniq (n:=w) ?_ i ?_).symm
 .have c:((cf (waysF a)).map λk=>((w,k):PrK)).Nodup:=by
   exact oI.mpr ((((mU _).nodup_iff).mpr (waysF_nodup a)).imp λh e=>h (Prod.mk.inj e).2)
  refine(Jr c (uniqK_nodup _ [] vR)).mpr λq=>?_;show q∈_↔q∈uniqK _;rw[uniqK_mem,bI,bI];constructor
  .rintro⟨k,d,rfl⟩;obtain⟨b,rfl,g⟩:=waysF_mem.mp ((mU _).mem_iff.mp d);exact⟨b,rowsF_mem.mpr g,rfl⟩
  .rintro⟨b,f,rfl⟩;exact⟨aV b,(mU _).mem_iff.mpr (waysF_mem.mpr ⟨b,rfl,rowsF_mem.mp f⟩),rfl⟩
 .refine oI.mpr ((HV _).imp λh=>?_);unfold iA at h;simpa using h
theorem uniqK_len(l:List PrK):(uniqK l).length<=l.length:=(uniqK_nodup l [] vR).length_le_of_subset λz a=>uniqK_mem.mp a
section
variable{a:Ad}
theorem wf_comp(t:Tx)(o:Tx)(f e d b:Slot)(j:t.length<=50):iy [5] cb (d2 ba (dV 1) (dV 0)) (o.map λc=>.str [c]) [] [f,e,d,↥o,b,↥t]=.ok (am (o.map λc=>t++[c])) [f,e,d,↥o,b,↥t]:=by
 have g:=iq (cap:=[5]) (dt:=cb) (de:=(d2 ba (dV 1) (dV 0))) (ε:=[f,e,d,↥o,b,↥t]) (λ_=>ah) (λx=>match x with|.str [c]=>.str (t++[c])|_=>.non) (o.map λc=>PV.str [c])
  (by intro x h;obtain⟨c,_,rfl⟩:=bI.mp h;have i:ba (.str t) (.str [c])=aa (.str (t++[c])):=pQ (by simp[bv];lia);refine⟨by simp![bX,b_,bC,cb],λ_=>?_⟩;simp![bX,b_,bC,i]) []
 rw[fq,nM.mpr (by simp)]at g;rw[g];congr 1;simp[am,cB,lD]
theorem wf_row(d:Nat)(g f e m:Slot)(b:List Tx)(z:∀t∈b,t.length<=50)(C:(fillS b d).length<=999999):∃j,fE 5 (g8 4 (dF (bO [5] (aT (dV 3)) (cb) (d2 ba (dV 1) (dV 0))))) (am b) [g,f,e,↥(opts d),.own (.lst []),m]=.ok .next [g,f,e,↥(opts d),.own (.lst (am (fillS b d))),j]:=by
 obtain⟨w,v,j,p,rest,h,y,rfl⟩:=ma (i:=5) (db:=(g8 4 (dF (bO [5] (aT (dV 3)) (cb) (d2 ba (dV 1) (dV 0))))))
  (I:=λr q=>∃(j:Slot) (p rest:List Tx),b=p++rest/\r=am rest/\q=[g,f,e,↥(opts d),.own (.lst (am (fillS p d))),j])
  (by
   rintro x r q ⟨j,p,rest,h,u,rfl⟩;cases rest with
   |nil=>cases u
   |cons t rest=>
    have s:x::r=.str t::am rest:=u;simp only[lI]at s;obtain⟨rfl,rfl⟩:=s;have l:=wf_comp t (opts d) g f e (.own (.lst (am (fillS p d)))) (z t (by rw[h];simp));have o:dG (.str (opts d))=aa ((opts d).map λc=>.str [c]):=rfl;have B:fillS (p++[t]) d=fillS p d++(opts d).map λc=>t++[c]:=by simp[fillS]
    have n:(am (fillS p d)).length+(am ((opts d).map λc=>t++[c])).length<=bv:=by
     rw[j6,j6];have D:(fillS p d).length+((opts d).map λc=>t++[c]).length<=(fillS b d).length:=by rw[h];simp only[fillS,zL,oQ,eY];lia
     unfold bv;lia
    refine⟨[g,f,e,↥(opts d),.own (.lst (am (fillS (p++[t]) d))),↥t],?_,↥t,p++[t],rest,by rw[h];simp,rfl,rfl⟩;rw[B,<-HN];generalize am ((opts d).map λc=>t++[c])=Y at l n;generalize am (fillS p d)=L at l n;generalize ((opts d).map λc=>PV.str [c])=A3 at l o;generalize opts d=O at l o;simp![g8,bO,aT,o,l,n])
  (am b) [g,f,e,↥(opts d),.own (.lst (am (fillS [] d))),m] ⟨m,[],b,by simp,rfl,rfl⟩
 have A:rest=[]:=by cases rest with|nil=>rfl|cons=>cases y
 subst A;rw[jb]at h;rw[<-h]at v;exact⟨j,v⟩
theorem fillF_app(d:List Tx)(b c:Tx):fillF d (b++c)=fillF (fillF d b) c:=by unfold fillF;rw[wf]
theorem fill_long{b:Tx}{t:Tx}(h:t∈fills b):t.length=b.length:=(fills_mem.mp h).len
theorem pow6{k:Nat}(h:k<=6):3^k<=729:=c0 (Nat.pow_le_pow_right (by decide) h) (by decide)
theorem wtf_eq(b:Tx)(H:b.length<=40)(G:b.count 46<=6):rL a [↥b]=.ok (.val (.lst (am (fills b)))) [↥b]:=by
 obtain⟨z,m,o,j,h,f,p,rest,g,A,rfl⟩:=ma (i:=2) (db:=(aH (bM 3 (cL (dB (d2 (Pu.eqT ak) (dV 2) (dC (.str [46])))) (dC (.str [97,98,99])) (dV 2)))
 (aH (cU 4 (dL cQ (aE)))
 (aH (ca 5 (aT (dV 1)) (g8 4 (dF (bO [5] (aT (dV 3)) (cb) (d2 ba (dV 1) (dV 0))))))
 (bM 1 (dM 4))))))
  (I:=λr v=>∃(o j h f:Slot) (p rest:Tx),b=p++rest/\r=rest.map (λc=>PV.str [c])/\v=[↥b,.val (.lst (am (fills p))),o,j,h,f])
  (by
   rintro x r v ⟨o,j,h,f,p,rest,g,q,rfl⟩;cases rest with
   |nil=>cases q
   |cons d rest=>
    simp only[bE,lI]at q;obtain⟨rfl,rfl⟩:=q;have J:p.length+1<=b.length:=by rw[g];simp
    have s:(p++[d]).count 46<=6:=by
     have:(p++[d]).count 46<=b.count 46:=by rw[g];simp only[Df,zw,List.count_nil];lia
     lia
    have e:fillS (fills p) d=fills (p++[d]):=by unfold fills;rw[fillF_app];rfl
    obtain⟨w,l⟩:=wf_row d (↥b) (.val (.lst (am (fills p)))) (.val (.str [d])) f (fills p) (λt C=>by rw[fill_long C];lia) (by rw[e,fills_len];have:=pow6 s;lia);rw[e]at l;refine⟨_,?_,.val (.str [d]),↥(opts d),.val (.lst (am (fills (p++[d])))),w,p++[d],rest,by rw[g];simp,rfl,rfl⟩;have u:(cL (dB (d2 (Pu.eqT ak) (dV 2) (dC (.str [46])))) (dC (.str [97,98,99])) (dV 2)) [↥b,.val (.lst (am (fills p))),.val (.str [d]),j,h,f]=.ok (.str (opts d)) [↥b,.val (.lst (am (fills p))),.val (.str [d]),j,h,f]:=by
     have F:=xT ak [d] [46];by_cases y:d=46
     .subst y;simp![xT,opts,bV]
     .simp![xT,opts,y]
    have n:dG (.lst (am (fills p)))=aa (am (fills p)):=rfl;generalize am (fills (p++[d]))=R1 at l;generalize am (fills p)=R0 at l u n;generalize opts d=O at l u;refine(cr (sC u)).trans ?_;refine(cr (ε1:=[↥b,.val (.lst R0),.val (.str [d]),↥O,.own (.lst []),f]) (by simp![])).trans ?_;refine(cr (ε1:=[↥b,.val (.lst R0),.val (.str [d]),↥O,.own (.lst R1),w]) ?_).trans ?_
    .unfold ca aT dV;simp only[CM,CT,R.bind_ok,n,bY];exact l
    .simp[bM,dM,R.bind])
  (b.map λc=>.str [c]) [↥b,.val (.lst (am (fills []))),.none,.none,.none,.none] ⟨.none,.none,.none,.none,[],b,rfl,rfl,rfl⟩
 have D:rest=[]:=by cases rest with|nil=>rfl|cons=>cases A
 subst D;rw[jb]at g;rw[<-g]at m;have E:am (fills [])=[.str []]:=rfl;rw[E]at m;have n:dG (.str b)=aa (b.map λc=>.str [c]):=rfl;generalize am (fills b)=R1 at m;generalize (b.map λc=>PV.str [c])=B at m n;simp![rL,yaH,dJ,ca,aT,n,m]
theorem rZ{t T:String}{b:Bool}{x:PV}(h:vG x=aa t)(e:jM [] (.type t) (.type T)=aa b):i7 [x,.raw (.ty T)]=aa (.bl b):=by show((vG x).bind λt=>(jM [] (.type t) (.type T)).map λb=>PV.bl b)=_;rw[h,gR,e];rfl
theorem O8:jM [] (.type "int") (.type "int")=aa ah:=by decide +kernel
theorem QU:jM [] (.type "int") (.type "bool")=aa ak:=by decide +kernel
theorem Om:jM [] (.type "str") (.type "str")=aa ah:=by decide +kernel
theorem Ag:jM [] (.type "tuple") (.type "tuple")=aa ah:=by decide +kernel
theorem Ld(bs:List Bool):mE (bs.map .bl)=aa bs:=by
 induction bs with
 |nil=>rfl
 |cons b bs c=>show(mE (bs.map .bl)).map (b::·)=_;rw[c];rfl
theorem AE(bs:List Bool):sh [.lst (bs.map .bl)]=aa (.bl (bs.all id)):=by show(mE (bs.map .bl)).map _=_;rw[Ld];rfl
theorem NN(z s:Tx):yV a [↥z,↥s]=.ok (.val (.bl (z.all s.contains))) [↥z,↥s]:=by
 have b:=iq (cap:=[1]) (dt:=cb) (de:=(d2 (rA ak) (dV 0) (dV 1))) (ε:=[↥z,↥s]) (λ_=>ah) (λx=>match x with|.str [c]=>.bl (s.contains c)|_=>.non) (z.map λc=>.str [c])
  (by
   intro x f;obtain⟨c,_,rfl⟩:=bI.mp f;refine⟨by simp![bX,b_,bC,cb],λ_=>?_⟩;have h:rA ak (.str [c]) (.str s)=aa (.bl (s.contains c)):=by rw[<-K0];simp[rA]
   simp![bX,b_,bC,h]) []
 have g:((z.map λc=>PV.str [c]).filter (λ_=>ah)).map (λx=>match x with|.str [c]=>PV.bl (s.contains c)|_=>.non)=(z.map s.contains).map .bl:=by rw[nM.mpr (by simp),cB,cB];rfl
 rw[fq,g]at b;have e:(z.map s.contains).all id=z.all s.contains:=by rw[tm];rfl
 generalize z.map s.contains=bs at b e;have d:=AE bs;rw[e]at d;simp![yV,yal,bO,aT,dG,b,d]
def jf(w:Int)(s z:Tx):Bool:=decide ((z.length:Int)=w)&&z.all s.contains
theorem Lp(z s:Tx)(w:Int):sy a [↥z,⇑w,↥s]=.ok (.val (.bl (jf w s z))) [↥z,⇑w,↥s]:=by
 have d:i7 [.str z,.raw (.ty "str")]=aa (.bl ah):=rZ rfl Om;have e:=NN (a:=a) z s;have c:b7 [.str z]=aa (.int (z.length:Nat)):=rfl;have b:=yr ak (z.length:Nat) w;unfold jf;by_cases h:((z.length:Nat):Int)=w
 .simp only[h,decide_true,Bool.xor_true,C7]at b;simp![sy,yar,d,c,b,e,h]
 .simp only[h,decide_false,Bool.xor_false]at b;simp![sy,yar,d,c,b,h]
theorem xu(d c:List Tx):dW (am d) (am c)=aa (decide (d=c)):=by
 induction d generalizing c with
 |nil=>cases c <;> simp[am,dW]
 |cons x d e=>
  cases c with
  |nil=>simp[am,dW]
  |cons y c=>
   show(cF (.str x) (.str y)).bind (λa=>(dW (am d) (am c)).map λb=>a&&b)=_;rw[e];have:cF (.str x) (.str y)=aa (decide (x=y)):=by
    show aa (tS x == tS y)=_;by_cases h:x=y
    .subst h;simp
    .have:tS x≠tS y:=λz=>h (uK z);simp[h,this]
   rw[this];simp[lI]
theorem uw(b:List Tx):c_ (am b)=0:=by
 induction b with
 |nil=>rfl
 |cons x b c=>show max (eX (.str x)) (c_ (am b))=0;rw[c];rfl
theorem RA(b:Bool)(c d:List Tx):Pu.eqT b (.lst (am c)) (.lst (am d))=aa (.bl (b^^decide (c=d))):=by show(if eX (.lst (am c))<=8 then(dW (am c) (am d)).map (λk=>PV.bl (b^^k))else ae)=_;rw[if_pos (by show c_ (am c)+1<=8;rw[uw];decide),xu];rfl
theorem LG(b:List Tx)(w:Int)(s:Tx)(r:1<=b.length)(q:b.length<=9):oj a [.val (.tup (am b)),⇑w,↥s]=.ok (.val (.bl (b.all (jf w s)&&decide (b=aV b)))) [.val (.tup (am b)),⇑w,↥s]:=by
 have g:i7 [.tup (am b),.raw (.ty "tuple")]=aa (.bl ah):=rZ rfl Ag;have h:b7 [.tup (am b)]=aa (.int (b.length:Nat)):=by simp[b7,j6]
 have l:(1:Int)<=(b.length:Nat):=∅
 have j:((b.length:Nat):Int)<=9:=∅
 have d:=iq (cap:=[1,2]) (dt:=cb) (de:=(bo (aY (sy a) (gV (dV 0) (gV (dV 1) (gV (dV 2) (Pu.bN))))))) (ε:=[.val (.tup (am b)),⇑w,↥s]) (λ_=>ah) (λx=>match x with|.str z=>.bl (jf w s z)|_=>.non) (am b)
  (by intro x n;obtain⟨z,_,rfl⟩:=bI.mp n;refine⟨by simp![bX,b_,bC,cb],λ_=>?_⟩;have o:=Lp (a:=a) z s w;simp![bX,b_,bC,o]) []
 have p:((am b).filter (λ_=>ah)).map (λx=>match x with|.str z=>PV.bl (jf w s z)|_=>.non)=(b.map (jf w s)).map .bl:=by rw[nM.mpr (by simp)];unfold am;rw[cB,cB];rfl
 rw[fq,p]at d;have f:(b.map (jf w s)).all id=b.all (jf w s):=by rw[tm];rfl
 generalize b.map (jf w s)=bs at d f;have e:=AE bs;have m:b.length<=1000000:=∅
 have c:=RA ak b (aV b);cases i:b.all (jf w s)with
 |false=>rw[f,i]at e;simp![oj,yac,g,h,l,j,bO,aT,dG,d,e]
 |true=>rw[f,i]at e;simp only[zG]at c;simp![oj,yac,g,h,l,j,bO,aT,dG,d,e,sd,iS,pr,m,c]
theorem Sw(b:List Tx)(w:Int)(s:Tx)(g:b.length=0\/9<b.length):oj a [.val (.tup (am b)),⇑w,↥s]=.ok (.val (.bl ak)) [.val (.tup (am b)),⇑w,↥s]:=by
 have c:i7 [.tup (am b),.raw (.ty "tuple")]=aa (.bl ah):=rZ rfl Ag;have d:b7 [.tup (am b)]=aa (.int (b.length:Nat)):=by simp[b7,j6]
 by_cases e:(1:Int)<=(b.length:Nat)
 .have f:¬((b.length:Nat):Int)<=9:=∅
  simp![oj,yac,c,d,e,f]
 .simp![oj,yac,c,d,e]
theorem QO(i:Int):xr a [⇑i]=.ok (.val (.bl ah)) [⇑i]:=by have c:i7 [.int i,.raw (.ty "int")]=aa (.bl ah):=rZ rfl O8;have b:i7 [.int i,.raw (.ty "bool")]=aa (.bl ak):=rZ rfl QU;simp![xr,yap,c,b]
theorem Mf(i:Int):sL a [⇑i]=.ok (.val (.bl (decide (1<=i/\i<=4)))) [⇑i]:=by
 have h:=QO (a:=a) i;by_cases b:1<=i
 .by_cases c:i<=4
  .simp![sL,yaq,h,b,c]
  .simp![sL,yaq,h,b,c]
 .simp![sL,yaq,h,b]
def mG(s:Tx)(w:Int)(b:List Tx):Bool:=decide (1<=w/\w<=4)&&(decide (1<=b.length/\b.length<=9)&&(b.all (jf w s)&&decide (b=aV b)))
theorem Il(s:Tx)(w:Int)(b:List Tx):ot a [.val (.tup [.int w,.tup (am b)]),↥s]=.ok (.val (.bl (mG s w b))) [.val (.tup [.int w,.tup (am b)]),↥s]:=by
 have g:i7 [.tup [.int w,.tup (am b)],.raw (.ty "tuple")]=aa (.bl ah):=rZ rfl Ag;have j:b7 [.tup [.int w,.tup (am b)]]=aa (.int 2):=rfl;have e:=yr ah 2 2;simp only[decide_true,Bool.true_xor,qE]at e;have i:bB (.tup [.int w,.tup (am b)]) (.int 0)=aa (.int w):=rfl;have h:bB (.tup [.int w,.tup (am b)]) (.int 1)=aa (.tup (am b)):=rfl;have d:=Mf (a:=a) w;unfold mG;by_cases c:1<=w/\w<=4
 .rw[decide_eq_true c]at d ⊢;by_cases f:1<=b.length/\b.length<=9
  .have l:=LG (a:=a) b w s f.1 f.2;rw[decide_eq_true f];simp![ot,yao,g,j,e,i,h,d,l]
  .have l:=Sw (a:=a) b w s ∅;rw[decide_eq_false f];simp![ot,yao,g,j,e,i,h,d,l]
 .rw[decide_eq_false c]at d ⊢;simp![ot,yao,g,j,e,i,h,d]
abbrev vw(w:Int)(b:List Tx):Bool:=mG bV w b
theorem MI(w:Int)(b:List Tx):yt a [.val (.tup [.int w,.tup (am b)])]=.ok (.val (.bl (vw w b))) [.val (.tup [.int w,.tup (am b)])]:=by have c:=Il (a:=a) bV w b;simp only[bV]at c;simp![yt,yan,c];rfl
theorem G_{w:Int}{b:List Tx}(h:vw w b=ah):pI a [.val (.tup [.int w,.tup (am b)])]=.ok (.val .non) [.val (.tup [.int w,.tup (am b)])]:=by have c:=MI (a:=a) w b;rw[h]at c;simp![pI,yaf,c]
theorem Good.vw{w:Nat}{d:List Tx}(g:Good bV w d)(m:1<=w)(l:w<=4)(f:d.Pairwise (λa b=>cM a b=ah)):vw w d=ah:=by
 have j:d.all (jf w bV)=ah:=by rw[ki];intro x e;unfold jf;rw[g.len x e,decide_eq_true rfl,zk,ki];intro c h;simpa using g.abc x e c h
 have i:decide (d=aV d)=ah:=decide_eq_true (mW f).symm;show mG bV w d=ah;unfold mG;rw[j,i,decide_eq_true (show 1<=(w:Int)/\(w:Int)<=4 by lia),decide_eq_true (show 1<=d.length/\d.length<=9 from⟨g.some,g.few⟩)];rfl
theorem N3(b:List Tx):gA [] b=b.flatten:=by
 induction b with
 |nil=>rfl
 |cons x b c=>
  cases b with
  |nil=>simp[gA]
  |cons y b=>show x++[]++gA [] (y::b)=_;rw[c];simp
theorem PQ(b:List Tx):b.flatten.count 46=cm b:=by unfold cm;rw[List.count_flatten]
theorem NS(x:PV)(h:ot a [.val x,↥gz]=.ok (.val (.bl ak)) [.val x,↥gz]):n9 a [.val x]=.ok (.val (.bl ak)) [.val x]:=by have b:ba (.str [46]) (.str [97,98,99])=aa (.str gz):=pQ (by decide);simp![n9,yam,b,h]
theorem QY(w:Int)(b:List Tx)(l:hU [] b<=bv):n9 a [.val (.tup [.int w,.tup (am b)])]=.ok (.val (.bl (mG gz w b&&decide (cm b<=6)))) [.val (.tup [.int w,.tup (am b)])]:=by
 have d:=Il (a:=a) gz w b;cases j:mG gz w b with
 |false=>rw[j]at d;exact NS _ d
 |true=>
  rw[j]at d;have f:ba (.str [46]) (.str [97,98,99])=aa (.str gz):=pQ (by decide);have g:bB (.tup [.int w,.tup (am b)]) (.int 1)=aa (.tup (am b)):=rfl;have h:mH [] [.tup (am b)]=aa (.str b.flatten):=by show(gp (am b)).bind _=_;rw[pr,gR,if_pos l,N3]
  have i:xF b.flatten [.str [46]]=aa (.int ((cm b:Nat):Int)):=by show aa (PV.int ((b.flatten.count 46:Nat):Int))=_;rw[PQ]
  by_cases c:cm b<=6
  .have e:((cm b:Nat):Int)<=6:=∅
   simp![n9,yam,f,d,g,l4,yx,h,i,c,e]
  .have e:¬((cm b:Nat):Int)<=6:=∅
   simp![n9,yam,f,d,g,l4,yx,h,i,c,e]
theorem Pw{x:PV}(h:n9 a [.val x]=.ok (.val (.bl ah)) [.val x]):sq a [.val x]=.ok (.val .non) [.val x]:=by simp![sq,yae,h]
end
def cx(m:List (Tx×Int))(x:Tx):Option Int:=(m.find? λp=>decide (p.1=x)).map (·.2)
def j0(m:List (Tx×Int))(x:Tx)(n:Int):List (Tx×Int):=if(m.any λp=>decide (p.1=x))=ah then m.map (λp=>if p.1=x then(p.1,n)else p)else m++[(x,n)]
def dk(m:List (Tx×Int)):List (aF×PV):=m.map λp=>(Sum.inr (tS p.1),PV.int p.2)
theorem B8(x y:Tx):((Sum.inr (tS x):aF)=Sum.inr (tS y))=(x=y):=propext ⟨λh=>uK (Sum.inr.inj h),λh=>by rw[h]⟩
theorem Em(m:List (Tx×Int))(x:Tx):ji (dk m) (Sum.inr (tS x))=(cx m x).map .int:=by
 induction m with
 |nil=>rfl
 |cons p m a=>
  show((List.find? _ ((Sum.inr (tS p.1),PV.int p.2)::dk m)).map (·.2))=_;unfold cx;rw[lC,lC];simp only[B8];by_cases h:p.1=x
  .simp[h]
  .simp only[h,decide_false];exact a
theorem RJ(m:List (Tx×Int))(x:Tx):((dk m).any λa=>decide (a.1=(Sum.inr (tS x):aF)))=m.any λp=>decide (p.1=x):=by unfold dk;rw[List.any_map];congr 1;funext p;simp only[oR,B8]
theorem Lz(m:List (Tx×Int))(x:Tx)(n:Int):nZ (dk m) (Sum.inr (tS x)) (.int n)=dk (j0 m x n):=by
 unfold nZ j0;rw[RJ];split
 .unfold dk;rw[cB,cB];refine jP λp _=>?_;simp only[oR,B8];split <;> rfl
 .unfold dk;simp
theorem Ek{m:List (Tx×Int)}{x:Tx}(h:(m.any λp=>decide (p.1=x))=ak):cx m x=ae:=by unfold cx;rw[Option.map_eq_none_iff,C3];intro p a;have:=List.any_eq_false.mp h p a;simpa using this
theorem M5{m:List (Tx×Int)}{x y:Tx}{n:Int}(h:(m.any λp=>decide (p.1=x))=ak):cx (m++[(x,n)]) y=if y=x then aa n else cx m y:=by
 have a:=Ek h;unfold cx at a ⊢;rw[List.find?_append];by_cases e:y=x
 .subst e;rw[Option.map_eq_none_iff]at a;simp[a]
 .rw[if_neg e];have:¬x=y:=λz=>e z.symm;cases b:m.find? (λp=>decide (p.1=y))with
  |none=>simp[this]
  |some p=>simp
theorem KD{m:List (Tx×Int)}{x y:Tx}{n:Int}:cx (m.map λp=>if p.1=x then(p.1,n)else p) y=(cx m y).map λz=>if y=x then n else z:=by
 induction m with
 |nil=>rfl
 |cons p m a=>
  unfold cx at a ⊢;rw[bE,lC,lC];by_cases h:p.1=x
  .rw[if_pos h];by_cases e:p.1=y
   .simp[e,show y=x from e.symm.trans h]
   .simp only[e,decide_false];exact a
  .rw[if_neg h];by_cases e:p.1=y
   .simp[e,show ¬y=x from λz=>h (e.trans z)]
   .simp only[e,decide_false];exact a
theorem Ia{m:List (Tx×Int)}{x:Tx}(h:(m.any λp=>decide (p.1=x))=ah):∃n,cx m x=aa n:=by
 unfold cx;cases a:m.find? (λp=>decide (p.1=x))with
 |none=>rw[C3]at a;obtain⟨p,c,b⟩:=tL.mp h;exact absurd b (a p c)
 |some p=>exact⟨_,rfl⟩
theorem q8(m:List (Tx×Int))(x y:Tx)(n:Int):cx (j0 m x n) y=if y=x then aa n else cx m y:=by
 unfold j0;by_cases h:(m.any λp=>decide (p.1=x))=ah
 .rw[if_pos h,KD];by_cases e:y=x
  .subst e;obtain⟨k,a⟩:=Ia h;rw[a];simp
  .simp[e]
 .rw[if_neg h,M5 (C6.mpr h)]
theorem L6{m:List (Tx×Int)}{x:Tx}{n:Int}:(j0 m x n).map (·.1)=if(m.any λp=>decide (p.1=x))=ah then m.map (·.1)else m.map (·.1)++[x]:=by
 unfold j0;split
 .rw[cB];refine jP λp _=>?_;simp only[oR];split <;> rfl
 .simp
theorem uN{m:List (Tx×Int)}{x:Tx}{n:Int}(h:(m.map (·.1)).Nodup):((j0 m x n).map (·.1)).Nodup:=by
 rw[L6];split
 .exact h
 .rename_i e;rw[v6];refine⟨h,by simp,λa f b c=>?_⟩;rw[gQ]at c;subst c;rintro rfl;obtain⟨p,d,rfl⟩:=bI.mp f;exact e (tL.mpr ⟨p,d,by simp⟩)
section
variable{a:Ad}
def uX(c:Nat):PV:=.str [c]
abbrev aG(w:Nat)(ls:List Tx):PV:=.tup [.int w,.tup (am ls)]
theorem OA{c:Type}(b:List c):g9 b ae (aa (-1))=b.dropLast:=by unfold g9;rw[show HT.sIx b.length 0 ae=0 from rfl,List.drop_zero,Nat.sub_zero,Jw];congr 1;show(HT.sIx b.length b.length (aa (-1)))=_;show(if(-1:Int)<0 then((-1:Int)+(b.length:Int)).toNat else min (-1:Int).toNat b.length)=_;rw[if_pos (by decide)];lia
theorem Np(b:List Tx):j_ (am b)=aa (cN b):=by
 induction b with
 |nil=>rfl
 |cons x b c=>show(dS (.str x)).bind (λv=>(j_ (am b)).map (v::·))=_;rw[c];rfl
theorem G4(b:List Tx)(x:Tx):pL (am b) (.str x)=aa (.int (b.count x:Nat)):=by show(dS (.str x)).bind (λv=>(j_ (am b)).map λc=>PV.int (c.countP λz=>fL z v))=_;rw[Np,<-Ly];rfl
theorem Q3(w:Nat)(b:List Tx)(t:Tx)(o:t.length<=60):oy a [↥t,⇑w,.val (.tup (am b))]=.ok (.val (.bl (unD w b t))) [↥t,⇑w,.val (.tup (am b))]:=by
 have f:=BC (a:=a) t w o
 let M:=aV (a6 t w)
 have e:=iq (cap:=[3,2]) (dt:=cb) (de:=(d2 (dI λi j=>decide (i<=j)) (rH pL (dV 1) (dV 0)) (rH pL (dV 2) (dV 0)))) (ε:=[↥t,⇑w,.val (.tup (am b)),.val (.tup (am M))]) (λ_=>ah) (λx=>match x with|.str z=>.bl (decide (M.count z<=b.count z))|_=>.non) (am M)
  (by intro x c;obtain⟨z,_,rfl⟩:=bI.mp c;refine⟨by simp![bX,b_,bC,cb],λ_=>?_⟩;have m:=G4 M z;have l:=G4 b z;generalize am M=A at m;generalize am b=B at l;simp![bX,b_,bC,rH,m,l]) []
 have p:((am M).filter (λ_=>ah)).map (λx=>match x with|.str z=>PV.bl (decide (M.count z<=b.count z))|_=>.non)=(M.map λz=>decide (M.count z<=b.count z)).map .bl:=by rw[nM.mpr (by simp)];unfold am;rw[cB,cB];rfl
 rw[fq,p]at e;have n:(M.map λz=>decide (M.count z<=b.count z)).all id=unD w b t:=by
  rw[tm];unfold unD;have d:=fc (a6 t w);rw[jv,ki,ki];constructor
  .intro h x c;have:=h x (d.mem_iff.mpr c);simp only[oR,id,M,d.count_eq]at this;exact this
  .intro h x c;have:=h x (d.mem_iff.mp c);simp only[oR,id,M,d.count_eq];exact this
 generalize (M.map λz=>decide (M.count z<=b.count z))=bs at e n;have g:=AE bs;rw[n]at g;change oh a _=R.ok (Slot.val (.tup (am M))) _ at f;generalize am M=MM at f e;clear_value M;simp![oy,yaE,f,bO,aT,dG,e,g]
end
section
variable{a:Ad}
theorem Q4(b:Bool)(c d:List Tx):Pu.eqT b (.tup (am c)) (.tup (am d))=aa (.bl (b^^decide (c=d))):=by show(if eX (.tup (am c))<=8 then(dW (am c) (am d)).map (λk=>PV.bl (b^^k))else ae)=_;rw[if_pos (by show c_ (am c)+1<=8;rw[uw];decide),xu];rfl
def nextT(w:Nat)(b:List Tx)(t:Tx):List Tx:=(bV.map λc=>t++[c]).filter (unD w b)
theorem Rz(w:Nat)(e:List Tx)(V h g o:Slot)(d:List Tx)(F:∀t∈d,t.length<=50)(K:(d.flatMap (nextT w e)).length<=999999):∃j,fE 6 (g8 5 (dF (bO [6,1,2] (aT (dC (.str [97,98,99]))) (dB (bo (aY (oy a) (gV (d2 ba (dV 1) (dV 0)) (gV (dV 2) (gV (dV 3) (Pu.bN))))))) (d2 ba (dV 1) (dV 0))))) (am d) [V,⇑w,.val (.tup (am e)),h,g,.own (.lst []),o]=.ok .next [V,⇑w,.val (.tup (am e)),h,g,.own (.lst (am (d.flatMap (nextT w e)))),j]:=by
 let f:=nextT w e
 obtain⟨A,y,j,p,rest,l,C,rfl⟩:=ma (i:=6) (db:=(g8 5 (dF (bO [6,1,2] (aT (dC (.str [97,98,99]))) (dB (bo (aY (oy a) (gV (d2 ba (dV 1) (dV 0)) (gV (dV 2) (gV (dV 3) (Pu.bN))))))) (d2 ba (dV 1) (dV 0))))))
  (I:=λr ε=>∃(j:Slot) (p rest:List Tx),d=p++rest/\r=am rest/\ε=[V,⇑w,.val (.tup (am e)),h,g,.own (.lst (am (p.flatMap f))),j])
  (by
   rintro x r ε ⟨j,p,rest,l,v,rfl⟩;cases rest with
   |nil=>cases v
   |cons t rest=>
    have u:x::r=.str t::am rest:=v;simp only[lI]at u;obtain⟨rfl,rfl⟩:=u;have E:=F t (by rw[l];simp);have m:=iq (cap:=[6,1,2]) (dt:=(dB (bo (aY (oy a) (gV (d2 ba (dV 1) (dV 0)) (gV (dV 2) (gV (dV 3) (Pu.bN)))))))) (de:=(d2 ba (dV 1) (dV 0))) (ε:=[V,⇑w,.val (.tup (am e)),h,g,.own (.lst (am (p.flatMap f))),↥t])
     (λx=>match x with|.str [c]=>unD w e (t++[c])|_=>ak) (λx=>match x with|.str [c]=>.str (t++[c])|_=>.non) (bV.map uX)
     (by
      intro x D;obtain⟨c,_,rfl⟩:=bI.mp D;have n:=Q3 (a:=a) w e (t++[c]) (by simp;lia);have s:ba (.str t) (.str [c])=aa (.str (t++[c])):=pQ (by simp[bv];lia);simp only[uX];generalize am (p.flatMap f)=L;generalize unD w e (t++[c])=b at n;generalize t++[c]=tc at n s;generalize am e=B at n;refine⟨?_,λ_=>?_⟩
      .simp![bX,b_,bC,s,n]
      .simp![bX,b_,bC,s]) []
    have G:((bV.map uX).filter (λx=>match x with|.str [c]=>unD w e (t++[c])|_=>ak)).map (λx=>match x with|.str [c]=>PV.str (t++[c])|_=>.non)=am (f t):=by simp only[f,nextT];rw[qG,cB,qG];unfold am;rw[cB];rfl
    rw[fq,G]at m;have z:dG (.str [97,98,99])=aa (bV.map uX):=rfl;have q:(am (p.flatMap f)).length+(am (f t)).length<=bv:=by
     rw[j6,j6];have M:(p.flatMap f).length+(f t).length<=(d.flatMap (nextT w e)).length:=by rw[l,zL,oQ,eY,eY];simp only[f];lia
     unfold bv;lia
    refine⟨[V,⇑w,.val (.tup (am e)),h,g,.own (.lst (am ((p++[t]).flatMap f))),↥t],?_,↥t,p++[t],rest,by rw[l];simp,rfl,rfl⟩;have J:am ((p++[t]).flatMap f)=am (p.flatMap f)++am (f t):=by simp[am]
    rw[J];generalize am (f t)=Y at m q;generalize am (p.flatMap f)=L at m q;generalize am e=B at m;generalize bV.map uX=A3 at m z;clear_value f;simp![g8,bO,aT,z,m,q])
  (am d) [V,⇑w,.val (.tup (am e)),h,g,.own (.lst (am (([]:List Tx).flatMap f))),o] ⟨o,[],d,by simp,rfl,rfl⟩
 have H:rest=[]:=by cases rest with|nil=>rfl|cons=>cases C
 subst H;rw[jb]at l;rw[<-l]at y;exact⟨j,y⟩
theorem Rc{k:Nat}(h:k<=12):3^k<=531441:=c0 (Nat.pow_le_pow_right (by decide) h) (by decide)
theorem GH{w:Nat}{ls:List Tx}(g:Good bV w ls)(u:1<=w)(w4:w<=4)(W:ls.Pairwise (λa b=>cM a b=ah)):pH a [.val (aG w ls)]=.ok (.own (.lst (am (iR w ls)))) [.val (aG w ls)]:=by
 have H:iR w ls=(rowsOf w ls (ls.length+w-1)).filter (λz=>decide (aV (a6 z w)=ls)):=by rw[Li W,BJ u g.some λx r=>⟨g.len x r,g.abc x r⟩];congr 2;lia
 obtain⟨L,E⟩:∃L:Nat,ls.length+w-1=L:=⟨_,rfl⟩
 rw[E]at H;have G:L<=12:=by have:=g.few;lia
 have J:b7 [.tup (am ls)]=aa (.int (ls.length:Nat)):=by simp[b7,j6]
 have C:ba (.int (ls.length:Nat)) (.int w)=aa (.int ((ls.length:Int)+w)):=rfl;have A:lm (.int ((ls.length:Int)+w)) (.int 1)=aa (.int L):=by show aa (PV.int ((ls.length:Int)+w-1))=_;congr 2;lia
 have X:j8 [.int L]=aa (eO 0 L):=vi ∅;have y:(eO 0 L).length=L:=by simp[eO]
 obtain⟨K,m,q,p,f,rfl⟩:=uE (i:=4) (db:=(aH (cU 5 (dL cQ (aE)))
 (aH (ca 6 (aT (dV 3)) (g8 5 (dF (bO [6,1,2] (aT (dC (.str [97,98,99]))) (dB (bo (aY (oy a) (gV (d2 ba (dV 1) (dV 0)) (gV (dV 2) (gV (dV 3) (Pu.bN))))))) (d2 ba (dV 1) (dV 0))))))
 (bM 3 (dM 5)))))
  (I:=λk ε=>∃(q p f:Slot),ε=[.val (aG w ls),⇑w,.val (.tup (am ls)),.val (.lst (am (rowsOf w ls k))),q,p,f]) (N:=L)
  (by
   rintro k ε x hk ⟨q,p,f,rfl⟩;have n:∀t∈rowsOf w ls k,t.length<=50:=λt S=>by have:=((mS k t).mp (kI.mp S).1).1;lia
   have e:(rowsOf w ls k).flatMap (nextT w ls)=rowsOf w ls (k+1):=(Qk u ls k).symm;have P:((rowsOf w ls k).flatMap (nextT w ls)).length<=999999:=by rw[e];have l:=R8 w ls (k+1);have h2:=Rc (show k+1<=12 by lia);lia
   obtain⟨O,l⟩:=Rz (a:=a) w ls (.val (aG w ls)) (.val (.lst (am (rowsOf w ls k)))) (.val x) f (rowsOf w ls k) n P;rw[e]at l;refine⟨_,?_,.val x,.val (.lst (am (rowsOf w ls (k+1)))),O,rfl⟩;generalize am (rowsOf w ls (k+1))=R1 at l;generalize Y:am (rowsOf w ls k)=R0 at l;simp only[aG]at l ⊢;have o:∀(d:aj->R aM) (s:List PV) (ε:aj),ε[3]?=aa (.val (.lst s))->ca 6 (aT (dV 3)) d ε=fE 6 d s ε:=λd s ε h=>by unfold ca aT dV;rw[h];rfl
   refine(cr (ε1:=[.val (.tup [.int w,.tup (am ls)]),⇑w,.val (.tup (am ls)),.val (.lst R0),.val x,.own (.lst []),f]) (by simp![])).trans ?_;refine(cr ((o _ R0 _ rfl).trans l)).trans ?_;simp[bM,dM,R.bind])
  (eO 0 L) 0 [.val (aG w ls),⇑w,.val (.tup (am ls)),.val (.lst (am (rowsOf w ls 0))),.none,.none,.none] ∅ ⟨.none,.none,.none,rfl⟩
 rw[y,nG,Kd u]at m;have j:=iq (cap:=[1,2]) (dt:=(dB (d2 (Pu.eqT ak) (bo (aY (oh a) (gV (dV 0) (gV (dV 1) (Pu.bN))))) (dV 2)))) (de:=dV 0) (ε:=[.val (aG w ls),⇑w,.val (.tup (am ls)),.val (.lst (am (rowsOf w ls L))),q,p,f])
  (λx=>match x with|.str z=>decide (aV (a6 z w)=ls)|_=>ak) (λx=>x) (am (rowsOf w ls L))
  (by
   intro x r;obtain⟨z,Q,rfl⟩:=bI.mp r;have v:z.length<=60:=by have:=((mS L z).mp (kI.mp Q).1).1;lia
   have F:=BC (a:=a) z w v;have c:=Q4 ak (aV (a6 z w)) ls;simp only[zG]at c;generalize am (aV (a6 z w))=M at F c;generalize Z:decide (aV (a6 z w)=ls)=D at c;generalize am (rowsOf w ls L)=RR;simp only[aG];refine⟨?_,λ_=>?_⟩
   .simp only[Z];generalize am ls=B at c;simp![bX,b_,bC,F,c]
   .generalize am ls=B;simp![bX,b_,bC]) []
 have c:((am (rowsOf w ls L)).filter (λx=>match x with|.str z=>decide (aV (a6 z w)=ls)|_=>ak)).map (λx=>x)=am (iR w ls):=by rw[zJ,H];unfold am;rw[qG];rfl
 rw[fq,c]at j;have e0:am [[]]=[.str []]:=rfl;rw[e0]at m;generalize am (iR w ls)=T at j;generalize am (rowsOf w ls L)=RR at j m;simp only[aG]at j m ⊢;generalize am ls=B at j m J;simp![pH,yat,A_,J,C,A,dJ,ca,X,m,ko,bO,aT,dG,j]
def tkD(ks:List (List Tx)):List (eT×PV):=ks.map λk=>(eR k,.bl ah)
theorem txKey_inj{k l:List Tx}:eR k=eR l↔k=l:=by
 constructor
 .intro h;have b:=AF k;rw[h,AF]at b;exact(cO b).symm
 .rintro rfl;rfl
theorem put_tkD(ks:List (List Tx))(k:List Tx):q_ (tkD ks) (eR k) (.bl ah)=tkD (addL ks k):=by
 have b:((tkD ks).any λc=>decide (c.1=eR k))=decide (k∈ks):=by
  unfold tkD;rw[List.any_map,jv,tL,decide_eq_true_iff];constructor
  .rintro⟨l,d,h⟩;have:eR l=eR k:=of_decide_eq_true h;rw[<-txKey_inj.mp this];exact d
  .intro h;exact⟨k,h,decide_eq_true rfl⟩
 unfold q_ addL;rw[b];by_cases h:k∈ks
 .rw[if_pos (decide_eq_true h),if_pos h];unfold tkD;rw[cB];refine jP λl _=>?_;by_cases e:eR l=eR k
  .simp[e]
  .simp[e]
 .rw[if_neg (by simpa using h),if_neg h];simp[tkD]
theorem tkey_tup(l:List Tx):oA (.tup (am l))=aa (eR l):=by
 show pt (am l)=_
 induction l with
 |nil=>rfl
 |cons x l b=>show(jl (.str x)).bind (λk=>(pt (am l)).map (k::·))=_;rw[b];rfl
theorem tkV_key(l:List Tx):lw (eR l)=.tup (am l):=by unfold lw eR am;rw[cB];congr 1
theorem tkD_len(ks:List (List Tx)):(tkD ks).length=ks.length:=by simp[tkD]
theorem tkD_ok{ks:List (List Tx)}(h:∀k∈ks,∀x∈k,x.length<=bv):zR (tkD ks)=ah:=by unfold zR tkD;rw[tm,ki];intro k c;show(eR k).all qZ=ah;unfold eR;rw[tm,ki];intro x b;show decide ((tS x).cps.toList.length<=bv)=ah;rw[jJ];exact decide_eq_true (h k c x b)
theorem sort2t{ls:List Tx}(h:ls.length<=1000000):iS [.tup (am ls)]=aa (.lst (am (aV ls))):=by simp[iS,pr,h]
def cvB:aj->R aM:=xN 3 (dL ix (aC (dF (dL iS (aC (d2 vA (dV 4) (dL eW (aC (dV 5) (aE)))) (aE)))) (aE))) (dC (.bl ah))
theorem cv_row(h g f i:Slot)(k:List Tx)(u:k.length<=20)(d:List Tx)(b:List (List Tx))(v:b.length+d.length<=900000):∃n,fE 5 cvB (am d) [h,g,f,.own (.dT (tkD b)),.val (.tup (am k)),i]=.ok .next [h,g,f,.own (.dT (tkD ((d.map λx=>aV (k++[x])).foldl addL b))),.val (.tup (am k)),n]:=by
 induction d generalizing b i with
 |nil=>exact⟨i,rfl⟩
 |cons x d s=>
  have A:(addL b (aV (k++[x]))).length<=b.length+1:=by unfold addL;split <;> simp
  simp only[d8]at v;obtain⟨n,w⟩:=s (↥x) (addL b (aV (k++[x]))) ∅;refine⟨n,?_⟩;have l:vA (.tup (am k)) (.tup [.str x])=aa (.tup (am (k++[x]))):=by
   have e:am (k++[x])=am k++[.str x]:=by simp[am]
   rw[e];cases k with
   |nil=>rfl
   |cons z k=>
    show ba (.tup (.str z::am k)) (.tup [.str x])=_;have:(am k).length+1+1<=1000:=by rw[j6];simp at u;lia
    simp[ba];constructor
    .lia
    .rfl
  have m:=sort2t (ls:=k++[x]) (by simp;lia);have p:ix [.lst (am (aV (k++[x])))]=aa (.tup (am (aV (k++[x])))):=rfl;have o:=tkey_tup (aV (k++[x]));have j:=put_tkD b (aV (k++[x]));have q:(tkD b).length<bv:=by rw[tkD_len];unfold bv;lia
  have y:cvB [h,g,f,.own (.dT (tkD b)),.val (.tup (am k)),↥x]=.ok .next [h,g,f,.own (.dT (tkD (addL b (aV (k++[x]))))),.val (.tup (am k)),↥x]:=by generalize am (aV (k++[x]))=Y at m p o;generalize am (k++[x])=Z at m l;generalize tkD (addL b (aV (k++[x])))=D2 at j;generalize eR (aV (k++[x]))=Ky at j o;generalize tkD b=D1 at j q;generalize am k=B at l;simp![cvB,xN,l,m,p,jV,o,q,j]
  show(match cvB ([h,g,f,.own (.dT (tkD b)),.val (.tup (am k)),i].set 5 (↥x))with
   |.ok .next c=>fE 5 cvB (am d) c
   |.ok .cont c=>fE 5 cvB (am d) c
   |.ok .brk c=>.ok .next c
   |r=>r)=_
  rw[show [h,g,f,.own (.dT (tkD b)),.val (.tup (am k)),i].set 5 (↥x)=[h,g,f,.own (.dT (tkD b)),.val (.tup (am k)),↥x] from rfl,y];exact w
def cvF(a:Ad):aj->R aM:=ca 5 (aT (bo (aY (rL a) (gV (dV 2) (Pu.bN))))) cvB
theorem cv_for(b:Tx)(m:b.length<=40)(i:b.count 46<=6)(e d f:Slot)(k:List Tx)(l:k.length<=20)(c:List (List Tx))(p:c.length<=800000):∃g,cvF a [e,d,↥b,.own (.dT (tkD c)),.val (.tup (am k)),f]=.ok .next [e,d,↥b,.own (.dT (tkD ((nextW b k).foldl addL c))),.val (.tup (am k)),g]:=by
 have h:=wtf_eq (a:=a) b m i;obtain⟨g,o⟩:=cv_row e d (↥b) f k l (fills b) c (by rw[fills_len];have:=pow6 i;lia);refine⟨g,?_⟩;have j:dG (.lst (am (fills b)))=aa (am (fills b)):=rfl;have n:(aT (bo (aY (rL a) (gV (dV 2) (Pu.bN))))) [e,d,↥b,.own (.dT (tkD c)),.val (.tup (am k)),f]=.ok (am (fills b)) [e,d,↥b,.own (.dT (tkD c)),.val (.tup (am k)),f]:=by generalize am (fills b)=FB at h j;simp![aT,h,j]
 unfold cvF ca;rw[n];exact o
theorem cv_all(b:Tx)(z:b.length<=40)(o:b.count 46<=6)(V d c:Slot)(ks:List (List Tx))(n:∀k∈ks,k.length<=20/\∀x∈k,x.length<=50)(m:ks.length<=1000):∃g f,rR 4 1 (cvF a) [V,.own (.dT (tkD ks)),↥b,.own (.dT []),d,c]=.ok .next [V,.own (.dT (tkD ks)),↥b,.own (.dT (tkD (stepW ks b))),g,f]:=by
 have F:(tkD ks).map (λp=>lw p.1)=ks.map λk=>.tup (am k):=by unfold tkD;rw[cB];exact jP λk _=>tkV_key k
 obtain⟨s,q,g,f,p,rest,e,v,rfl⟩:=ma (i:=4) (db:=cvF a)
  (I:=λr ε=>∃(d c:Slot) (p rest:List (List Tx)),ks=p++rest/\r=rest.map (λk=>PV.tup (am k))/\ε=[V,.none,↥b,.own (.dT (tkD ((p.flatMap (nextW b)).foldl addL []))),d,c])
  (by
   rintro x r ε ⟨d,c,p,rest,e,j,rfl⟩;cases rest with
   |nil=>cases j
   |cons k rest=>
    simp only[bE,lI]at j;obtain⟨rfl,rfl⟩:=j;have C:((p.flatMap (nextW b)).foldl addL []).length<=800000:=by
     have h:=addF_len (p.flatMap (nextW b)) [];rw[next_len]at h;have B:=pow6 o;have A:p.length<=1000:=by rw[e]at m;simp at m;lia
     have G:p.length*3^b.count 46<=1000*729:=CI A B;simp at h;lia
    obtain⟨f,h⟩:=cv_for (a:=a) b z o V .none c k (n k (by rw[e];simp)).1 ((p.flatMap (nextW b)).foldl addL []) C;refine⟨_,h,.val (.tup (am k)),f,p++[k],rest,by rw[e];simp,rfl,?_⟩;rw[zL,wf];simp)
  (ks.map λk=>.tup (am k)) [V,.none,↥b,.own (.dT (tkD (([].flatMap (nextW b)).foldl addL []))),d,c] ⟨d,c,[],ks,rfl,rfl,rfl⟩
 have D:rest=[]:=by cases rest with|nil=>rfl|cons=>cases v
 subst D;rw[jb]at e;rw[<-e]at q;refine⟨g,f,?_⟩;have l:=tkD_ok (ks:=ks) λk u x w=>by have:=(n k u).2 x w;unfold bv;lia
 unfold rR;have y:jV [V,.own (.dT (tkD ks)),↥b,.own (.dT []),d,c] 1=aa (tkD ks):=rfl;rw[y];simp only[bY,R.bind_ok];rw[if_pos l,F];have E:fE 4 (cvF a) (ks.map λk=>.tup (am k)) ([V,.own (.dT (tkD ks)),↥b,.own (.dT []),d,c].set 1 .none)=.ok .next [V,.none,↥b,.own (.dT (tkD ((ks.flatMap (nextW b)).foldl addL []))),g,f]:=q;rw[E];rfl
theorem ways_shape{d:List Tx}{k:List Tx}(h:k∈waysF d):k.length=d.length/\k.Pairwise (λa b=>cM a b=ah)/\∀x∈k,∃b∈d,Fit x b:=by
 obtain⟨e,rfl,g⟩:=waysF_mem.mp h;refine⟨by rw[(fc e).length_eq];exact oE g,sB _,λx f=>?_⟩;have c:=(fc e).mem_iff.mp f;clear f h
 induction g with
 |nil=>cases c
 |cons r _ i=>
  rcases br.mp c with rfl|c
  .exact⟨_,by simp,r⟩
  .obtain⟨b,l,j⟩:=i c;exact⟨b,by simp[l],j⟩
theorem dots_app(ls b:List Tx):cm (ls++b)=cm ls+cm b:=by simp[cm]
theorem dots_mem{c:List Tx}{b:Tx}(h:b∈c):b.count 46<=cm c:=by
 induction c with
 |nil=>cases h
 |cons x c d=>
  have e:cm (x::c)=x.count 46+cm c:=by simp[cm]
  rcases br.mp h with rfl|h
  .lia
  .have:=d h;lia
def cvO(a:Ad):aj->R aM:=aH (cU 3 yN) (aH (rR 4 1 (cvF a)) (vn 1 3))
theorem d_clearing_views_def:yah a=aH (cU 1 (vp (dL eW (aE)) (dC (.bl ah)))) (aH (λε=>dJ (ca 2 (aT (d2 bB (dV 0) (dC (.int 1)))) (cvO a) ε)) (ko (bO [0] (aT (dF (vd 1))) (cb) (dL eW (aC (d2 bB (dV 1) (dC (.int 0))) (aC (dV 0) (aE))))))):=rfl
theorem clearing_eq{w:Nat}{d:List Tx}(g:Good gz w d)(w4:w<=4)(L:cm d<=6):vy a [.val (aG w d)]=.ok (.own (.lst ((cf (waysF d)).map λk=>prV (w,k)))) [.val (aG w d)]:=by
 have F:=g.few;have Z:=g.some;obtain⟨O,q,n,m,j,h,p,rest,l,P,rfl⟩:=ma (i:=2) (db:=cvO a)
  (I:=λr ε=>∃(n m j h:Slot) (p rest:List Tx),d=p++rest/\r=am rest/\ε=[.val (aG w d),.own (.dT (tkD (waysF p))),n,m,j,h])
  (by
   rintro x r ε ⟨n,m,j,h,p,rest,l,K,rfl⟩;cases rest with
   |nil=>cases K
   |cons b rest=>
    have J:x::r=.str b::am rest:=K;simp only[lI]at J;obtain⟨rfl,rfl⟩:=J;have G:b∈d:=by rw[l];simp
    have T:=g.len b G;have C:b.count 46<=6:=c0 (dots_mem G) L;have z:cm p<=6:=by have:=dots_app p (b::rest);rw[<-l]at this;lia
    have Q:=waysF_len p;have:=pow6 z;have Tg:p.length<=9:=by rw[l]at F;simp at F;lia
    obtain⟨H,M,o⟩:=cv_all (a:=a) b ∅ C (.val (aG w d)) j h (waysF p) (λk s=>⟨by rw[(ways_shape s).1];lia,λx u=>by obtain⟨c,f,A⟩:=(ways_shape s).2.2 x u;rw[A.len,g.len c (by rw[l];simp[f])];lia⟩) ∅;have e:stepW (waysF p) b=waysF (p++[b]):=by unfold waysF;rw[wf];rfl
    rw[e]at o;refine⟨[.val (aG w d),.own (.dT (tkD (waysF (p++[b])))),↥b,.none,H,M],?_,↥b,.none,H,M,p++[b],rest,by rw[l];simp,rfl,rfl⟩;generalize tkD (waysF (p++[b]))=D2 at o;generalize tkD (waysF p)=D1 at o;refine(cr (ε1:=[.val (aG w d),.own (.dT D1),↥b,.own (.dT []),j,h]) (by simp![yN])).trans ?_;refine(cr o).trans ?_;simp[vn])
  (am d) [.val (aG w d),.own (.dT (tkD (waysF []))),.none,.none,.none,.none] ⟨.none,.none,.none,.none,[],d,rfl,rfl,rfl⟩
 have W:rest=[]:=by cases rest with|nil=>rfl|cons=>cases P
 subst W;rw[jb]at l;rw[<-l]at q;have v:bB (aG w d) (.int 1)=aa (.tup (am d)):=rfl;have y:bB (aG w d) (.int 0)=aa (.int w):=rfl;have N:dG (.tup (am d))=aa (am d):=rfl;have D:xK (tkD (waysF d))=aa (.lst ((cf (waysF d)).map n6)):=by
  have X:(waysF d).length<=1000000/\∀k∈waysF d,k≠[]/\∀x∈k,x.length<=bv:=by
   refine⟨?_,λk s=>⟨?_,λx u=>?_⟩⟩
   .have:=waysF_len d;have:=pow6 L;lia
   .rintro rfl;have:=(ways_shape s).1;simp at this;lia
   .obtain⟨c,f,A⟩:=(ways_shape s).2.2 x u;rw[A.len,g.len c f];unfold bv;lia
  unfold xK tkD;rw[Px,gR,if_pos X]
 have f:=iq (cap:=[0]) (dt:=cb) (de:=(dL eW (aC (d2 bB (dV 1) (dC (.int 0))) (aC (dV 0) (aE))))) (ε:=[.val (aG w d),.own (.dT (tkD (waysF d))),n,m,j,h]) (λ_=>ah) (λx=>.tup [.int w,x]) ((cf (waysF d)).map n6)
  (by intro x u;generalize aG w d=V at y;generalize ((w:Nat):Int)=WI at y;refine⟨by simp![bX,b_,bC,cb],λ_=>?_⟩;simp![bX,b_,bC,y]) []
 rw[fq,nM.mpr (by simp),cB]at f;have S:(cf (waysF d)).map ((λx=>PV.tup [.int w,x]) ∘ n6)=(cf (waysF d)).map λk=>prV (w,k):=rfl;rw[S]at f;have E:dG (.lst ((cf (waysF d)).map n6))=aa ((cf (waysF d)).map n6):=rfl;have o:(cU 1 (vp (dL eW (aE)) (dC (.bl ah)))) [.val (aG w d),.none,.none,.none,.none,.none]=.ok .next [.val (aG w d),.own (.dT (tkD (waysF []))),.none,.none,.none,.none]:=by simp![vp,oA,pt,waysF,tkD,eR]
 have Y:yah a [.val (aG w d),.none,.none,.none,.none,.none]=.ok (.ret (.own (.lst ((cf (waysF d)).map λk=>prV (w,k))))) [.val (aG w d),.own (.dT (tkD (waysF d))),n,m,j,h]:=by
  rw[d_clearing_views_def];refine(cr o).trans ?_;generalize (cf (waysF d)).map (λk=>prV (w,k))=RV at f;generalize (cf (waysF d)).map n6=RT at f D E;generalize tkD (waysF d)=D2 at q f D;generalize tkD (waysF [])=D0 at q;generalize am d=B at q v N;generalize aG w d=V at q v f;refine(cr (ε1:=[.val V,.own (.dT D2),n,m,j,h]) ?_).trans ?_
  .simp![dJ,ca,aT,v,N,q]
  .simp![ko,bO,aT,vd,jV,D,E,f]
 simp[vy,bU,fX,bS,dO,Y,back,gE,aO,R.bind]
end
end Sh
namespace Mx
open L2 Pu
def mZ(z:Tx)(i:Nat):Nat:=z.getD (i % z.length) 0
def MR(z:Tx)(w:Nat):Tx:=((dO w z).flatten).take (z.length+w-1)
theorem len_sub{l m:List Tx}(a:l.Nodup)(h:∀x∈l,x∈m):l.length<=m.length:=by
 induction l generalizing m with
 |nil=>simp
 |cons x l d=>rw[kf]at a;have c:x∈m:=h x (by simp);have:=d (m:=m.erase x) a.2 λy b=>(List.mem_erase_of_ne (λz=>a.1 (by rw[<-z];exact b))).mpr (h y (by simp[b]));rw[C5 c]at this;have e:0<m.length:=List.length_pos_of_mem c;rw[d8];lia
end Mx
namespace Sh
open L2 Pu Mx
section
variable{a:Ad}
def Ez(t:Tx)(v:Nat):List Tx:=(cG (t.length+1-v)).map λi=>(t.drop i).take v
def rP(b c:Nat):List Nat:=List.range' b (c-b)
def part(t:Tx)(i j:Nat):Tx:=(t.drop i).take (j-i)
def mZ(b:List Tx)(i:Nat):Tx:=b.getD i []
def Qh(t:Tx)(s e g l:Nat):Tx:=t.take s++part t g l++part t e g++part t s e++t.drop l
def Qt(t:Tx)(b:List Tx)(s g e:Nat):List Tx:=(rP (g+1) b.length).flatMap λl=>if mZ b e=mZ b l then [Qh t s e g l] else []
def M_(t:Tx)(b:List Tx)(s g:Nat):List Tx:=(rP (s+1) (g+1)).flatMap λe=>Qt t b s g e
theorem Fg{i:Nat}{b:aj}{c:PO}(h:b[i]?=aa (.own c)):kB i b=.ok (.ret (.own c)) (b.set i .none):=by unfold kB;rw[h]
theorem OR{i:Nat}{e:aj->R (List PV)}{db:aj->R aM}{ε c b:aj}{d:List PV}(h:e ε=.ok d c)(f:fE i db d c=.ok .next b):ca i e db ε=.ok .next b:=by unfold ca;rw[h];exact f
end
section
variable{a:Ad}
def KJ(t:Tx)(b:List Tx)(s:Nat):List Tx:=(rP (s+1) b.length).flatMap λg=>if mZ b s=mZ b g then M_ t b s g else []
def Pe(t:Tx)(b:List Tx):List Tx:=(rP 0 b.length).flatMap λs=>KJ t b s
theorem At{i:Nat}{ε:aj}{v:PV}(h:ε[i]?=aa (.val v)):dV i ε=.ok v ε:=by unfold dV;rw[h]
theorem Oy{d:Type}{c:aj->R Bool}{d1 d2:aj->R d}{ε b:aj}(h:c ε=.ok ah b):cL c d1 d2 ε=d1 b:=by unfold cL;rw[h];rfl
theorem OG{d:Type}{c:aj->R Bool}{d1 d2:aj->R d}{ε b:aj}(h:c ε=.ok ak b):cL c d1 d2 ε=d2 b:=by unfold cL;rw[h];rfl
theorem pC{d:aj->R PV}{b:Bool}{ε ε1:aj}(h:d ε=.ok (.bl b) ε1):dB d ε=.ok b ε1:=by unfold dB;rw[h];rfl
def JT(t:Tx)(m w:Nat):List Tx:=(rP 1 m).map λp=>MR ((t.take m).drop p++(t.take m).take p) w
def NL(t:Tx)(b:List Tx)(w:Nat):List Tx:=if mZ b 0=mZ b (b.length-1)then JT t (b.length-1) w else []
def LL(t:Tx)(w:Nat):List Tx:=Pe t (Ez t (w-1))++NL t (Ez t (w-1)) w
def Lj(t:Tx)(m:Nat):List Tx:=(rP 1 m).map λp=>part (dO 3 (t.take m)).flatten p (p+t.length)
def ku(t:Tx)(b:List Tx):List Tx:=if mZ b 0=mZ b (b.length-1)then Lj t (b.length-1)else []
end
section
variable{a:Ad}
theorem A1{t:aj->R Bool}{c:aj->R aM}{n:Nat}{d ε1 b:aj}(h:t d=.ok ah ε1)(e:c ε1=.ok .next b):iZ t c (n+1) d=iZ t c n b:=by rw[iZ,h,R.bind_ok];simp only;rw[e]
theorem He{t:aj->R Bool}{c:aj->R aM}{n:Nat}{b ε1:aj}(h:t b=.ok ak ε1):iZ t c (n+1) b=.ok .next ε1:=by rw[iZ,h,R.bind_ok]
end
end Sh
namespace Mx
open L2 Pu
theorem qd{z:Tx}{w:Nat}(a:1<=w):(a6 z w).length=z.length+1-w:=by rw[qc z w a];simp
def Qo(t:Tx)(w:Nat):List Tx:=(dN t.length).filter λz=>(a6 z w).isPerm (a6 t w)
end Mx
namespace Sh
open L2 Pu Mx
abbrev gr(t:Tx)(v i:Nat):Tx:=(t.drop i).take v
theorem uH{t:Tx}{v i:Nat}:(gr t (v+1) i).take v=gr t v i:=by unfold gr;rw[List.take_take,Nat.min_eq_left ∅]
theorem AO{t:Tx}{v i:Nat}:(gr t (v+1) i).tail=gr t v (i+1):=by
 unfold gr;refine qw λk=>?_;rw[List.getElem?_tail,Ji,Ji,CO,CO];by_cases h:k<v
 .rw[if_pos ∅,if_pos h];congr 1;lia
 .rw[if_neg ∅,if_neg h]
theorem Ts{t:Tx}{v:Nat}{x:Tx}:x∈a6 t (v+1)↔∃i,i+v<t.length/\x=gr t (v+1) i:=by
 rw[qc _ _ ∅,bI];constructor
 .rintro⟨i,a,rfl⟩;exact⟨i,by have:=kb.mp a;lia,rfl⟩
 .rintro⟨i,a,rfl⟩;exact⟨i,kb.mpr ∅,rfl⟩
theorem HQ{v:Nat}{y:Tx}:∀(k:Nat) (t:Tx) (i:Nat),((List.range' i k).map λj=>if gr t v j=y then 1 else 0).sum+(if gr t v (i+k)=y then 1 else 0)=((List.range' i k).map λj=>if gr t v (j+1)=y then 1 else 0).sum+(if gr t v i=y then 1 else 0)
 |0,t,i=>by simp
 |k+1,t,i=>by have a:=HQ (v:=v) (y:=y) k t (i+1);rw[List.range'_succ,bE,bE,gS,gS,show i+(k+1)=i+1+k by lia];lia
end Sh
namespace Mx
open L2 Pu
theorem ES(w:Nat):∀(s r t:Tx),nw w t (s++r)=nw w t s++nw w (t++s) r
 |[],r,t=>by simp[nw]
 |c::s,r,t=>by rw[qB,nw,nw,ES w s r (t++[c]),qB,gP];rfl
end Mx
namespace Sh
open L2 Pu Mx
section
variable{v:Nat}
def oc(v:Nat)(M:List Tx)(y:Tx):Nat:=(M.map λx=>if x.take v=y then 1 else 0).sum
def ic(M:List Tx)(y:Tx):Nat:=(M.map λx=>if x.tail=y then 1 else 0).sum
theorem ya(M N:List Tx)(y:Tx):oc v (M++N) y=oc v M y+oc v N y:=by simp[oc]
theorem yK(M N:List Tx)(y:Tx):ic (M++N) y=ic M y+ic N y:=by simp[ic]
theorem uh{M N:List Tx}(h:M.Perm N)(y:Tx):oc v M y=oc v N y:=(h.map _).sum_nat
theorem ui{M N:List Tx}(h:M.Perm N)(y:Tx):ic M y=ic N y:=(h.map _).sum_nat
theorem Tq{M:List Tx}{y:Tx}:0<oc v M y↔∃x∈M,x.take v=y:=by
 unfold oc
 induction M with
 |nil=>simp
 |cons a M f=>
  rw[bE,gS];by_cases c:a.take v=y
  .rw[if_pos c];exact⟨λ_=>⟨a,by simp,c⟩,λ_=>∅⟩
  .rw[if_neg c,nG,f];exact⟨λ⟨x,d,b⟩=>⟨x,by simp[d],b⟩,λ⟨x,d,b⟩=>⟨x,(br.mp d).resolve_left λe=>c (e ▸ b),b⟩⟩
theorem TV{M:List Tx}{y:Tx}:0<ic M y↔∃x∈M,x.tail=y:=by
 unfold ic
 induction M with
 |nil=>simp
 |cons a M f=>
  rw[bE,gS];by_cases c:a.tail=y
  .rw[if_pos c];exact⟨λ_=>⟨a,by simp,c⟩,λ_=>∅⟩
  .rw[if_neg c,nG,f];exact⟨λ⟨x,d,b⟩=>⟨x,by simp[d],b⟩,λ⟨x,d,b⟩=>⟨x,(br.mp d).resolve_left λe=>c (e ▸ b),b⟩⟩
abbrev en(v:Nat)(t:Tx):Tx:=t.drop (t.length-v)
abbrev b2(p:Prop)[Decidable p]:Nat:=if p then 1 else 0
theorem Lm{t:Tx}:gr t v (t.length-v)=en v t:=by unfold gr en;exact nt (by simp;lia)
theorem u7{t:Tx}(h:v<=t.length)(y:Tx):oc v (a6 t (v+1)) y+b2 (en v t=y)=ic (a6 t (v+1)) y+b2 (t.take v=y):=by
 have:=HQ (v:=v) (y:=y) (t.length-v) t 0;rw[nG,Lm]at this;unfold oc ic b2;rw[qc _ _ ∅,cB,cB,show t.length+1-(v+1)=t.length-v by lia,List.range_eq_range'];have b:∀j,((λx:Tx=>if x.take v=y then 1 else 0) ∘ λi=>(t.drop i).take (v+1)) j=if gr t v j=y then 1 else 0:=λj=>by show(if(gr t (v+1) j).take v=_ then 1 else 0)=_;rw[uH]
 have a:∀j,((λx:Tx=>if x.tail=y then 1 else 0) ∘ λi=>(t.drop i).take (v+1)) j=if gr t v (j+1)=y then 1 else 0:=λj=>by show(if(gr t (v+1) j).tail=_ then 1 else 0)=_;rw[AO]
 rw[jP λj _=>b j,jP λj _=>a j];simpa[gr]using this
theorem DY{t:Tx}(h:v<=t.length)(c:Nat):a6 (t++[c]) (v+1)=a6 t (v+1)++[en v t++[c]]:=by rw[Hb ∅,if_pos ∅];congr 2;rw[show t.length+1-(v+1)=t.length-v by lia,CC ∅];exact nt (by simp;lia)
theorem zW{M:List Tx}(h:∀x∈M,x.length=v+1):∀(n:Nat) (t:Tx) (R:List Tx),R.length=n->v<=t.length->(a6 t (v+1)++R).Perm M -> ∃b d,b.take v=t.take v/\v<=b.length/\(a6 b (v+1)++d).Perm M/\∀x∈d,x.take v≠en v b
 |0,t,R,hn,ht,hp=>⟨t,R,rfl,ht,hp,λx a=>by rw[qF.mp hn]at a;simp at a⟩
 |n+1,t,R,hn,ht,hp=>by
  by_cases q:∃x∈R,x.take v=en v t
  .obtain⟨x,a,e⟩:=q;have i:x.length=v+1:=h x (hp.mem_iff.mp (i9 _ a));have f:x=en v t++[x.getLastD 0]:=by
    have g:x=x.take v++x.drop v:=(kh v x).symm;have m:∃c,x.drop v=[c]:=List.length_eq_one_iff.mp (by rw[mo];lia);obtain⟨c,j⟩:=m;rw[j]at g;have l:x.getLastD 0=c:=by rw[g];simp
    rw[l,<-e];exact g
   have o:(a6 (t++[x.getLastD 0]) (v+1)++R.erase x).Perm M:=by rw[DY ht,<-f,gP];exact(zp _ (List.perm_cons_erase a).symm).trans hp
   obtain⟨b,d,u,s,r,p⟩:=zW h n (t++[x.getLastD 0]) (R.erase x) (by rw[C5 a];lia) (by simp;lia) o;exact⟨b,d,by rw[u,Jp ht],s,r,p⟩
  .exact⟨t,R,rfl,ht,hp,λx a e=>q ⟨x,a,e⟩⟩
theorem RM{M:List Tx}(h:∀x∈M,x.length=v+1)(a:∀y,oc v M y=ic M y){p:Tx}(r:p.length=v):∃t R,t.take v=p/\v<=t.length/\(a6 t (v+1)++R).Perm M/\en v t=p/\(∀x∈R,x.take v≠p)/\∀y,oc v R y=ic R y:=by
 have l:a6 p (v+1)=[]:=qF.mp (by rw[qd ∅];lia);obtain⟨t,R,d,f,b,g⟩:=zW h M.length p M rfl ∅ (by rw[l];exact .refl _);rw[show p.take v=p from nt ∅]at d;have s:oc v R (en v t)=0:=by
  rcases Jx (oc v R (en v t))with q|q
  .exact q
  .obtain⟨x,j,i⟩:=Tq.mp q;exact absurd i (g x j)
 have c:=u7 f (en v t);have o:=uh (v:=v) b (en v t);have n:=ui b (en v t);have u:=a (en v t);rw[ya]at o;rw[yK]at n;rw[d]at c;unfold b2 at c;rw[if_pos rfl]at c;have e:p=en v t:=by
  by_cases q:p=en v t
  .exact q
  .rw[if_neg q]at c;lia
 refine⟨t,R,d,f,b,e.symm,by rw[e];exact g,λy=>?_⟩;have d1:=u7 f y;have d2:=uh (v:=v) b y;have m:=ui b y;rw[ya]at d2;rw[yK]at m;rw[d,<-e]at d1;have:=a y;lia
theorem Oz{t c:Tx}{i:Nat}(G:i+v<=t.length)(H:v<=c.length)(D:c.take v=gr t v i)(C:en v c=gr t v i):∃j,j.take v=t.take v/\v<=j.length/\en v j=en v t/\(a6 j (v+1)).Perm (a6 t (v+1)++a6 c (v+1)):=by
 let T1:=t.take (i+v)
 let T2:=t.drop (i+v)
 have r:t=T1++T2:=(kh _ _).symm;have A:T1.length=i+v:=by simp[T1];lia
 have l:T1=t.take i++gr t v i:=by show t.take (i+v)=_;rw[List.take_add]
 have d:(gr t v i).length=v:=by unfold gr;simp;lia
 let s:=c.drop v
 have p:c=gr t v i++s:=by rw[<-D];exact(kh _ _).symm
 have m:∀(a b:Tx),(a++gr t v i).length=a.length+v->a6 (a++gr t v i++b) (v+1)=a6 (a++gr t v i) (v+1)++nw (v+1) (gr t v i) b:=by
  intro a b _;have o:∀(n:Nat) (b:Tx),b.length=n->a6 (a++gr t v i++b) (v+1)=a6 (a++gr t v i) (v+1)++nw (v+1) (gr t v i) b:=by
   intro n
   induction n with
   |zero=>intro b g;rw[qF.mp g];simp[nw]
   |succ n B=>
    intro b g;obtain⟨h,x,rfl⟩:∃h x,b=h++[x]:=⟨b.dropLast,b.getLast (by intro e;rw[e]at g;simp at g),(List.dropLast_concat_getLast _).symm⟩
    rw[<-gP,DY (by simp[d];lia),B h (by simp at g;lia),ES,gP];congr 2;simp only[nw];congr 2;have e:(a++gr t v i++h).length-v=a.length+((gr t v i++h).length+1-(v+1)):=by simp[d];lia
    unfold en;rw[e,gP,List.drop_append];simp
  exact o b.length b rfl
 have z:a6 t (v+1)=a6 T1 (v+1)++nw (v+1) (gr t v i) T2:=by have:=m (t.take i) T2 (by simp[d]);rw[<-l]at this;rw[<-this,<-r]
 have y:a6 (T1++s) (v+1)=a6 T1 (v+1)++nw (v+1) (gr t v i) s:=by have:=m (t.take i) s (by simp[d]);rw[<-l]at this;exact this
 have w:a6 c (v+1)=nw (v+1) (gr t v i) s:=by
  conv=>lhs;rw[p]
  exact Ah ∅ (by rw[d];lia)
 have q:T1++s=t.take i++c.take (c.length-v)++gr t v i:=by rw[l,gP,<-p,gP,<-C];congr 1;exact(kh _ _).symm
 have u:a6 (T1++s++T2) (v+1)=a6 (T1++s) (v+1)++nw (v+1) (gr t v i) T2:=by have:=m (t.take i++c.take (c.length-v)) T2 (by simp[d];lia);rw[<-q]at this;exact this
 refine⟨T1++s++T2,?_,by simp[A];lia,?_,?_⟩
 .rw[gP,Jp ∅];show(t.take (i+v)).take v=_;rw[List.take_take,Nat.min_eq_left ∅]
 .have f:∀a:Tx,en v (a++(gr t v i++T2))=en v (gr t v i++T2):=λa=>by
   unfold en;rw[List.drop_append,Ju (by simp[d];lia),fq];congr 1;simp[d];lia
  have F:T1++s++T2=(t.take i++c.take (c.length-v))++(gr t v i++T2):=by rw[q];simp only[gP]
  have E:t.take i++(gr t v i++T2)=t:=by rw[<-gP,<-l];exact r.symm
  have:=f (t.take i);rw[E]at this;rw[F,f,this]
 .rw[u,y,z,w,gP,gP];exact zp _ List.perm_append_comm
def pF(v:Nat)(M:List Tx):Prop:=∀V:Tx->Prop,(∃x∈M,V (x.take v))->(∀x∈M,V (x.take v)\/V x.tail->V (x.take v)/\V x.tail)->∀x∈M,V (x.take v)
theorem Ph{M:List Tx}(J:∀x∈M,x.length=v+1)(s:pF v M):∀(n:Nat) (t:Tx) (R:List Tx),R.length<=n->v<t.length->(a6 t (v+1)++R).Perm M->(∀y,oc v R y=ic R y)->∃g,g.take v=t.take v/\v<g.length/\(a6 g (v+1)).Perm M:=by
 intro n
 induction n with
 |zero=>intro t R H o b _;rw[qF.mp (show R.length=0 by lia),jb]at b;exact⟨t,rfl,o,b⟩
 |succ n E=>
  intro t R H o b l;by_cases A:R=[]
  .rw[A,jb]at b;exact⟨t,rfl,o,b⟩
  .obtain⟨u,w⟩:=List.exists_mem_of_ne_nil R A;have f:∃i,i+v<=t.length/\∃x∈R,x.take v=gr t v i\/x.tail=gr t v i:=by
    refine Jy λno=>?_;have h:∀i,i+v<=t.length->∀x∈R,¬(x.take v=gr t v i\/x.tail=gr t v i):=λi d x a q=>no ⟨i,d,x,a,q⟩;have:=s (λy=>∃i,i+v<=t.length/\gr t v i=y)
     ⟨gr t (v+1) 0,b.mem_iff.mp (qk _ (Ts.mpr ⟨0,∅,rfl⟩)),0,∅,by rw[uH]⟩
     (λx a q=>by
      rcases gv.mp (b.mem_iff.mpr a)with a|a
      .obtain⟨j,W,rfl⟩:=Ts.mp a;exact⟨⟨j,∅,by rw[uH]⟩,⟨j+1,∅,by rw[AO]⟩⟩
      .rcases q with⟨i,d,e⟩|⟨i,d,e⟩
       .exact absurd (.inl e.symm) (h i d x a)
       .exact absurd (.inr e.symm) (h i d x a))
     u (b.mem_iff.mp (i9 _ w))
    obtain⟨i,d,e⟩:=this;exact h i d u w (.inl e.symm)
   obtain⟨i,d,x,a,G⟩:=f;have D:0<oc v R (gr t v i):=by
    rcases G with q|q
    .exact Tq.mpr ⟨x,a,q⟩
    .rw[l];exact TV.mpr ⟨x,a,q⟩
   have r:∀x∈R,x.length=v+1:=λx a=>J x (b.mem_iff.mp (i9 _ a));obtain⟨c,R2,S,Q,m,P,O,N⟩:=RM r l (p:=gr t v i) (by unfold gr;simp;lia);have Y:R2.length<R.length:=by
    have I:=m.length_eq;rw[eY]at I;rcases Jx (a6 c (v+1)).length with z|z
    .rw[qF.mp z,fq]at m;obtain⟨y,F,e⟩:=Tq.mp D;exact absurd e (O y (m.mem_iff.mpr F))
    .lia
   obtain⟨g,d1,d2,X,B⟩:=Oz d Q S P;have L:(a6 g (v+1)++R2).Perm M:=by refine(B.append_right R2).trans ?_;rw[gP];exact(m.append_left _).trans b
   have T:v<g.length:=by have:=B.length_eq;rw[eY,qd ∅,qd ∅]at this;lia
   obtain⟨C,K,f2,f3⟩:=E g R2 ∅ T L N;exact⟨C,by rw[K,d1],f2,f3⟩
theorem Ee{M:List Tx}(d:∀x∈M,x.length=v+1)(f:pF v M){s0 e:Tx}(w:∃x∈M,x.take v=s0)(b:∀y,oc v M y+b2 (e=y)=ic M y+b2 (s0=y)):∃t,t.take v=s0/\v<t.length/\(a6 t (v+1)).Perm M:=by
 obtain⟨i,j,m⟩:=w;have H:s0.length=v:=by rw[<-m,nh,d i j];lia
 have l:a6 s0 (v+1)=[]:=qF.mp (by rw[qd ∅];lia);obtain⟨t,R,c,p,a,o⟩:=zW d M.length s0 M rfl ∅ (by rw[l];exact .refl _);rw[show s0.take v=s0 from nt ∅]at c;have G:oc v R (en v t)=0:=by
  rcases Jx (oc v R (en v t))with q|q
  .exact q
  .obtain⟨x,A,z⟩:=Tq.mp q;exact absurd z (o x A)
 have g:=u7 p (en v t);have E:=uh (v:=v) a (en v t);have D:=ui a (en v t);have n:=b (en v t);rw[ya]at E;rw[yK]at D;rw[c]at g;unfold b2 at g n;rw[if_pos rfl]at g;have r:e=en v t:=by
  by_cases q:e=en v t
  .exact q
  .rw[if_neg q]at n;lia
 have h:∀y,oc v R y=ic R y:=λy=>by have d1:=u7 p y;have d2:=uh (v:=v) a y;have C:=ui a y;have I:=b y;rw[ya]at d2;rw[yK]at C;rw[c,<-r]at d1;lia
 have F:v<t.length:=by
  rcases Nat.lt_or_ge v t.length with q|q
  .exact q
  .have u:t=s0:=by rw[<-c];exact(nt ∅).symm
   subst u;rw[l,fq]at a;have:en v t=t:=by unfold en;rw[show t.length-v=0 by lia];rfl
   exact absurd (by rw[this];exact m) (o i (a.mem_iff.mpr j))
 obtain⟨s,B,f2,f3⟩:=Ph d f R.length t R (aZ _) F a h;exact⟨s,by rw[B,c],f2,f3⟩
theorem QZ{t:Tx}{M:List Tx}(a:(a6 t (v+1)).Perm M):pF v M:=by
 intro V ⟨x,f,b⟩ l z e;obtain⟨i,h,rfl⟩:=Ts.mp (a.mem_iff.mpr f);obtain⟨j,g,rfl⟩:=Ts.mp (a.mem_iff.mpr e);rw[uH]at b ⊢;have step:∀k,k+v<t.length->(V (gr t v k)↔V (gr t v (k+1))):=λk c=>by have:=l (gr t (v+1) k) (a.mem_iff.mp (Ts.mpr ⟨k,c,rfl⟩));rw[uH,AO]at this;exact⟨λq=>(this (.inl q)).2,λq=>(this (.inr q)).1⟩
 have all:∀k,k+v<t.length->(V (gr t v 0)↔V (gr t v k)):=λk=>by
  induction k with
  |zero=>intro _;exact kU
  |succ k d=>intro c;exact(d ∅).trans (step k ∅)
 exact(all j g).mp ((all i h).mpr b)
end
inductive WN(w:Nat):Nat->Tx->Tx->Prop
 |here (n:Nat) (t:Tx):WN w n t t
 |on {n:Nat}{t u z:Tx}:WN w n t u->z∈LL u w->WN w (n+1) t z
def Full(w:Nat)(t:Tx)(k:Nat):Prop:=∀z∈Qo t w,WN w k t z
theorem Bt{i:Nat}{db:aj->R aM}{d g:Type}(b:d->g->aj)(f:d->Tx->d)(P:d->Prop):∀(c:List Tx) (a:d) (s:g),P a -> (∀x∈c,∀a s,P a->P (f a x)/\∃e,db ((b a s).set i (↥x))=.ok .next (b (f a x) e))->∃e,fE i db (am c) (b a s)=.ok .next (b (c.foldl f a) e)/\P (c.foldl f a)
 |[],a,s,h,_=>⟨s,rfl,h⟩
 |x::c,a,s,h,step=>by obtain⟨o,l,q⟩:=step x (by simp) a s h;obtain⟨j,p,n⟩:=Bt b f P c (f a x) l o λy m=>step y (by simp[m]);refine⟨j,?_,n⟩;show fE i db (.str x::am c) _=_;rw[fE,q];exact p
abbrev ks(m:List (Tx×Int)):List Tx:=m.map (·.1)
theorem N9(m:List (Tx×Int))(z:Tx):(m.any λp=>decide (p.1=z))=decide (z∈ks m):=by rw[jv,tL,decide_eq_true_eq,bI];exact⟨λ⟨p,b,a⟩=>⟨p,b,of_decide_eq_true a⟩,λ⟨p,b,a⟩=>⟨p,b,decide_eq_true a⟩⟩
theorem sA(m:List (Tx×Int))(z:Tx):(cx m z).isSome=decide (z∈ks m):=by
 rw[<-N9];cases h:m.any λp=>decide (p.1=z)with
 |false=>rw[Ek h];rfl
 |true=>obtain⟨n,e⟩:=Ia h;rw[e];rfl
theorem OQ(m:List (Tx×Int)):(dk m).length=m.length:=by simp[dk]
theorem Ey{i:Nat}{db de:aj->R PV}{c b a:aj}{z:Tx}{n:Int}{m:List (Tx×Int)}(h:de c=.ok (.int n) b)(j:db b=.ok (.str z) a)(d:∃x,d_ b i=aa x)(f:d_ a i=aa (dk m))(g:m.length<bv):jF i db de c=.ok .next (a.set i (.own (.dK (dk (j0 m z n))))):=by unfold jF;obtain⟨x,e⟩:=d;rw[h,R.bind_ok,e];simp only[bY,R.bind_ok];rw[j,R.bind_ok,f];simp only[bY,R.bind_ok];show(aO (aa (Sum.inr (tS z))) a).bind _=_;simp only[bY,R.bind_ok];rw[OQ,if_pos g,Lz]
theorem GD{i:Nat}{db:aj->R PV}{ε ε1:aj}{z:Tx}{n:Int}{m:List (Tx×Int)}(a:∃x,d_ ε i=aa x)(e:db ε=.ok (.str z) ε1)(c:d_ ε1 i=aa (dk m))(d:cx m z=aa n):kE i db ε=.ok (.int n) ε1:=by unfold kE;obtain⟨x,b⟩:=a;rw[b];simp only[bY,R.bind_ok];rw[e,R.bind_ok,c];simp only[bY,R.bind_ok];show aO (ji (dk m) (.inr (tS z))) ε1=_;rw[Em,d];rfl
def cK(ks:List Tx):List (aF×PV):=ks.map λx=>(Sum.inr (tS x),PV.bl ah)
def fD(ks:List Tx)(x:Tx):List Tx:=if x∈ks then ks else ks++[x]
theorem TL{ks:List Tx}{x z:Tx}:z∈fD ks x↔z∈ks\/z=x:=by
 unfold fD;by_cases c:x∈ks
 .rw[if_pos c];exact⟨.inl,λh=>h.elim id λe=>e ▸ c⟩
 .rw[if_neg c];simp
theorem E1{ks:List Tx}{x:Tx}(h:ks.Nodup):(fD ks x).Nodup:=by
 unfold fD;by_cases c:x∈ks
 .rw[if_pos c];exact h
 .rw[if_neg c];exact v6.mpr ⟨h,by simp,λa f b d e=>by simp at d;subst d;subst e;exact c f⟩
theorem yB{ks:List Tx}{x:Tx}:ks.length<=(fD ks x).length/\(x∉ks->ks.length<(fD ks x).length):=by
 unfold fD;by_cases c:x∈ks
 .rw[if_pos c];exact⟨aZ _,λq=>absurd c q⟩
 .rw[if_neg c];simp
theorem E3(ks:List Tx)(x:Tx):((cK ks).any λa=>decide (a.1=(Sum.inr (tS x):aF)))=decide (x∈ks):=by
 unfold cK;rw[List.any_map,jv,tL,decide_eq_true_eq];constructor
 .rintro⟨z,c,b⟩;have:=of_decide_eq_true b;rw[<-uK (Sum.inr.inj this)];exact c
 .intro h;exact⟨x,h,by simp⟩
theorem QP(ks:List Tx)(x:Tx):nZ (cK ks) (Sum.inr (tS x)) (.bl ah)=cK (fD ks x):=by
 unfold nZ fD;rw[E3];by_cases c:x∈ks
 .rw[decide_eq_true c,if_pos rfl,if_pos c];unfold cK;rw[cB];refine jP λz _=>?_;simp only[oR];split
  .rfl
  .rfl
 .rw[decide_eq_false c,if_neg (by simp),if_neg c];unfold cK;simp
theorem NR(ks:List Tx)(x:Tx):(ji (cK ks) (Sum.inr (tS x))).isSome=decide (x∈ks):=by rw[<-E3];unfold ji;rw[IN,List.isSome_find?]
theorem xI(ks:List Tx):(cK ks).length=ks.length:=by simp[cK]
theorem AS{neg:Bool}{i:Nat}{db:aj->R PV}{ε ε1:aj}{z:Tx}{ks:List Tx}(b:db ε=.ok (.str z) ε1)(a:d_ ε1 i=aa (cK ks)):jj neg i db ε=.ok (.bl (neg^^decide (z∈ks))) ε1:=by unfold jj;rw[b,R.bind_ok,a];simp only[bY,R.bind_ok];show aO (aa (PV.bl (neg^^(ji (cK ks) (.inr (tS z))).isSome))) ε1=_;rw[NR];rfl
theorem D8{i:Nat}{db de:aj->R PV}{ε b a:aj}{z:Tx}{ks:List Tx}(g:de ε=.ok (.bl ah) b)(h:db b=.ok (.str z) a)(c:∃x,d_ b i=aa x)(e:d_ a i=aa (cK ks))(f:ks.length<bv):jF i db de ε=.ok .next (a.set i (.own (.dK (cK (fD ks z))))):=by unfold jF;obtain⟨x,d⟩:=c;rw[g,R.bind_ok,d];simp only[bY,R.bind_ok];rw[h,R.bind_ok,e];simp only[bY,R.bind_ok];show(aO (aa (Sum.inr (tS z))) a).bind _=_;simp only[bY,R.bind_ok];rw[xI,if_pos f,QP]
def rS(ks:List Tx)(x:Tx):List Tx:=if x.dropLast∈ks\/x.tail∈ks then fD (fD ks x.dropLast) x.tail else ks
theorem NF{ks:List Tx}{x z:Tx}(h:z∈ks):z∈rS ks x:=by
 unfold rS;split
 .exact TL.mpr (.inl (TL.mpr (.inl h)))
 .exact h
theorem Gw:∀(a:List Tx) {ks:List Tx}{z:Tx},z∈ks->z∈a.foldl rS ks
 |[],_,_,h=>h
 |x::a,_,_,h=>Gw a (NF h)
theorem DM{ks:List Tx}{x:Tx}(h:ks.Nodup):(rS ks x).Nodup:=by
 unfold rS;split
 .exact E1 (E1 h)
 .exact h
theorem DD:∀(a:List Tx) {ks:List Tx},ks.Nodup->(a.foldl rS ks).Nodup
 |[],_,h=>h
 |x::a,_,h=>DD a (DM h)
theorem A6(ks:List Tx)(x:Tx):ks.length<=(rS ks x).length:=by
 unfold rS;split
 .exact c0 yB.1 yB.1
 .exact aZ _
theorem uj:∀(a ks:List Tx),ks.length<=(a.foldl rS ks).length
 |[],ks=>aZ _
 |x::a,ks=>c0 (A6 ks x) (uj a (rS ks x))
theorem yP:∀(a ks:List Tx),(a.foldl rS ks).length=ks.length->∀x∈a,x.dropLast∈ks\/x.tail∈ks->x.dropLast∈ks/\x.tail∈ks
 |[],_,_,x,b=>by simp at b
 |y::a,ks,h,x,b=>by
  rw[gM]at h;have m:=A6 ks y;have l:=uj a (rS ks y);have d:(rS ks y).length=ks.length:=∅
  have same:rS ks y=ks/\(y.dropLast∈ks\/y.tail∈ks->y.dropLast∈ks/\y.tail∈ks):=by
   unfold rS at d ⊢;by_cases c:y.dropLast∈ks\/y.tail∈ks
   .rw[if_pos c]at d ⊢;have j:=yB (ks:=ks) (x:=y.dropLast);have g:=yB (ks:=fD ks y.dropLast) (x:=y.tail);have f:y.dropLast∈ks:=Jy λq=>by have:=j.2 q;lia
    have i:fD ks y.dropLast=ks:=by unfold fD;rw[if_pos f]
    rw[i]at g d ⊢;have e:y.tail∈ks:=Jy λq=>by have:=g.2 q;lia
    exact⟨by unfold fD;rw[if_pos e],λ_=>⟨f,e⟩⟩
   .rw[if_neg c];exact⟨rfl,λq=>absurd q c⟩
  rcases br.mp b with rfl|b
  .exact same.2
  .rw[same.1]at h;exact yP a ks h x b
theorem Ep{V:Tx->Prop}:∀(b ks:List Tx),(∀x∈b,V x.dropLast\/V x.tail->V x.dropLast/\V x.tail)->(∀z∈ks,V z)->∀z∈b.foldl rS ks,V z
 |[],_,_,h,z,d=>h z d
 |x::b,ks,f,h,z,d=>by
  refine Ep b (rS ks x) (λy a=>f y (by simp[a])) (λy a=>?_) z d;unfold rS at a;split at a
  .rename_i c;have e:=f x (by simp) (c.imp (h _) (h _));rcases TL.mp a with a|rfl
   .rcases TL.mp a with a|rfl
    .exact h y a
    .exact e.1
   .exact e.2
  .exact h y a
theorem z5:∀(a ks:List Tx),(a.foldl rS ks).length=ks.length->a.foldl rS ks=ks
 |[],_,_=>rfl
 |y::a,ks,h=>by
  rw[gM]at h ⊢;have l:=A6 ks y;have j:=uj a (rS ks y);have e:rS ks y=ks:=by
   have i:(rS ks y).length=ks.length:=∅
   have b:=yP [y] ks i y (by simp);unfold rS;by_cases c:y.dropLast∈ks\/y.tail∈ks
   .obtain⟨g,f⟩:=b c;have d:fD ks y.dropLast=ks:=by unfold fD;rw[if_pos g]
    rw[if_pos c,d];unfold fD;rw[if_pos f]
   .rw[if_neg c]
  rw[e]at h ⊢;exact z5 a ks h
def fh(a:List Tx):List Tx:=a.map zK++a.map List.tail
theorem Ip{b ks:List Tx}(h:∀z∈ks,z∈fh b){x:Tx}(c:x∈b):∀z∈rS ks x,z∈fh b:=λz a=>by
 unfold rS at a;split at a
 .rcases TL.mp a with a|rfl
  .rcases TL.mp a with a|rfl
   .exact h z a
   .exact qk _ (bI.mpr ⟨x,c,rfl⟩)
  .exact i9 _ (bI.mpr ⟨x,c,rfl⟩)
 .exact h z a
structure Rch(ls ks:List Tx):Prop where
 nd:ks.Nodup
 sub:∀z∈ks,z∈fh ls
 start:∀x r,ls=x::r->x.dropLast∈ks
 least:∀V:Tx->Prop,(∀x∈ls,V x.dropLast\/V x.tail->V x.dropLast/\V x.tail)->(∀x r,ls=x::r->V x.dropLast)->∀z∈ks,V z
theorem Rch.few{ls ks:List Tx}(h:Rch ls ks):ks.length<=2*ls.length:=by have:=len_sub h.nd h.sub;unfold fh at this;simp at this;lia
theorem Rch.next{ls ks:List Tx}(h:Rch ls ks):Rch ls (ls.foldl rS ks):=by
 refine⟨DD ls h.nd,?_,λx r e=>Gw ls (h.start x r e),λV c g=>Ep ls ks c (h.least V c g)⟩;have a:∀(l:List Tx) (ks:List Tx),(∀x∈l,x∈ls)->(∀z∈ks,z∈fh ls)->∀z∈l.foldl rS ks,z∈fh ls:=by
  intro l
  induction l with
  |nil=>exact λks _ h=>h
  |cons x l d=>exact λks b h=>d (rS ks x) (λy f=>b y (by simp[f])) (Ip h (b x (by simp)))
 exact a ls ks (λ_ h=>h) h.sub
section
variable{a:Ad}
theorem yX(x:Tx):fg (.str x) ae (aa (-1))=aa (.str x.dropLast):=by show aa (PV.str (g9 x ae (aa (-1))))=_;rw[OA]
theorem Ec(x:Tx):fg (.str x) (aa 1) ae=aa (.str x.tail):=by show aa (PV.str (g9 x (aa ((1:Nat):Int)) ae))=_;rw[Ov,List.drop_one]
def uZ:aj->R PV:=et fg (dV 3) (fe) (dU (d1 iw (dC (.int 1))))
def uv:aj->R PV:=et fg (dV 3) (dU (dC (.int 1))) (fe)
def rI:aj->R aM:=cL (lV (dB (jj ak 1 uZ)) (dB (jj ak 1 uv))) (aH (jF 1 uZ (dC (.bl ah))) (jF 1 uv (dC (.bl ah)))) (gt)
def rC:aj->R Bool:=dB (d2 (dI λi j=>decide (i<j)) (dV 2) (mV 1))
def rB:aj->R aM:=aH (bM 2 (mV 1)) (ca 3 (aT (dV 0)) rI)
theorem Q9:yaG a=aH (cU 1 (ur (et fg (d2 bB (dV 0) (dC (.int 0))) (fe) (dU (d1 iw (dC (.int 1))))) (dC (.bl ah)))) (aH (bM 2 (dC (.int 0))) (aH (λb=>dJ (iZ rC rB 1000 b)) (kB 1))):=rfl
def dD(W:PV)(ks:List Tx)(n:Nat)(b:Slot):aj:=[.val W,.own (.dK (cK ks)),⇑n,b]
theorem Hs(W:PV)(ks:List Tx)(n:Nat)(x:Tx):uZ (dD W ks n (↥x))=.ok (.str x.dropLast) (dD W ks n (↥x)):=by have h:=yX x;have b:iw (.int 1)=aa (.int (-1)):=rfl;simp[uZ,dD,et,fe,dU,dV,d1,dC,R.bind,aO,b,iV,h]
theorem FU(W:PV)(ks:List Tx)(n:Nat)(x:Tx):uv (dD W ks n (↥x))=.ok (.str x.tail) (dD W ks n (↥x)):=by have h:=Ec x;simp[uv,dD,et,fe,dU,dV,dC,R.bind,aO,iV,h]
theorem Iu(W:PV)(d:List Tx)(u:d.length<=100)(q:dG W=aa (am d))(ks:List Tx)(h:Rch d ks)(n:Nat)(f:Slot):∃j,ca 3 (aT (dV 0)) rI (dD W ks n f)=.ok .next (dD W (d.foldl rS ks) n j):=by
 obtain⟨j,e,_⟩:=Bt (i:=3) (db:=rI) (λks f=>dD W ks n f) rS (λks=>ks.Nodup/\∀z∈ks,z∈fh d) d ks f ⟨h.nd,h.sub⟩
  (by
   rintro x p ks f ⟨g,l⟩;refine⟨⟨DM g,Ip l p⟩,↥x,?_⟩;have r:ks.length<=200:=by have:=len_sub g l;unfold fh at this;simp at this;lia
   have o:=pC (AS (neg:=ak) (i:=1) (Hs W ks n x) rfl);have m:=pC (AS (neg:=ak) (i:=1) (FU W ks n x) rfl);rw[zG]at o m;have b:lV (dB (jj ak 1 uZ)) (dB (jj ak 1 uv)) (dD W ks n (↥x))=.ok (decide (x.dropLast∈ks\/x.tail∈ks)) (dD W ks n (↥x)):=by
    unfold lV;rw[o,R.bind_ok];by_cases c:x.dropLast∈ks
    .rw[decide_eq_true c,decide_eq_true (.inl c)]
    .rw[decide_eq_false c];simp only;rw[m];congr 1;simp[c]
   show rI (dD W ks n (↥x))=_;unfold rI rS;by_cases c:x.dropLast∈ks\/x.tail∈ks
   .rw[decide_eq_true c]at b;rw[if_pos c];refine(Oy b).trans ?_;have g:=D8 (i:=1) (de:=dC (.bl ah)) (ε:=dD W ks n (↥x)) rfl (Hs W ks n x) ⟨_,rfl⟩ rfl (by unfold bv;lia);refine(cr g).trans ?_;have s:(fD ks x.dropLast).length<=ks.length+1:=by unfold fD;split <;> simp
    exact D8 (i:=1) (de:=dC (.bl ah)) (ε:=dD W (fD ks x.dropLast) n (↥x)) rfl (FU W (fD ks x.dropLast) n x) ⟨_,rfl⟩ rfl (by unfold bv;lia)
   .rw[decide_eq_false c]at b;rw[if_neg c];exact(OG b).trans rfl)
 refine⟨j,OR ?_ e⟩;unfold aT;rw[At (v:=W) rfl,R.bind_ok,q];rfl
theorem xv(W:PV)(ks:List Tx)(n:Nat)(b:Slot):rC (dD W ks n b)=.ok (decide (n<ks.length)) (dD W ks n b):=by
 have d:mV 1 (dD W ks n b)=.ok (.int (ks.length:Nat)) (dD W ks n b):=by show R.ok (PV.int ((cK ks).length:Nat)) _=_;rw[xI]
 have c:decide ((n:Int)<(ks.length:Nat))=decide (n<ks.length):=by
  by_cases q:n<ks.length
  .rw[decide_eq_true q,decide_eq_true ∅]
  .rw[decide_eq_false q,decide_eq_false ∅]
 refine pC (yi (x:=.int n) (At rfl) d ?_);show aa (PV.bl (decide ((n:Int)<(ks.length:Nat))))=_;rw[c]
theorem PR(W:PV)(b:List Tx)(v:b.length<=100)(w:dG W=aa (am b)):∀(j:Nat) (ks:List Tx) (n l:Nat) (g:Slot),2*b.length<=ks.length+j->j+2<=l->n<ks.length->Rch b ks -> ∃d r i,Rch b d/\(∀x∈b,x.dropLast∈d\/x.tail∈d->x.dropLast∈d/\x.tail∈d)/\iZ rC rB l (dD W ks n g)=.ok .next (dD W d r i):=by
 intro j
 induction j with
 |zero=>
  intro ks n l g G F s h;obtain⟨f,rfl⟩:∃f,l=f+1+1:=⟨l-2,∅⟩
  obtain⟨i,e⟩:=Iu W b v w ks h ks.length g;have I:=h.few;have H:=h.next.few;have D:=uj b ks;have p:=z5 b ks ∅;have u:=yP b ks (by rw[p]);rw[p]at e;have c:=xv W ks n g;rw[decide_eq_true s]at c;have m:rB (dD W ks n g)=.ok .next (dD W ks ks.length i):=by
   unfold rB;have k:bM 2 (mV 1) (dD W ks n g)=.ok .next (dD W ks ks.length g):=by refine sC (x:=.int (ks.length:Nat)) (ε1:=dD W ks n g) ?_;show R.ok (PV.int ((cK ks).length:Nat)) _=_;rw[xI]
   exact(cr k).trans e
  have o:=xv W ks ks.length i;rw[decide_eq_false (gu _)]at o;exact⟨ks,ks.length,i,h,u,(A1 c m).trans (He o)⟩
 |succ j E=>
  intro ks n l g G F s h;obtain⟨f,rfl⟩:∃f,l=f+1:=⟨l-1,∅⟩
  obtain⟨i,e⟩:=Iu W b v w ks h ks.length g;have D:=uj b ks;have c:=xv W ks n g;rw[decide_eq_true s]at c;have m:rB (dD W ks n g)=.ok .next (dD W (b.foldl rS ks) ks.length i):=by
   unfold rB;have k:bM 2 (mV 1) (dD W ks n g)=.ok .next (dD W ks ks.length g):=by refine sC (x:=.int (ks.length:Nat)) (ε1:=dD W ks n g) ?_;show R.ok (PV.int ((cK ks).length:Nat)) _=_;rw[xI]
   exact(cr k).trans e
  by_cases q:(b.foldl rS ks).length=ks.length
  .have p:=z5 b ks q;have u:=yP b ks q;rw[p]at m;obtain⟨y,rfl⟩:∃y,f=y+1:=⟨f-1,∅⟩
   have o:=xv W ks ks.length i;rw[decide_eq_false (gu _)]at o;exact⟨ks,ks.length,i,h,u,(A1 c m).trans (He o)⟩
  .obtain⟨d,r,z,C,B,A⟩:=E (b.foldl rS ks) ks.length f i ∅ ∅ ∅ h.next;exact⟨d,r,z,C,B,(A1 c m).trans A⟩
theorem Rp(W:PV)(x:Tx)(r:List Tx)(v:r.length<=50)(s:dG W=aa (am (x::r)))(d:bB W (.int 0)=aa (.str x)):∃ks,Rch (x::r) ks/\(∀y∈x::r,y.dropLast∈ks\/y.tail∈ks->y.dropLast∈ks/\y.tail∈ks)/\ou a [.val W]=.ok (.own (.dK (cK ks))) [.val W]:=by
 have u:Rch (x::r) [x.dropLast]:=⟨by simp,λz b=>by simp at b;rw[b];simp[fh],λy q e=>by cases e;simp,λV _ o z b=>by simp at b;rw[b];exact o x r rfl⟩
 obtain⟨ks,n,f,i,h,m⟩:=PR W (x::r) (by simp;lia) s (2*(x::r).length) [x.dropLast] 0 1000 .none ∅ (by simp;lia) (by simp) u;refine⟨ks,i,h,?_⟩;have g:=yX x;have p:iw (.int 1)=aa (.int (-1)):=rfl;have l:cU 1 (ur (et fg (d2 bB (dV 0) (dC (.int 0))) (fe) (dU (d1 iw (dC (.int 1))))) (dC (.bl ah))) [.val W,.none,.none,.none]=.ok .next [.val W,.own (.dK (cK [x.dropLast])),.none,.none]:=by simp[cU,ur,et,fe,dU,d2,d1,dV,dC,R.bind,aO,d,p,iV,g,jl,cK]
 have j:bM 2 (dC (.int 0)) [.val W,.own (.dK (cK [x.dropLast])),.none,.none]=.ok .next (dD W [x.dropLast] 0 .none):=rfl;have c:yaG a [.val W,.none,.none,.none]=.ok (.ret (.own (.dK (cK ks)))) [.val W,.none,⇑n,f]:=by rw[Q9];refine(cr l).trans ?_;refine(cr j).trans ?_;refine(cr (d1:=λε=>dJ (iZ rC rB 1000 ε)) (by show dJ _=_;rw[m];rfl)).trans ?_;exact Fg rfl
 unfold ou;generalize yaG a=D at c;generalize cK ks=A at c;simp[bU,fX,bS,dO,c,back,aO,R.bind,gE]
theorem PB{v:Nat}{x:Tx}{r ks:List Tx}(m:∀y∈x::r,y.length=v+1)(h:Rch (x::r) ks)(o:∀y∈x::r,y.dropLast∈ks\/y.tail∈ks->y.dropLast∈ks/\y.tail∈ks):(∀y∈x::r,y.dropLast∈ks)↔pF v (x::r):=by
 have d:∀y∈x::r,y.take v=y.dropLast:=λy b=>by rw[Jw,m y b];rfl
 constructor
 .intro j V ⟨y,b,i⟩ p z g;have l:∀y∈x::r,V y.dropLast\/V y.tail->V y.dropLast/\V y.tail:=λy b q=>by have:=p y b;rw[d y b]at this;exact this q
  rw[d y b]at i;rw[d z g];by_cases c:V x.dropLast
  .exact h.least V l (λ_ _ e=>by cases e;exact c) _ (j z g)
  .have:=h.least (λq=>¬V q) (λy b q=>by
     have:=l y b;refine⟨λn=>?_,λn=>?_⟩
     .rcases q with q|q
      .exact q n
      .exact q (this (.inl n)).2
     .rcases q with q|q
      .exact q (this (.inr n)).1
      .exact q n) (λ_ _ e=>by cases e;exact c) _ (j y b)
   exact absurd i this
 .intro f y b;have:=f (λq=>q∈ks) ⟨x,by simp,by rw[d x (by simp)];exact h.start x r rfl⟩ (λy b q=>by rw[d y b]at q ⊢;exact o y b q) y b;rwa[d y b]at this
end
def ll(m:List (Tx×Int))(x:Tx):List (Tx×Int):=j0 (j0 m x.dropLast ((cx m x.dropLast).getD 0+1)) x.tail ((cx (j0 m x.dropLast ((cx m x.dropLast).getD 0+1)) x.tail).getD 0-1)
def b1(p:Prop)[Decidable p]:Int:=if p then 1 else 0
theorem Pf(m:List (Tx×Int))(x y:Tx):(cx (ll m x) y).getD 0=(cx m y).getD 0+b1 (x.dropLast=y)-b1 (x.tail=y):=by
 unfold ll b1;rw[q8,q8,q8];by_cases b:y=x.tail
 .subst b;by_cases a:x.tail=x.dropLast
  .rw[if_pos rfl,if_pos a,if_pos a.symm,if_pos rfl,a];simp
  .rw[if_pos rfl,if_neg a,if_neg (dz a),if_pos rfl];simp
 .rw[if_neg b,if_neg (dz b)];by_cases a:y=x.dropLast
  .subst a;rw[if_pos rfl,if_pos rfl];simp
  .rw[if_neg a,if_neg (dz a)];simp
theorem Fh(m:List (Tx×Int))(x y:Tx):y∈ks (ll m x)↔y∈ks m\/y=x.dropLast\/y=x.tail:=by
 have k:∀(m:List (Tx×Int)) (z:Tx),z∈ks m↔(cx m z).isSome=ah:=λm z=>by rw[sA,decide_eq_true_eq]
 rw[k,k];unfold ll;generalize (cx (j0 m x.dropLast ((cx m x.dropLast).getD 0+1)) x.tail).getD 0-1=n1;generalize (cx m x.dropLast).getD 0+1=n2;rw[q8,q8];by_cases b:y=x.tail
 .rw[if_pos b];simp[b]
 .rw[if_neg b];by_cases a:y=x.dropLast
  .rw[if_pos a];simp[a]
  .rw[if_neg a];simp[b,a]
def bt(a:List Tx):List (Tx×Int):=a.foldl ll []
def exc(ls:List Tx)(y:Tx):Int:=(ls.map λx=>b1 (x.dropLast=y)-b1 (x.tail=y)).sum
theorem FM:∀(a:List Tx) (m:List (Tx×Int)) (y:Tx),(cx (a.foldl ll m) y).getD 0=(cx m y).getD 0+exc a y
 |[],m,y=>by simp[exc]
 |x::a,m,y=>by rw[gM,FM a,Pf];simp only[exc,bE,gS];lia
theorem BR(a:List Tx)(y:Tx):(cx (bt a) y).getD 0=exc a y:=by unfold bt;rw[FM];show 0+_=_;lia
theorem G3:∀(a:List Tx) (m:List (Tx×Int)) (y:Tx),y∈ks (a.foldl ll m)↔y∈ks m\/y∈fh a
 |[],m,y=>by simp[fh]
 |x::a,m,y=>by
  rw[gM,G3 a,Fh];simp only[fh,bE,gv,br];constructor
  .rintro((h|h|h)|h|h)
   .exact .inl h
   .exact .inr (.inl (.inl h))
   .exact .inr (.inr (.inl h))
   .exact .inr (.inl (.inr h))
   .exact .inr (.inr (.inr h))
  .rintro(h | (h|h)|h|h)
   .exact .inl (.inl h)
   .exact .inl (.inr (.inl h))
   .exact .inr (.inl h)
   .exact .inl (.inr (.inr h))
   .exact .inr (.inr h)
theorem xl(a:List Tx)(y:Tx):y∈ks (bt a)↔y∈fh a:=by unfold bt;rw[G3];simp
theorem Fs:∀(a:List Tx) (m:List (Tx×Int)),(ks m).Nodup->(ks (a.foldl ll m)).Nodup
 |[],_,h=>h
 |x::a,m,h=>Fs a _ (uN (uN h))
theorem Hj(a:List Tx):(ks (bt a)).Nodup:=Fs a [] (by simp)
section
variable{a:Ad}
def vD:aj->R PV:=et fg (dV 2) (fe) (dU (d1 iw (dC (.int 1))))
def sM:aj->R PV:=et fg (dV 2) (dU (dC (.int 1))) (fe)
def xB:aj->R aM:=aH (jF 1 vD (d2 ba (l9 1 vD (dC (.int 0))) (dC (.int 1)))) (jF 1 sM (d2 lm (l9 1 sM (dC (.int 0))) (dC (.int 1))))
theorem Oh:yaj a=aH (cU 1 (xS)) (aH (λb=>dJ (ca 2 (aT (dV 0)) xB b)) (kB 1)):=rfl
def ir(W:PV)(m:List (Tx×Int))(s:Slot):aj:=[.val W,.own (.dK (dk m)),s]
theorem EB(W:PV)(m:List (Tx×Int))(x:Tx):vD (ir W m (↥x))=.ok (.str x.dropLast) (ir W m (↥x)):=by have h:=yX x;have b:iw (.int 1)=aa (.int (-1)):=rfl;simp[vD,ir,et,fe,dU,dV,d1,dC,R.bind,aO,b,iV,h]
theorem HU(W:PV)(m:List (Tx×Int))(x:Tx):sM (ir W m (↥x))=.ok (.str x.tail) (ir W m (↥x)):=by have h:=Ec x;simp[sM,ir,et,fe,dU,dV,dC,R.bind,aO,iV,h]
theorem DJ{i:Nat}{db:aj->R PV}{b:aj}{z:Tx}{m:List (Tx×Int)}{n:Int}(d:db b=.ok (.str z) b)(c:d_ b i=aa (dk m)):l9 i db (dC (.int n)) b=.ok (.int ((cx m z).getD n)) b:=by
 unfold l9;rw[c];simp only[bY,R.bind_ok];rw[d,R.bind_ok];show((R.ok (PV.int n) b).bind _)=_;rw[R.bind_ok,c];simp only[bY,R.bind_ok];show aO (aa ((ji (dk m) (.inr (tS z))).getD (.int n))) b=_;rw[Em];cases cx m z <;> rfl
theorem Rf(W:PV)(b:List Tx)(L:b.length<=100)(E:dG W=aa (am b)):rj a [.val W]=.ok (.own (.dK (dk (bt b)))) [.val W]:=by
 obtain⟨d,e,_⟩:=Bt (i:=2) (db:=xB) (λm s=>ir W m s) ll (λm=>(ks m).Nodup/\∀z∈ks m,z∈fh b) b [] .none ⟨by simp,by simp⟩
  (by
   rintro x r m s ⟨j,g⟩;have y:(ks (ll m x)).Nodup:=uN (uN j);have u:x.dropLast∈fh b:=by unfold fh;exact qk _ (Dg r)
   have B:x.tail∈fh b:=by unfold fh;exact i9 _ (Dg r)
   refine⟨⟨y,λz l=>?_⟩,↥x,?_⟩
   .rcases(Fh m x z).mp l with h|h|h
    .exact g z h
    .rw[h];exact u
    .rw[h];exact B
   .have few:∀{q:List (Tx×Int)},(ks q).Nodup->(∀z∈ks q,z∈fh b)->q.length<=200:=λ{q} n s=>by
     have:=len_sub n s;unfold fh at this;simp at this;lia
    have K:=few j g;have M:(1000:Nat)<=bv:=by decide
    have G:=DJ (i:=1) (n:=0) (EB W m x) rfl;have I:d2 ba (l9 1 vD (dC (.int 0))) (dC (.int 1)) (ir W m (↥x))=.ok (.int ((cx m x.dropLast).getD 0+1)) (ir W m (↥x)):=by unfold d2;rw[G,R.bind_ok];rfl
    have p:=Ey (i:=1) I (EB W m x) ⟨_,rfl⟩ rfl (m:=m) ∅;generalize f:j0 m x.dropLast ((cx m x.dropLast).getD 0+1)=q at p;have w:(ks q).Nodup:=by rw[<-f];exact uN j
    have v:∀z∈ks q,z∈fh b:=λz l=>by
     have:(cx q z).isSome=ah:=by rw[sA];exact decide_eq_true l
     rw[<-f,q8]at this;by_cases c:z=x.dropLast
     .rw[c];exact u
     .rw[if_neg c,sA,decide_eq_true_eq]at this;exact g z this
    have J:=few w v;have F:=DJ (i:=1) (n:=0) (HU W q x) rfl;have H:d2 lm (l9 1 sM (dC (.int 0))) (dC (.int 1)) (ir W q (↥x))=.ok (.int ((cx q x.tail).getD 0-1)) (ir W q (↥x)):=by unfold d2;rw[F,R.bind_ok];rfl
    have d:=Ey (i:=1) H (HU W q x) ⟨_,rfl⟩ rfl (m:=q) ∅;show xB (ir W m (↥x))=_;unfold xB;refine(cr p).trans ?_;refine Eq.trans (show jF 1 sM _ _=_ from d) ?_;unfold ll;rw[f];rfl)
 have o:yaj a [.val W,.none,.none]=.ok (.ret (.own (.dK (dk (bt b))))) [.val W,.none,d]:=by
  rw[Oh];refine(cr (show cU 1 xS [.val W,.none,.none]=.ok .next (ir W [] .none)from rfl)).trans ?_;have C:ca 2 (aT (dV 0)) xB (ir W [] .none)=.ok .next (ir W (bt b) d):=by
   unfold ca;have:aT (dV 0) (ir W [] .none)=.ok (am b) (ir W [] .none):=by unfold aT;show(R.ok W _).bind _=_;rw[R.bind_ok,E];rfl
   rw[this,R.bind_ok];exact e
  refine(cr (d1:=λε=>dJ (ca 2 (aT (dV 0)) xB ε)) (by show dJ _=_;rw[C];rfl)).trans ?_;exact Fg rfl
 unfold rj;generalize yaj a=D at o;generalize dk (bt b)=A at o;simp[bU,fX,bS,dO,o,back,aO,R.bind,gE]
end
theorem FT{a:aj}{i:Nat}{s:Slot}(h:a[i]?=aa s):a.set i s=a:=by
 apply qw;intro j;by_cases b:i=j
 .subst b;rw[dY (cA.mp h).1,h]
 .rw[cS b]
theorem HZ{b:Type}{d:aj->R b}{x:PV}{ε:aj}{i:Nat}{a:PO}{r:b}(c:ε[i]?=aa (.own a))(e:d [.val x,.own a]=.ok r [.val x,.own a]):bC (bX [i] d x ε)=.ok r ε:=by simp[bX,b_,c,bC,R.bind,aO,cV,fR,e,im,iO,gq,FT c]
theorem EX{b:Type}{d:aj->R b}{x y:PV}{ε:aj}{i:Nat}{a:PO}{r:b}(c:ε[i]?=aa (.own a))(e:d [.val x,.val y,.own a]=.ok r [.val x,.val y,.own a]):bC (l8 [i] d x y ε)=.ok r ε:=by simp[l8,b_,c,bC,R.bind,aO,cV,fR,e,im,iO,gq,FT c]
theorem Fq{cap:List Nat}{dt:aj->R Bool}{de:aj->R PV}{ε:aj}(p:PV×PV->Bool)(f:PV×PV->PV):∀(a:List (PV×PV)),(∀x∈a,bC (l8 cap dt x.1 x.2 ε)=.ok (p x) ε/\(p x=ah->bC (l8 cap de x.1 x.2 ε)=.ok (f x) ε))->∀b,og cap dt de a b ε=.ok (b++(a.filter p).map f) ε
 |[],_,b=>by simp[og]
 |x::a,h,b=>by
  have e:=h x (by simp);have d:=Fq p f a (λy g=>h y (by simp[g]));unfold og;rw[e.1,R.bind_ok];cases c:p x
  .rw[d b,tO,c];rfl
  .show(bC (l8 cap de x.1 x.2 ε)).bind _=_;rw[e.2 c,R.bind_ok,d,tO,c];simp
theorem GO:∀m:List (Tx×Int),p_ (dk m)=aa (ks m)
 |[]=>rfl
 |p::m=>by show(p_ (dk m)).map _=_;rw[GO m];simp[tS]
def g_(a:List Tx):List Tx:=(aV (ks (bt a))).filter λy=>decide (0<exc a y)
def Ij(a:List Tx):PV->Bool
 |.str y=>decide (0<exc a y)
 |_=>ak
theorem NX(b:List Tx)(a:List Tx):((am a).filter (Ij b)).map (λx=>x)=am (a.filter λy=>decide (0<exc b y)):=by rw[zJ];unfold am;rw[qG];rfl
def vj(ks:List Tx):PV×PV->Bool
 | (_,.str y)=>decide (y.dropLast∈ks)
 |_=>ak
theorem HS(ks:List Tx):∀(n:Nat) (a:List Tx),((jG (λi=>PV.int (i:Nat)) n (am a)).filter (vj ks)).length=(a.filter λy=>decide (y.dropLast∈ks)).length
 |n,[]=>rfl
 |n,y::a=>by
  have b:=HS ks (n+1) a;show(((PV.int n,PV.str y)::jG _ (n+1) (am a)).filter (vj ks)).length=_;have e:vj ks (PV.int n,PV.str y)=decide (y.dropLast∈ks):=rfl;rw[tO,tO,e];by_cases c:y.dropLast∈ks
  .rw[decide_eq_true c,if_pos rfl,if_pos rfl,d8,d8,b]
  .rw[decide_eq_false c,if_neg (by decide),if_neg (by decide)];exact b
theorem Fv(f:Nat->PV):∀(n:Nat) (a:List Tx),∀q∈jG f n (am a),∃k y,q=(f k,.str y)
 |n,[],q,h=>by cases h
 |n,y::a,q,h=>by
  rcases br.mp h with h|h
  .exact⟨n,y,h⟩
  .exact Fv f (n+1) a q h
section
variable{a:Ad}
def uu:aj->R PV:=et fg (dV 1) (fe) (dU (d1 iw (dC (.int 1))))
def f2(a:Ad):aj->R aM:=bM 2 (dF (bO [1] (aT (dF (oB 1))) (dB (d2 (dI λi j=>decide (j<i)) (kE 1 (dV 0)) (dC (.int 0)))) (dV 0)))
def f3:aj->R aM:=cL (dB (d2 (dI λi j=>decide (j<i)) (dL b7 (aC (dV 2) (aE))) (dC (.int 1)))) (cI (dL eW (aC (dC (.str [116,119,111])) (aC (d2 bB (dV 2) (dC (.int 0))) (aC (d2 bB (dV 2) (dC (.int 1))) (aE)))))) (gt)
def f4:aj->R aM:=cL (pi (dB (d2 (eqT ak) (dL b7 (aC (dV 2) (aE))) (dC (.int 1)))) (dB (d2 (dI λi j=>decide (j<i)) (kE 1 (d2 bB (dV 2) (dC (.int 0)))) (dC (.int 1))))) (cI (dL eW (aC (dC (.str [109,111,114,101])) (aC (d2 bB (dV 2) (dC (.int 0))) (aE))))) (gt)
def f6:aj->R aM:=bM 4 (dF (pX [3] (uU (aC (dV 0) (aE))) (dB (jj ak 2 uu)) (dV 0)))
def f7:aj->R aM:=cL (dB (d2 (dI λi j=>decide (i<j)) (dL b7 (aC (dV 4) (aE))) (dL b7 (aC (dV 0) (aE))))) (cI (dL eW (aC (dC (.str [97,112,97,114,116])) (aC (dL ix (aC (dV 4) (aE))) (aE))))) (gt)
theorem Sg:yak a=aH (cU 1 (j4 (aY (rj a) (gV (dV 0) (Pu.bN))))) (aH (f2 a) (aH f3 (aH f4 (aH (cU 3 (j4 (aY (ou a) (gV (dV 0) (Pu.bN))))) (aH f6 (aH f7 (cI (dC .non)))))))):=rfl
theorem Dz{G:aj->R Slot}{W:PV}{ε:aj}{i:Nat}{b:PO}(e:ε[0]?=aa (.val W))(d:G [.val W]=.ok (.own b) [.val W])(c:i<ε.length):cU i (j4 (aY G (gV (dV 0) (Pu.bN)))) ε=.ok .next (ε.set i (.own b)):=by simp[cU,j4,aY,gV,Pu.bN,dV,e,R.bind,aO,cV,fR,d,im,iO,gq,yz,c]
theorem NG(W:PV)(b:List Tx)(w:b.length<=20)(g:∀y∈b,y.length<=100)(e d c:Slot):f2 a [.val W,.own (.dK (dk (bt b))),e,d,c]=.ok .next [.val W,.own (.dK (dk (bt b))),.val (.lst (am (g_ b))),d,c]:=by
 unfold f2;have few:(ks (bt b)).length<64:=by have:=len_sub (Hj b) (λz l=>(xl b z).mp l);unfold fh at this;simp at this ⊢;lia
 have q:∀z∈ks (bt b),z.length<=bv:=λz l=>by
  have:=(xl b z).mp l;have A:(1000:Nat)<=bv:=by decide
  unfold fh at this;simp only[gv,bI]at this;rcases this with⟨y,f,rfl⟩|⟨y,f,rfl⟩
  .have:=g y f;simp;lia
  .have:=g y f;simp;lia
 have r:oB 1 [.val W,.own (.dK (dk (bt b))),e,d,c]=.ok (.lst (am (aV (ks (bt b))))) [.val W,.own (.dK (dk (bt b))),e,d,c]:=by unfold oB;show aO (xP (dk (bt b))) _=_;unfold xP;rw[GO];show aO (if _ then _ else _) _=_;rw[if_pos ⟨few,q⟩];rfl
 have s:aT (dF (oB 1)) [.val W,.own (.dK (dk (bt b))),e,d,c]=.ok (am (aV (ks (bt b)))) [.val W,.own (.dK (dk (bt b))),e,d,c]:=by unfold aT dF;rw[r];rfl
 have v:=iq (cap:=[1]) (dt:=dB (d2 (dI λi j=>decide (j<i)) (kE 1 (dV 0)) (dC (.int 0)))) (de:=dV 0) (ε:=[.val W,.own (.dK (dk (bt b))),e,d,c]) (Ij b) (λx=>x) (am (aV (ks (bt b)))) (λx g=>by
  obtain⟨y,f,rfl⟩:=bI.mp g;have m:y∈ks (bt b):=(fc _).mem_iff.mp f;have u:cx (bt b) y=aa (exc b y):=by
   have p:(cx (bt b) y).isSome=ah:=by rw[sA];exact decide_eq_true m
   have o:=BR b y;cases h:cx (bt b) y with
   |none=>rw[h]at p;cases p
   |some n=>rw[h]at o;rw[<-o];rfl
  refine⟨HZ rfl ?_,λ_=>HZ rfl rfl⟩;refine pC ?_;unfold d2;rw[GD (i:=1) (db:=dV 0) (ε:=[↥y,.own (.dK (dk (bt b)))]) ⟨_,rfl⟩ rfl rfl u,R.bind_ok];rfl) []
 refine(sC (x:=.lst (am (g_ b))) (ε1:=[.val W,.own (.dK (dk (bt b))),e,d,c]) ?_).trans rfl;have m:bO [1] (aT (dF (oB 1))) (dB (d2 (dI λi j=>decide (j<i)) (kE 1 (dV 0)) (dC (.int 0)))) (dV 0) [.val W,.own (.dK (dk (bt b))),e,d,c]=.ok (.lst (am (g_ b))) [.val W,.own (.dK (dk (bt b))),e,d,c]:=by unfold bO;rw[s,R.bind_ok,v,R.bind_ok,fq,NX];rfl
 show(bO _ _ _ _ _).bind _=_;rw[m];rfl
def jo(ks b:List Tx):List PV:=((vg (am b)).filter (vj ks)).map (·.1)
theorem Bg(y:Tx)(r:List Tx):bB (.lst (am (y::r))) (.int 0)=aa (.str y):=by show fV (.str y::am r) 0=_;rw[yC (by decide) (by simp)];rfl
theorem Qi(y z:Tx)(r:List Tx):bB (.lst (am (y::z::r))) (.int 1)=aa (.str z):=by show fV (.str y::.str z::am r) 1=_;rw[yC (by decide) (by simp)];rfl
theorem Ku{W:PV}(e ks:List Tx)(o:W=.tup (am e))(c b d:Slot):f6 [.val W,c,b,.own (.dK (cK ks)),d]=.ok .next [.val W,c,b,.own (.dK (cK ks)),.val (.lst (jo ks e))]:=by
 unfold f6;have l:uU (aC (dV 0) (aE)) [.val W,c,b,.own (.dK (cK ks)),d]=.ok (vg (am e)) [.val W,c,b,.own (.dK (cK ks)),d]:=by subst o;rfl
 have m:=Fq (cap:=[3]) (dt:=dB (jj ak 2 uu)) (de:=dV 0) (ε:=[.val W,c,b,.own (.dK (cK ks)),d]) (vj ks) (·.1) (vg (am e)) (λx f=>by
  obtain⟨k,y,rfl⟩:=Fv _ 0 e x f;refine⟨EX rfl ?_,λ_=>EX rfl rfl⟩;have n:uu [.val (PV.int k),↥y,.own (.dK (cK ks))]=.ok (.str y.dropLast) [.val (PV.int k),↥y,.own (.dK (cK ks))]:=by have h:=yX y;have g:iw (.int 1)=aa (.int (-1)):=rfl;simp[uu,et,fe,dU,dV,d1,dC,R.bind,aO,g,iV,h]
  have:=pC (AS (neg:=ak) (i:=2) n rfl);rw[zG]at this;exact this) []
 refine(sC (x:=.lst (jo ks e)) (ε1:=[.val W,c,b,.own (.dK (cK ks)),d]) ?_).trans rfl;have j:pX [3] (uU (aC (dV 0) (aE))) (dB (jj ak 2 uu)) (dV 0) [.val W,c,b,.own (.dK (cK ks)),d]=.ok (.lst (jo ks e)) [.val W,c,b,.own (.dK (cK ks)),d]:=by unfold pX;rw[l,R.bind_ok,m,R.bind_ok,fq];rfl
 show(pX _ _ _ _ _).bind _=_;rw[j];rfl
theorem DH(ks b:List Tx):(jo ks b).length<b.length↔¬∀y∈b,y.dropLast∈ks:=by
 have e:(jo ks b).length=(b.filter λy=>decide (y.dropLast∈ks)).length:=by unfold jo;rw[bZ];exact HS ks 0 b
 rw[e];constructor
 .intro h d;rw[nM.mpr (λy c=>decide_eq_true (d y c))]at h;lia
 .intro h;refine Decidable.byContradiction λq=>h λy c=>?_;have f:=Js (λy:Tx=>decide (y.dropLast∈ks)) b;have:=List.length_filter_eq_length_iff.mp (show(b.filter λy=>decide (y.dropLast∈ks)).length=b.length by lia) y c;exact of_decide_eq_true this
theorem y0{W pv:PV}{ε:aj}(h:yak a [.val W,.none,.none,.none,.none]=.ok (.ret (.val pv)) (.val W::ε)):uC a [.val W]=.ok (.val pv) [.val W]:=by unfold uC;generalize yak a=D at h;simp[bU,fX,bS,dO,h,back,aO,R.bind,gE]
theorem Rq{W:PV}{v:Nat}{x:Tx}{r:List Tx}(q:W=.tup (am (x::r)))(F:∀y∈x::r,y.length=v+1)(hv:v<=20)(hr:r.length<=15):∃pv,uC a [.val W]=.ok (.val pv) [.val W]/\(pv=.non\/∃A,pv=.tup A) /\ (pv=.non↔(g_ (x::r)).length<=1/\(∀s∈g_ (x::r),exc (x::r) s<=1)/\pF v (x::r)):=by
 have H:dG W=aa (am (x::r)):=by subst q;rfl
 have T:bB W (.int 0)=aa (.str x):=by subst q;exact Bg x r
 have X:b7 [W]=aa (.int ((am (x::r)).length:Nat)):=by subst q;rfl
 have w:=Dz (G:=rj a) (W:=W) (ε:=[.val W,.none,.none,.none,.none]) (i:=1) rfl (Rf _ (x::r) (by simp;lia) H) (by simp);have u:=NG (a:=a) W (x::r) (by simp;lia) (λy N=>by have:=F y N;lia) .none .none .none;obtain⟨ks,J,I,P⟩:=Rp (a:=a) W x r ∅ H T;have f:=PB F J I;have o:∀s∈g_ (x::r),cx (bt (x::r)) s=aa (exc (x::r) s):=λs D=>by
  have O:s∈Sh.ks (bt (x::r)):=(fc _).mem_iff.mp (kI.mp D).1;have w:(cx (bt (x::r)) s).isSome=ah:=by rw[sA];exact decide_eq_true O
  have u:=BR (x::r) s;cases h:cx (bt (x::r)) s with
  |none=>rw[h]at w;cases w
  |some n=>rw[h]at u;rw[<-u];rfl
 have d:∀S:List Tx,∃pv ε,aH (cU 3 (j4 (aY (ou a) (gV (dV 0) (Pu.bN))))) (aH f6 (aH f7 (cI (dC .non)))) [.val W,.own (.dK (dk (bt (x::r)))),.val (.lst (am S)),.none,.none]=.ok (.ret (.val pv)) (.val W::ε)/\(pv=.non\/∃A,pv=.tup A)/\(pv=.non↔pF v (x::r)):=by
  intro S;have Z:=Dz (G:=ou a) (W:=W) (ε:=[.val W,.own (.dK (dk (bt (x::r)))),.val (.lst (am S)),.none,.none]) (i:=3) rfl P (by simp);have Y:=Ku (x::r) ks q (.own (.dK (dk (bt (x::r))))) (.val (.lst (am S))) .none;rw[cr Z,cr (show f6 ([Slot.val W,.own (.dK (dk (bt (x::r)))),.val (.lst (am S)),.none,.none].set 3 (.own (.dK (cK ks))))=_ from Y)];have m:dB (d2 (dI λi j=>decide (i<j)) (dL b7 (aC (dV 4) (aE))) (dL b7 (aC (dV 0) (aE)))) [.val W,.own (.dK (dk (bt (x::r)))),.val (.lst (am S)),.own (.dK (cK ks)),.val (.lst (jo ks (x::r)))]=.ok (decide (((jo ks (x::r)).length:Int)<((am (x::r)).length:Int))) [.val W,.own (.dK (dk (bt (x::r)))),.val (.lst (am S)),.own (.dK (cK ks)),.val (.lst (jo ks (x::r)))]:=by refine pC (yi (x:=.int ((jo ks (x::r)).length:Nat)) (y:=.int ((am (x::r)).length:Nat)) rfl ?_ rfl);exact Qs (No (At rfl) LJ) X
  have p:(am (x::r)).length=(x::r).length:=by unfold am;rw[bZ]
  by_cases c:∀y∈x::r,y.dropLast∈ks
  .have E:¬(((jo ks (x::r)).length:Int)<((am (x::r)).length:Int)):=by
    rw[p];have:=mt (DH ks (x::r)).mp (λh=>h c);lia
   rw[decide_eq_false E]at m;refine⟨.non,[.own (.dK (dk (bt (x::r)))),.val (.lst (am S)),.own (.dK (cK ks)),.val (.lst (jo ks (x::r)))],?_,.inl rfl,⟨λ_=>f.mp c,λ_=>rfl⟩⟩;rw[cr (show f7 _=.ok .next _ by unfold f7 cL;rw[m];rfl)];rfl
  .have E:((jo ks (x::r)).length:Int)<((am (x::r)).length:Int):=by
    rw[p];have:=(DH ks (x::r)).mpr c;lia
   rw[decide_eq_true E]at m;refine⟨.tup [.str [97,112,97,114,116],.tup (jo ks (x::r))],[.own (.dK (dk (bt (x::r)))),.val (.lst (am S)),.own (.dK (cK ks)),.val (.lst (jo ks (x::r)))],?_,.inr ⟨_,rfl⟩,⟨(λh=>by cases h),λh=>absurd (f.mpr h) c⟩⟩;unfold aH f7 cL;rw[m];rfl
 have b:∀(l:R aM),aH f3 (aH f4 (aH (cU 3 (j4 (aY (ou a) (gV (dV 0) (Pu.bN))))) (aH f6 (aH f7 (cI (dC .non)))))) [.val W,.own (.dK (dk (bt (x::r)))),.val (.lst (am (g_ (x::r)))),.none,.none]=l->yak a [.val W,.none,.none,.none,.none]=l:=by intro l h;rw[Sg,cr w];exact(cr u).trans h
 generalize hS:g_ (x::r)=S at o b ⊢
 match S,o,b with
 |[],_,b=>
  obtain⟨pv,ε,e,C,B⟩:=d [];refine⟨pv,y0 (ε:=ε) (b _ ?_),C,?_⟩
  .rw[cr (show f3 _=.ok .next _ from rfl),cr (show f4 _=.ok .next _ from rfl)];exact e
  .rw[B];simp
 |[s],o,b=>
  have D:=o s (by simp);have Q:dB (d2 (dI λi j=>decide (j<i)) (kE 1 (d2 bB (dV 2) (dC (.int 0)))) (dC (.int 1))) [.val W,.own (.dK (dk (bt (x::r)))),.val (.lst (am [s])),.none,.none]=.ok (decide (1<exc (x::r) s)) [.val W,.own (.dK (dk (bt (x::r)))),.val (.lst (am [s])),.none,.none]:=by refine pC (yi (GD (i:=1) (db:=d2 bB (dV 2) (dC (.int 0))) ⟨_,rfl⟩ (yi (x:=.lst (am [s])) rfl rfl (Bg s [])) rfl D) rfl rfl)
  have vH:pi (dB (d2 (eqT ak) (dL b7 (aC (dV 2) (aE))) (dC (.int 1)))) (dB (d2 (dI λi j=>decide (j<i)) (kE 1 (d2 bB (dV 2) (dC (.int 0)))) (dC (.int 1)))) [.val W,.own (.dK (dk (bt (x::r)))),.val (.lst (am [s])),.none,.none]=.ok (decide (1<exc (x::r) s)) [.val W,.own (.dK (dk (bt (x::r)))),.val (.lst (am [s])),.none,.none]:=by unfold pi;rw[show dB (d2 (eqT ak) (dL b7 (aC (dV 2) (aE))) (dC (.int 1))) [.val W,.own (.dK (dk (bt (x::r)))),.val (.lst (am [s])),.none,.none]=.ok ah [.val W,.own (.dK (dk (bt (x::r)))),.val (.lst (am [s])),.none,.none] from rfl,R.bind_ok];exact Q
  by_cases c:1<exc (x::r) s
  .rw[decide_eq_true c]at vH;refine⟨.tup [.str [109,111,114,101],.str s],y0 (ε:=[.own (.dK (dk (bt (x::r)))),.val (.lst (am [s])),.none,.none]) (b _ ?_),.inr ⟨_,rfl⟩,⟨(λh=>by cases h),λh=>?_⟩⟩
   .rw[cr (show f3 _=.ok .next _ from rfl)];unfold aH f4 cL;rw[vH];rfl
   .have:=h.2.1 s (by simp);lia
  .rw[decide_eq_false c]at vH;obtain⟨pv,ε,e,C,B⟩:=d [s];refine⟨pv,y0 (ε:=ε) (b _ ?_),C,?_⟩
   .rw[cr (show f3 _=.ok .next _ from rfl),cr (show f4 _=.ok .next _ by unfold f4 cL;rw[vH];rfl)];exact e
   .rw[B];refine⟨λh=>⟨by simp,λz M=>?_,h⟩,λh=>h.2.2⟩;have:z=s:=by simpa using M
    subst this;lia
 |s::g::S,o,b=>
  refine⟨.tup [.str [116,119,111],.str s,.str g],y0 (ε:=[.own (.dK (dk (bt (x::r)))),.val (.lst (am (s::g::S))),.none,.none]) (b _ ?_),.inr ⟨_,rfl⟩,⟨λh=>(by cases h),λh=>?_⟩⟩
  .have L:=Bg s (g::S);have K:=Qi s g S;unfold aH f3 cL;have m:dB (d2 (dI λi j=>decide (j<i)) (dL b7 (aC (dV 2) (aE))) (dC (.int 1))) [.val W,.own (.dK (dk (bt (x::r)))),.val (.lst (am (s::g::S))),.none,.none]=.ok (decide ((1:Int)<((am (s::g::S)).length:Int))) [.val W,.own (.dK (dk (bt (x::r)))),.val (.lst (am (s::g::S))),.none,.none]:=rfl;rw[decide_eq_true (by unfold am;simp;lia)]at m;rw[m];simp[R.bind,cI,dL,aC,aE,dC,dV,d2,aO,L,K,eW]
  .have:=h.1;simp at this
end
theorem E2{v:Nat}:∀{ls:List Tx},(∀y∈ls,y.length=v+1)->∀y,exc ls y=(oc v ls y:Int)-(ic ls y:Int)
 |[],_,y=>rfl
 |x::ls,h,y=>by
  have a:=E2 (λz b=>h z (by simp[b])) (ls:=ls) y;have c:x.take v=x.dropLast:=by rw[Jw,h x (by simp)];rfl
  have e:exc (x::ls) y=b1 (x.dropLast=y)-b1 (x.tail=y)+exc ls y:=by simp[exc]
  rw[e,a];unfold oc ic b1;simp only[bE,gS,c];split <;> split <;> lia
theorem Ax{K:List Tx}(e:K.Nodup){s:Tx}(d:s∈K):(K.map λy=>b1 (s=y)).sum=1:=by
 have ae:∀{K:List Tx},s∉K->(K.map λy=>b1 (s=y)).sum=0:=by
  intro K
  induction K with
  |nil=>intro _;rfl
  |cons y K b=>intro h;simp only[br,not_or]at h;rw[bE,gS,b h.2];unfold b1;rw[if_neg h.1];rfl
 induction K with
 |nil=>cases d
 |cons y K b=>
  rw[bE,gS];have a:=kf.mp e;by_cases c:s=y
  .subst c;rw[ae a.1];unfold b1;rw[if_pos rfl];rfl
  .rw[b a.2 (by rcases br.mp d with h|h;exact absurd h c;exact h)];unfold b1;rw[if_neg c];rfl
theorem BP(f g:Tx->Int):∀K:List Tx,(K.map λy=>f y-g y).sum=(K.map f).sum-(K.map g).sum
 |[]=>rfl
 |y::K=>by simp only[bE,gS,BP f g K];lia
theorem Gm(f g:Tx->Int):∀K:List Tx,(K.map λy=>f y+g y).sum=(K.map f).sum+(K.map g).sum
 |[]=>rfl
 |y::K=>by simp only[bE,gS,Gm f g K];lia
theorem EF{K:List Tx}(a:K.Nodup):∀{ls:List Tx},(∀x∈ls,x.dropLast∈K/\x.tail∈K)->(K.map (exc ls)).sum=0
 |[],_=>by
  show(K.map λ_=>(0:Int)).sum=0;clear a;have c:∀K:List Tx,(K.map λ_=>(0:Int)).sum=0:=λK=>by
   induction K with
   |nil=>rfl
   |cons y K b=>rw[bE,gS,b];rfl
  exact c K
 |x::ls,h=>by
  have b:=EF a (ls:=ls) λz d=>h z (by simp[d]);have e:exc (x::ls)=λy=>(b1 (x.dropLast=y)-b1 (x.tail=y))+exc ls y:=by funext y;simp[exc]
  rw[e,Gm,b,BP,Ax a (h x (by simp)).1,Ax a (h x (by simp)).2];rfl
theorem Bv(f:Tx->Int):∀{K:List Tx},(∀y∈K,f y<=0)->(K.map f).sum<=0/\((K.map f).sum=0->∀y∈K,f y=0)
 |[],_=>⟨by simp,λ_ y h=>by cases h⟩
 |y::K,h=>by
  have b:=Bv f (K:=K) λz a=>h z (by simp[a]);have c:=h y (by simp);rw[bE,gS];refine⟨∅,λe z a=>?_⟩;rcases br.mp a with rfl|a
  .lia
  .exact b.2 ∅ z a
theorem HF(f:Tx->Int):∀{K:List Tx},(∀y∈K,f y<=0)->(K.map f).sum=-1->K.Nodup->∃e∈K,f e=-1/\∀y∈K,y≠e->f y=0
 |[],_,h,_=>by simp at h
 |y::K,h,j,i=>by
  have g:∀z∈K,f z<=0:=λz a=>h z (by simp[a]);have o:=Bv f g;have p:=h y (by simp);have d:=kf.mp i;rw[bE,gS]at j;by_cases c:f y=0
  .obtain⟨e,l,n,m⟩:=HF f g ∅ d.2;refine⟨e,by simp[l],n,λz a b=>?_⟩;rcases br.mp a with rfl|a
   .exact c
   .exact m z a b
  .refine⟨y,by simp,∅,λz a b=>?_⟩;rcases br.mp a with rfl|a
   .exact absurd rfl b
   .exact o.2 ∅ z a
theorem FE{a:List Tx}{y:Tx}(h:y∉ks (bt a)):exc a y=0:=by
 have c:(cx (bt a) y).isSome=ak:=by rw[sA];exact decide_eq_false h
 have b:=BR a y;cases e:cx (bt a) y with
 |none=>rw[e]at b;exact b.symm
 |some n=>rw[e]at c;cases c
theorem TN{a:List Tx}{s:Tx}:s∈g_ a↔s∈ks (bt a)/\0<exc a s:=by unfold g_;rw[kI,decide_eq_true_eq,(fc _).mem_iff]
theorem Nt{v:Nat}{x:Tx}{r:List Tx}(u:∀y∈x::r,y.length=v+1):((g_ (x::r)).length<=1/\(∀s∈g_ (x::r),exc (x::r) s<=1)/\pF v (x::r))↔∃t,(a6 t (v+1)).Perm (x::r):=by
 have j:=E2 u;have i:=Hj (x::r);have I:∀y∈x::r,y.dropLast∈ks (bt (x::r))/\y.tail∈ks (bt (x::r)):=λy a=>by rw[xl,xl];unfold fh;exact⟨qk _ (Dg a),i9 _ (Dg a)⟩
 have D:=EF i I;constructor
 .rintro⟨f,H,g⟩;have C:∀y∈ks (bt (x::r)),y∉g_ (x::r)->exc (x::r) y<=0:=λy a n=>by have:=mt (λh=>TN.mpr ⟨a,h⟩) n;lia
  cases l:g_ (x::r)with
  |nil=>
   have p:=(Bv _ (λy a=>C y a (by rw[l];simp))).2 D;obtain⟨t,_,_,b⟩:=Ee u g (s0:=x.take v) (e:=x.take v) ⟨x,by simp,rfl⟩ (λy=>by
    have:exc (x::r) y=0:=by
     by_cases c:y∈ks (bt (x::r))
     .exact p y c
     .exact FE c
    rw[j]at this;lia)
   exact⟨t,b⟩
  |cons s S=>
   rw[l]at f;have E:S=[]:=by cases S with|nil=>rfl|cons _ _=>simp at f
   subst E;have d:s∈g_ (x::r):=by rw[l];simp
   obtain⟨A,s0⟩:=TN.mp d;have O:=H s d;have G:∀y∈ks (bt (x::r)),exc (x::r) y-b1 (s=y)<=0:=λy a=>by
    unfold b1;by_cases c:s=y
    .rw[if_pos c,<-c];lia
    .rw[if_neg c];have:=C y a (by rw[l];simp;exact dz c);lia
   obtain⟨e,J,P,K⟩:=HF (λy=>exc (x::r) y-b1 (s=y)) G (by rw[BP,D,Ax i A];rfl) i;have L:∀y,exc (x::r) y=b1 (s=y)-b1 (e=y):=λy=>by
    by_cases c:y∈ks (bt (x::r))
    .by_cases w:e=y
     .subst w;have:b1 (e=e)=1:=by unfold b1;rw[if_pos rfl]
      lia
     .have:=K y c (dz w);have:b1 (e=y)=0:=by unfold b1;rw[if_neg w]
      lia
    .have N:s≠y:=λz=>c (z ▸ A);have M:e≠y:=λz=>c (z ▸ J);rw[FE c];unfold b1;rw[if_neg N,if_neg M];rfl
   obtain⟨t,_,_,b⟩:=Ee u g (s0:=s) (e:=e) (Tq.mp (by have:=j s;lia)) (λy=>by have f:=L y;rw[j]at f;unfold b1 at f;unfold b2;split <;> split <;> simp_all <;> lia);exact⟨t,b⟩
 .rintro⟨t,b⟩;have q:v<=t.length:=by have:=b.length_eq;rw[qd ∅]at this;simp at this;lia
  have B:∀y,exc (x::r) y=b1 (t.take v=y)-b1 (en v t=y):=λy=>by have:=u7 q y;rw[uh b,ui b]at this;rw[j];unfold b1;unfold b2 at this;split <;> split <;> simp_all <;> lia
  have F:∀s∈g_ (x::r),s=t.take v:=λs d=>by
   have:=(TN.mp d).2;rw[B]at this;unfold b1 at this;by_cases c:t.take v=s
   .exact c.symm
   .rw[if_neg c]at this;split at this <;> lia
  refine⟨?_,λs d=>?_,QZ b⟩
  .have o:(g_ (x::r)).Nodup:=by
    unfold g_;exact((fc _).nodup_iff.mpr i).filter _
   have:=len_sub o (m:=[t.take v]) (λz p=>by rw[F z p];simp);simpa using this
  .rw[B];unfold b1;split <;> split <;> lia
end Sh
namespace Mx
open L2 Pu
theorem DB{w:Nat}{d:List Tx}(f:1<=w)(i:1<=d.length)(j:∀x∈d,x.length=w/\∀c∈x,c∈bV)(h:d.Pairwise (λa b=>cM a b=ah)){z:Tx}(g:∀c∈z,c∈bV):z∈iR w d↔aV (a6 z w)=d:=by
 rw[BJ f i j,kI,mS,List.isPerm_iff];constructor
 .rintro⟨_,p⟩;rw[rq p,mW h]
 .intro e;have p:(a6 z w).Perm d:=by rw[<-e];exact(fc _).symm
  have l:=p.length_eq;rw[qd f]at l;exact⟨⟨∅,g⟩,p⟩
theorem Kc{w:Nat}{a:List Tx}(b:1<=w)(d:1<=a.length)(e:∀x∈a,x.length=w/\∀c∈x,c∈bV){z:Tx}(h:z∈iR w a):z.length=w-1+a.length/\∀c∈z,c∈bV:=by rw[BJ b d e,kI,mS]at h;exact h.1
end Mx
namespace Sh
open L2 Pu Mx
theorem abc_of{t:Tx}{w:Nat}(a:1<=w)(e:w<=t.length)(h:∀x∈a6 t w,∀c∈x,c∈bV):∀c∈t,c∈bV:=by
 intro c d;obtain⟨i,f,rfl⟩:=List.mem_iff_getElem.mp d;have b:min i (t.length-w)<t.length+1-w:=∅
 refine h ((t.drop (min i (t.length-w))).take w) ?_ _ ?_
 .rw[qc t w a];exact bI.mpr ⟨_,kb.mpr b,rfl⟩
 .refine List.mem_iff_getElem.mpr ⟨i-min i (t.length-w),by simp;lia,?_⟩;rw[zC,zB];congr 1;lia
def hasT(w:Nat)(k:List Tx):Bool:=decide (iR w k≠[])
theorem has_iff{w:Nat}{d:List Tx}(g:Good bV w d)(f:1<=w)(m:d.Pairwise (λa b=>cM a b=ah)):(∃t,(a6 t w).Perm d)↔hasT w d=ah:=by
 have j:∀x∈d,x.length=w/\∀c∈x,c∈bV:=λx i=>⟨g.len x i,g.abc x i⟩
 unfold hasT;rw[decide_eq_true_iff];constructor
 .rintro⟨t,l⟩ e;have p:=l.length_eq;rw[qd f]at p;have q:=g.some;have n:=abc_of (t:=t) f ∅ (λx i=>g.abc x (l.mem_iff.mp i));have:=(DB f g.some j m n).mpr (by rw[rq l];exact(mW m));rw[e]at this;cases this
 .intro h;obtain⟨z,r,e⟩:=List.exists_cons_of_ne_nil h;have o:z∈iR w d:=by rw[e];simp
  have n:=(Kc f g.some j o).2;have:=(DB f g.some j m n).mp o;exact⟨z,by rw[<-this];exact(fc _).symm⟩
section
variable{a:Ad}
theorem bar_eq{w:Nat}{c:List Tx}(g:Good bV w c)(h:1<=w)(p:w<=4)(j:c.Pairwise (λa b=>cM a b=ah)):∃pv,ut a [.val (aG w c)]=.ok (.val pv) [.val (aG w c)]/\rK ak pv .non=aa (.bl (hasT w c)):=by
 have m:=g.few;have z:=g.some;obtain⟨v,rfl⟩:∃v,w=v+1:=⟨w-1,∅⟩
 obtain⟨x,r,e⟩:∃x r,c=x::r:=List.exists_cons_of_ne_nil (by rintro rfl;simp at z);have o:=has_iff g h j;rw[e]at o m;have l:∀y∈x::r,y.length=v+1:=λy s=>g.len y (by rw[e];exact s);obtain⟨pv,i,q,d⟩:=Rq (a:=a) (W:=.tup (am (x::r))) rfl l ∅ (by simp at m;lia);rw[Nt l,o]at d;refine⟨pv,?_,?_⟩
 .have n:pI a [.val (aG (v+1) c)]=.ok (.val .non) [.val (aG (v+1) c)]:=G_ (a:=a) (g.vw h p j);have f:bB (aG (v+1) c) (.int 1)=aa (.tup (am (x::r))):=by rw[e];rfl
  generalize am (x::r)=B at i f;generalize aG (v+1) c=V at n f;simp![ut,yad,n,f,i]
 .rw[e];rcases q with rfl|⟨A,rfl⟩
  .rw[d.mp rfl];rfl
  .cases u:hasT (v+1) (x::r)with
   |true=>exact nomatch d.mpr u
   |false=>rfl
structure Blur(w:Nat)(ms:List Tx):Prop where
 g:Good gz w ms
 w1:1<=w
 w4:w<=4
 d6:cm ms<=6
 rises:ms.Pairwise (λa b=>cM a b=ah)
theorem Good.vwB{w:Nat}{d:List Tx}(g:Good gz w d)(n:1<=w)(m:w<=4)(f:d.Pairwise (λa b=>cM a b=ah)):mG gz w d=ah:=by
 have l:d.all (jf w gz)=ah:=by rw[ki];intro x e;unfold jf;rw[g.len x e,decide_eq_true rfl,zk,ki];intro c h;simpa using g.abc x e c h
 have j:=g.some;have i:=g.few;unfold mG;rw[l,decide_eq_true (show(1:Int)<=(w:Nat)/\((w:Nat):Int)<=4 by lia),decide_eq_true ⟨j,i⟩,decide_eq_true (mW f).symm];rfl
theorem wt_small{w:Nat}:∀{ls:List Tx},(∀x∈ls,x.length=w)->hU [] ls<=ls.length*w
 |[],_=>by simp[hU]
 |[x],h=>by have:=h x (by simp);simp[hU,this]
 |x::y::r,h=>by
  have d:=h x (by simp);have c:=wt_small (ls:=y::r) λz b=>h z (by simp[b]);simp only[d8]at c ⊢;have e:hU [] (x::y::r)=x.length+0+hU [] (y::r):=by simp[hU]
  rw[e,d,Nat.succ_mul];lia
theorem blur_yes{w:Nat}{c:List Tx}(b:Blur w c):sq a [.val (aG w c)]=.ok (.val .non) [.val (aG w c)]:=by
 have g:=wt_small b.g.len;have f:=b.g.few;have d:=b.w4;have e:hU [] c<=bv:=by have:c.length*w<=9*4:=CI f d;unfold bv;lia
 have:=QY (a:=a) w c e;rw[b.g.vwB b.w1 b.w4 b.rises,decide_eq_true b.d6]at this;exact Pw this
theorem ways_good{w:Nat}{g k:List Tx}(b:Blur w g)(h:k∈waysF g):Good bV w k/\k.Pairwise (λa b=>cM a b=ah):=by
 obtain⟨j,l,i⟩:=ways_shape h;refine⟨⟨λx d=>?_,λx d=>?_,by rw[j];exact b.g.some,by rw[j];exact b.g.few⟩,l⟩
 .obtain⟨c,f,e⟩:=i x d;rw[e.len,b.g.len c f]
 .obtain⟨c,f,e⟩:=i x d;exact e.abc (b.g.abc c f)
def viewsC(w:Nat)(b:List Tx):List (List Tx):=(cf (waysF b)).filter (hasT w)
def vwsP(w:Nat)(ks:List (List Tx)):List PV:=ks.map λk=>aG w k
theorem ok_filter{w:Nat}(ks:List (List Tx))(p:List Tx->Bool)(f:PV->Bool)(b:∀k,f (aG w k)=p k):((vwsP w ks).filter f).map (λx=>x)=vwsP w (ks.filter p):=by rw[zJ];unfold vwsP;rw[qG];congr 1;exact List.filter_congr λk _=>b k
def unVw:PV->List Tx
 |.tup [_,.tup b]=>b.filterMap λx=>match x with
  |.str t=>aa t
  |_=>ae
 |_=>[]
theorem unVw_vw(w:Nat)(k:List Tx):unVw (aG w k)=k:=by show(am k).filterMap _=k;unfold am;rw[zg];simp[lD]
theorem cleared_eq{w:Nat}{c:List Tx}(b:Blur w c):uD a [.val (aG w c)]=.ok (.own (.lst (vwsP w (viewsC w c)))) [.val (aG w c)]:=by
 have h:=blur_yes (a:=a) b;have e:=clearing_eq (a:=a) b.g b.w4 b.d6;have d:=iq (cap:=[]) (dt:=(dB (d2 (rK ak) (bo (aY (ut a) (gV (dV 0) (Pu.bN)))) (dC .non)))) (de:=dV 0) (ε:=[.val (aG w c)]) (λx=>hasT w (unVw x)) (λx=>x) (vwsP w (cf (waysF c)))
  (by
   intro x l;obtain⟨k,m,rfl⟩:=bI.mp l;obtain⟨n,j⟩:=ways_good b ((mU _).mem_iff.mp m);obtain⟨pv,g,f⟩:=bar_eq (a:=a) n b.w1 b.w4 j;rw[unVw_vw];generalize aG w c=V;generalize hasT w k=B at f;generalize aG w k=W at g;refine⟨?_,λ_=>?_⟩
   .simp![bX,b_,bC,g,f]
   .simp![bX,b_,bC]) []
 rw[fq,ok_filter _ (hasT w) _ (λk=>by rw[unVw_vw])]at d;have i:dG (.lst (vwsP w (cf (waysF c))))=aa (vwsP w (cf (waysF c))):=rfl;have o:((cf (waysF c)).map λk=>prV ((w:Int),k))=vwsP w (cf (waysF c)):=rfl;rw[o]at e;unfold viewsC;generalize vwsP w ((cf (waysF c)).filter (hasT w))=R1 at d;generalize vwsP w (cf (waysF c))=R0 at d i e;generalize aG w c=V at h e d;simp![uD,yag,h,e,ko,bO,aT,i,d]
theorem eqP_vw(w v:Nat)(k d:List Tx):cF (aG w k) (aG v d)=aa (decide (w=v)&&decide (k=d)):=by
 show dW [.int w,.tup (am k)] [.int v,.tup (am d)]=_;have f:cF (.int w) (.int v)=aa (decide (w=v)):=by show(dS (.int v)).map (fL (.int w))=_;show aa (fL (V.int w) (V.int v))=_;congr 1;show((w:Int) == (v:Int))=_;rw[jv,beq_iff_eq,decide_eq_true_iff];lia
 have e:cF (.tup (am k)) (.tup (am d))=aa (decide (k=d)):=by show dW (am k) (am d)=_;exact xu k d
 show(cF (.int w) (.int v)).bind (λa=>((cF (.tup (am k)) (.tup (am d))).bind λb=>(dW [] []).map λc=>b&&c).map λb=>a&&b)=_;rw[f,e];simp[dW]
theorem eqAny_vw(w v:Nat)(c:List Tx):∀ks:List (List Tx),om (vwsP w ks) (aG v c)=aa (decide (w=v)&&decide (c∈ks))
 |[]=>by simp[om,vwsP]
 |k::ks=>by
  show(cF (aG w k) (aG v c)).bind (λa=>(om (vwsP w ks) (aG v c)).map λb=>a||b)=_;rw[eqP_vw,eqAny_vw w v c ks];simp only[gR,oK];congr 1;by_cases f:w=v
  .by_cases d:k=c
   .simp[f,d]
   .have:¬c=k:=λe=>d e.symm;simp[f,d,this]
  .simp[f]
theorem deps_vws(w:Nat):∀ks:List (List Tx),c_ (vwsP w ks)<=8
 |[]=>by simp[vwsP,c_]
 |k::ks=>by
  show max (eX (aG w k)) (c_ (vwsP w ks))<=8;have c:=deps_vws w ks;have b:eX (aG w k)<=8:=by show max (eX (.int w)) (max (c_ (am k)+1) (c_ []))+1<=8;rw[uw];simp[eX,c_]
  lia
theorem clears_eq{w v:Nat}{c d:List Tx}(b:Blur w c)(g:Good bV v d)(l:1<=v)(j:v<=4)(m:d.Pairwise (λa b=>cM a b=ah)):rO a [.val (aG w c),.val (aG v d)]=.ok (.val (.bl (decide (w=v)&&decide (d∈waysF c)))) [.val (aG w c),.val (aG v d)]:=by
 have i:=blur_yes (a:=a) b;have h:pI a [.val (aG v d)]=.ok (.val .non) [.val (aG v d)]:=G_ (a:=a) (g.vw l j m);have f:=clearing_eq (a:=a) b.g b.w4 b.d6;have n:((cf (waysF c)).map λk=>prV ((w:Int),k))=vwsP w (cf (waysF c)):=rfl;rw[n]at f;have e:w8 (aG v d) (.lst (vwsP w (cf (waysF c))))=aa (.bl (decide (w=v)&&decide (d∈waysF c))):=by show(if c_ (vwsP w (cf (waysF c)))<=8 then(om (vwsP w (cf (waysF c))) (aG v d)).map PV.bl else ae)=_;rw[if_pos (deps_vws w _),eqAny_vw,oK];congr 3;rw[decide_eq_decide,(mU (waysF c)).mem_iff]
 generalize (decide (w=v)&&decide (d∈waysF c))=B at e;generalize vwsP w (cf (waysF c))=R0 at e f;generalize aG w c=V at i f;generalize aG v d=W at h e;simp![rO,yai,i,h,f,e]
theorem th_comp(t:Tx)(d b:Slot)(h:t.length<=50):iy [2] cb (d2 ba (dV 1) (dV 0)) (bV.map λc=>.str [c]) [] [d,b,↥t]=.ok (am (bV.map λc=>t++[c])) [d,b,↥t]:=by
 have e:=iq (cap:=[2]) (dt:=cb) (de:=(d2 ba (dV 1) (dV 0))) (ε:=[d,b,↥t]) (λ_=>ah) (λx=>match x with|.str [c]=>.str (t++[c])|_=>.non) (bV.map λc=>PV.str [c])
  (by intro x f;obtain⟨c,_,rfl⟩:=bI.mp f;have g:ba (.str t) (.str [c])=aa (.str (t++[c])):=pQ (by simp[bv];lia);refine⟨by simp![bX,b_,bC,cb],λ_=>?_⟩;simp![bX,b_,bC,g]) []
 rw[fq,nM.mpr (by simp)]at e;rw[e];congr 1
theorem three_eq(b:List Tx)(s:∀t∈b,t.length<=50)(y:(fillS b 46).length<=999999):vt a [.val (.lst (am b))]=.ok (.own (.lst (am (fillS b 46)))) [.val (.lst (am b))]:=by
 obtain⟨o,f,h,p,rest,d,q,rfl⟩:=ma (i:=2) (db:=(g8 1 (dF (bO [2] (aT (dC (.str [97,98,99]))) (cb) (d2 ba (dV 1) (dV 0))))))
  (I:=λr l=>∃(h:Slot) (p rest:List Tx),b=p++rest/\r=am rest/\l=[.val (.lst (am b)),.own (.lst (am (fillS p 46))),h])
  (by
   rintro x r l ⟨h,p,rest,d,n,rfl⟩;cases rest with
   |nil=>cases n
   |cons t rest=>
    have m:x::r=.str t::am rest:=n;simp only[lI]at m;obtain⟨rfl,rfl⟩:=m;have e:=th_comp t (.val (.lst (am b))) (.own (.lst (am (fillS p 46)))) (s t (by rw[d];simp));have g:dG (.str [97,98,99])=aa (bV.map λc=>.str [c]):=rfl;have v:fillS (p++[t]) 46=fillS p 46++bV.map λc=>t++[c]:=by simp[fillS,opts]
    have j:(am (fillS p 46)).length+(am (bV.map λc=>t++[c])).length<=bv:=by
     rw[j6,j6];have z:(fillS p 46).length+(bV.map λc=>t++[c]).length<=(fillS b 46).length:=by rw[d];simp only[fillS,zL,oQ,eY,opts,if_true];lia
     unfold bv;lia
    refine⟨[.val (.lst (am b)),.own (.lst (am (fillS (p++[t]) 46))),↥t],?_,↥t,p++[t],rest,by rw[d];simp,rfl,rfl⟩;rw[v,<-HN];generalize am (bV.map λc=>t++[c])=Y at e j;generalize am (fillS p 46)=L at e j;generalize (bV.map λc=>PV.str [c])=A3 at e g;generalize am b=RR at e;simp![g8,bO,aT,g,e,j])
  (am b) [.val (.lst (am b)),.own (.lst (am (fillS [] 46))),.none] ⟨.none,[],b,by simp,rfl,rfl⟩
 have u:rest=[]:=by cases rest with|nil=>rfl|cons=>cases q
 subst u;rw[jb]at d;rw[<-d]at f;have g:dG (.lst (am b))=aa (am b):=rfl;have w:am (fillS [] 46)=[]:=rfl;rw[w]at f;generalize am (fillS b 46)=R1 at f;generalize am b=R0 at f g;simp![vt,yaC,dJ,ca,aT,g,f,kB]
def lstsP(b:List (List Tx)):List PV:=b.map λr=>.lst (am r)
def timesL(b:List (List Tx))(c:List Tx):List (List Tx):=b.flatMap λr=>c.map λx=>r++[x]
theorem ti_comp(r b:List Tx)(d c:Slot)(h:r.length<=50):iy [3] cb (d2 ba (dV 1) (dF (dL cQ (aC (dV 0) (aE))))) (am b) [] [d,.val (.lst (am b)),c,.val (.lst (am r))]=.ok (lstsP (b.map λx=>r++[x])) [d,.val (.lst (am b)),c,.val (.lst (am r))]:=by
 have f:=iq (cap:=[3]) (dt:=cb) (de:=(d2 ba (dV 1) (dF (dL cQ (aC (dV 0) (aE)))))) (ε:=[d,.val (.lst (am b)),c,.val (.lst (am r))]) (λ_=>ah) (λx=>.lst (am r++[x])) (am b)
  (by
   intro x g;have e:ba (.lst (am r)) (.lst [x])=aa (.lst (am r++[x])):=by
    have:(am r).length+1<=bv:=by rw[j6];unfold bv;lia
    simp[ba,this]
   generalize am b=M;generalize am r++[x]=RX at e;generalize am r=RP at e;refine⟨by simp![bX,b_,bC,cb],λ_=>?_⟩;simp![bX,b_,bC,e]) []
 rw[fq,nM.mpr (by simp)]at f;rw[f];congr 1;simp[lstsP,am,cB,lD]
theorem lstsP_app(x y:List (List Tx)):lstsP (x++y)=lstsP x++lstsP y:=by simp[lstsP]
theorem lstsP_len(x:List (List Tx)):(lstsP x).length=x.length:=by simp[lstsP]
theorem times_eq(c:List (List Tx))(b:List Tx)(q:∀t∈c,t.length<=50)(w:(timesL c b).length<=999999):vh a [.val (.lst (lstsP c)),.val (.lst (am b))]=.ok (.own (.lst (lstsP (timesL c b)))) [.val (.lst (lstsP c)),.val (.lst (am b))]:=by
 obtain⟨n,f,h,p,rest,d,o,rfl⟩:=ma (i:=3) (db:=(g8 2 (dF (bO [3] (aT (dV 1)) (cb) (d2 ba (dV 1) (dF (dL cQ (aC (dV 0) (aE)))))))))
  (I:=λr ε=>∃(h:Slot) (p rest:List (List Tx)),c=p++rest/\r=lstsP rest/\ε=[.val (.lst (lstsP c)),.val (.lst (am b)),.own (.lst (lstsP (timesL p b))),h])
  (by
   rintro x r ε ⟨h,p,rest,d,m,rfl⟩;cases rest with
   |nil=>cases m
   |cons t rest=>
    have l:x::r=.lst (am t)::lstsP rest:=m;simp only[lI]at l;obtain⟨rfl,rfl⟩:=l;have e:=ti_comp t b (.val (.lst (lstsP c))) (.own (.lst (lstsP (timesL p b)))) (q t (by rw[d];simp));have g:dG (.lst (am b))=aa (am b):=rfl;have u:timesL (p++[t]) b=timesL p b++b.map λx=>t++[x]:=by simp[timesL]
    have j:(lstsP (timesL p b)).length+(lstsP (b.map λx=>t++[x])).length<=bv:=by
     rw[lstsP_len,lstsP_len];have y:(timesL p b).length+(b.map λx=>t++[x]).length<=(timesL c b).length:=by rw[d];simp only[timesL,zL,oQ,eY];lia
     unfold bv;lia
    refine⟨[.val (.lst (lstsP c)),.val (.lst (am b)),.own (.lst (lstsP (timesL (p++[t]) b))),.val (.lst (am t))],?_,.val (.lst (am t)),p++[t],rest,by rw[d];simp,rfl,rfl⟩;rw[u,lstsP_app];generalize lstsP (b.map λx=>t++[x])=Y at e j;generalize lstsP (timesL p b)=L at e j;generalize am b=M at e g;generalize lstsP c=RR at e;generalize am t=T at e;simp![g8,bO,aT,g,e,j])
  (lstsP c) [.val (.lst (lstsP c)),.val (.lst (am b)),.own (.lst (lstsP (timesL [] b))),.none] ⟨.none,[],c,by simp,rfl,rfl⟩
 have s:rest=[]:=by cases rest with|nil=>rfl|cons=>cases o
 subst s;rw[jb]at d;rw[<-d]at f;have g:dG (.lst (lstsP c))=aa (lstsP c):=rfl;have v:lstsP (timesL [] b)=[]:=rfl;rw[v]at f;generalize lstsP (timesL c b)=R1 at f;generalize lstsP c=R0 at f g;generalize am b=M at f;simp![vh,yaD,dJ,ca,aT,g,f,kB]
def fiB(a:Ad):aj->R aM:=bM 3 (cL (dB (d2 (Pu.eqT ak) (dV 4) (dC (.str [46])))) (bo (aY (vt a) (gV (dV 3) (Pu.bN)))) (dF (bO [4] (aT (dV 3)) (cb) (d2 ba (dV 0) (dV 1)))))
theorem fi_comp(b:List Tx)(d:Nat)(g f e c:Slot)(l:∀t∈b,t.length<=50):iy [4] cb (d2 ba (dV 0) (dV 1)) (am b) [] [g,f,e,.val (.lst (am b)),.val (.str [d]),c]=.ok (am (b.map λt=>t++[d])) [g,f,e,.val (.lst (am b)),.val (.str [d]),c]:=by
 have i:=iq (cap:=[4]) (dt:=cb) (de:=(d2 ba (dV 0) (dV 1))) (ε:=[g,f,e,.val (.lst (am b)),.val (.str [d]),c]) (λ_=>ah) (λx=>match x with|.str t=>.str (t++[d])|_=>.non) (am b)
  (by intro x j;obtain⟨t,h,rfl⟩:=bI.mp j;have n:=l t h;have m:ba (.str t) (.str [d])=aa (.str (t++[d])):=pQ (by simp[bv];lia);generalize am b=RR;refine⟨by simp![bX,b_,bC,cb],λ_=>?_⟩;simp![bX,b_,bC,m]) []
 rw[fq,nM.mpr (by simp)]at i;rw[i];congr 1;simp[am,cB,lD]
theorem fi_step(b:List Tx)(d:Nat)(i h g f:Slot)(j:∀t∈b,t.length<=50)(o:(fillS b d).length<=999999):fiB a [i,h,g,.val (.lst (am b)),.val (.str [d]),f]=.ok .next [i,h,g,.val (.lst (am (fillS b d))),.val (.str [d]),f]:=by
 have l:=xT ak [d] [46];by_cases m:d=46
 .subst m;have n:=three_eq (a:=a) b j o;generalize am (fillS b 46)=R1 at n;generalize am b=R0 at n;simp![fiB,l,n]
 .have c:=fi_comp b d i h g f j;have e:fillS b d=b.map λt=>t++[d]:=by
   unfold fillS opts;rw[if_neg m];clear c j o
   induction b with
   |nil=>rfl
   |cons t b q=>rw[oQ,q];rfl
  have p:dG (.lst (am b))=aa (am b):=rfl;rw[e];have r:decide (([d]:Tx)=[46])=ak:=decide_eq_false (by simpa using m);rw[r]at l;generalize am (b.map λt=>t++[d])=R1 at c;generalize am b=R0 at c p;simp![fiB,l,bO,aT,p,c]
theorem fi_for(b:Tx)(B:b.length<=40)(A:b.count 46<=6)(l j f h:Slot):∃m,ca 4 (aT (dV 2)) (fiB a) [l,j,↥b,.val (.lst (am [[]])),f,h]=.ok .next [l,j,↥b,.val (.lst (am (fills b))),m,h]:=by
 obtain⟨u,s,m,p,rest,g,v,rfl⟩:=ma (i:=4) (db:=fiB a)
  (I:=λr ε=>∃(f:Slot) (p rest:Tx),b=p++rest/\r=rest.map (λc=>PV.str [c])/\ε=[l,j,↥b,.val (.lst (am (fills p))),f,h])
  (by
   rintro x r ε ⟨f,p,rest,g,n,rfl⟩;cases rest with
   |nil=>cases n
   |cons d rest=>
    simp only[bE,lI]at n;obtain⟨rfl,rfl⟩:=n;have C:p.length+1<=b.length:=by rw[g];simp
    have o:(p++[d]).count 46<=6:=by
     have:(p++[d]).count 46<=b.count 46:=by rw[g];simp only[Df,zw,List.count_nil];lia
     lia
    have e:fillS (fills p) d=fills (p++[d]):=by unfold fills;rw[fillF_app];rfl
    have q:=fi_step (a:=a) (fills p) d l j (↥b) h (λt w=>by rw[fill_long w];lia) (by rw[e,fills_len];have:=pow6 o;lia);rw[e]at q;exact⟨_,q,.val (.str [d]),p++[d],rest,by rw[g];simp,rfl,rfl⟩)
  (b.map λc=>.str [c]) [l,j,↥b,.val (.lst (am (fills []))),f,h] ⟨f,[],b,rfl,rfl,rfl⟩
 have y:rest=[]:=by cases rest with|nil=>rfl|cons=>cases v
 subst y;rw[jb]at g;rw[<-g]at s;refine⟨m,?_⟩;have z:dG (.str b)=aa (b.map λc=>.str [c]):=rfl;unfold ca aT dV;simp only[CM,CT,R.bind_ok,z,bY];exact s
def fiO(a:Ad):aj->R aM:=aH (bM 3 (dF (dL cQ (aC (dC (.str [])) (aE))))) (aH (ca 4 (aT (dV 2)) (fiB a)) (bM 1 (bo (aY (vh a) (gV (dV 1) (gV (dV 3) (Pu.bN)))))))
theorem d_law_filled_def:yax a=aH (bM 1 (dF (dL cQ (aC (dF (dL cQ (aE))) (aE))))) (aH (λε=>dJ (ca 2 (aT (d2 bB (dV 0) (dC (.int 1)))) (fiO a) ε)) (aH (bM 5 (dF (dL sortSetVP (aC (dF (bO [0] (aT (dV 1)) (cb) (dL eW (aC (d2 bB (dV 1) (dC (.int 0))) (aC (dL ix (aC (dF (dL iS (aC (dV 0) (aE)))) (aE))) (aE)))))) (aE))))) (ko (bO [] (aT (dV 5)) (dB (d2 (Pu.eqT ah) (bo (aY (pH a) (gV (dV 0) (Pu.bN)))) (dF (dL cQ (aE))))) (dV 0))))):=rfl
theorem prs_vw(w:Int):∀(ks:List (List Tx)),(∀k∈ks,k≠[])->prs (ks.map λk=>prV (w,k))=aa (ks.map λk=>(w,k))
 |[],_=>rfl
 |k::ks,h=>by
  have d:=h k (by simp);have b:=prs_vw w ks λx c=>h x (by simp[c]);show(pr1 (prV (w,k))).bind (λq=>(prs (ks.map λk=>prV (w,k))).bind λr=>aa (q::r))=_;rw[b];have e:pr1 (prV (w,k))=aa (w,k):=by show(gp (am k)).bind _=_;rw[pr];simp[d]
  rw[e];rfl
theorem sortSetVP_vw(w:Int)(ks:List (List Tx))(h:∀k∈ks,k≠[])(e:ks.length<4000):sortSetVP [.lst (ks.map λk=>prV (w,k))]=aa (.lst ((sortK (uniqK (ks.map λk=>(w,k)))).map prV)):=by
 show(prs (ks.map λk=>prV (w,k))).bind _=_;rw[prs_vw w ks h,gR,if_pos];have d:=uniqK_len (ks.map λk=>((w,k):PrK));rw[bZ]at d;refine⟨∅,λk c=>?_⟩;obtain⟨x,b,rfl⟩:=bI.mp c;cases ks with
 |nil=>cases b
 |cons y ks=>rfl
theorem rows_long{b r:List Tx}(h:r∈rowsF b):r.length=b.length:=oE (rowsF_mem.mp h)
theorem eqT_nil(b:Bool)(ls:List Tx):Pu.eqT b (.lst (am ls)) (.lst [])=aa (.bl (b^^decide (ls=[]))):=by show(if eX (.lst (am ls))<=8 then(dW (am ls) (am [])).map (λk=>PV.bl (b^^k))else ae)=_;rw[if_pos (by show c_ (am ls)+1<=8;rw[uw];decide),xu];rfl
theorem filled_eq{w:Nat}{c:List Tx}(b:Blur w c):yw a [.val (aG w c)]=.ok (.own (.lst (vwsP w (viewsC w c)))) [.val (aG w c)]:=by
 have g:=b.g;have P:=g.few;have wU:=g.some;have X:=b.d6;obtain⟨ε',v,l,j,d,f,p,rest,n,iK,rfl⟩:=ma (i:=2) (db:=fiO a)
  (I:=λr ε=>∃(l j d f:Slot) (p rest:List Tx),c=p++rest/\r=am rest/\ε=[.val (aG w c),.val (.lst (lstsP (rowsF p))),l,j,d,f])
  (by
   rintro x r ε ⟨l,j,d,f,p,rest,n,s,rfl⟩;cases rest with
   |nil=>cases s
   |cons b rest=>
    have T:x::r=.str b::am rest:=s;simp only[lI]at T;obtain⟨rfl,rfl⟩:=T;have Q:b∈c:=by rw[n];simp
    have hbl:=g.len b Q;have o9:=‹Blur w c›.w4;have M:b.count 46<=6:=c0 (dots_mem Q) X;have Tg:p.length<=9:=by rw[n]at P;simp at P;lia
    obtain⟨S,m⟩:=fi_for (a:=a) b ∅ M (.val (aG w c)) (.val (.lst (lstsP (rowsF p)))) d f;have e:timesL (rowsF p) (fills b)=rowsF (p++[b]):=by unfold rowsF;rw[wf];rfl
    have K:cm (p++[b])<=6:=by
     have m:=dots_app p (b::rest);rw[<-n]at m;have h:cm (b::rest)=b.count 46+cm rest:=by simp[cm]
     have h3:cm (p++[b])=cm p+b.count 46:=by rw[dots_app];simp[cm]
     lia
    have h:=times_eq (a:=a) (rowsF p) (fills b) (λt A=>by rw[rows_long A];lia) (by rw[e,rowsF_len];have:=pow6 K;lia);rw[e]at h;refine⟨[.val (aG w c),.val (.lst (lstsP (rowsF (p++[b])))),↥b,.val (.lst (am (fills b))),S,f],?_,↥b,_,S,f,p++[b],rest,by rw[n];simp,rfl,rfl⟩;have e0:am [[]]=[.str []]:=rfl;rw[e0]at m;generalize lstsP (rowsF (p++[b]))=R1 at h;generalize lstsP (rowsF p)=R0 at m h;generalize am (fills b)=FB at m h;refine(cr (ε1:=[.val (aG w c),.val (.lst R0),↥b,.val (.lst [.str []]),d,f]) (by simp![])).trans ?_;refine(cr m).trans ?_;simp![h])
  (am c) [.val (aG w c),.val (.lst (lstsP (rowsF []))),.none,.none,.none,.none] ⟨.none,.none,.none,.none,[],c,rfl,rfl,rfl⟩
 have eM:rest=[]:=by cases rest with|nil=>rfl|cons=>cases iK
 subst eM;rw[jb]at n;rw[<-n]at v;have E:bB (aG w c) (.int 1)=aa (.tup (am c)):=rfl;have F:bB (aG w c) (.int 0)=aa (.int w):=rfl;have Y:dG (.tup (am c))=aa (am c):=rfl;have Z:dG (.lst (lstsP (rowsF c)))=aa (lstsP (rowsF c)):=rfl;have u:=iq (cap:=[0]) (dt:=cb) (de:=(dL eW (aC (d2 bB (dV 1) (dC (.int 0))) (aC (dL ix (aC (dF (dL iS (aC (dV 0) (aE)))) (aE))) (aE))))) (ε:=[.val (aG w c),.val (.lst (lstsP (rowsF c))),l,j,d,f]) (λ_=>ah)
  (λx=>match x with|.lst D=>prV ((w:Int),aV (D.filterMap λx=>match x with|.str t=>aa t|_=>ae))|_=>.non) (lstsP (rowsF c))
  (by
   intro x G;obtain⟨r,s,rfl⟩:=bI.mp G;have hrl:=rows_long s;have J:=AQ (ls:=r) ∅;have o:(am r).filterMap (λx=>match x with|.str t=>aa t|_=>ae)=r:=by unfold am;rw[zg];simp[lD]
   have A:ix [.lst (am (aV r))]=aa (.tup (am (aV r))):=rfl;simp only[o];unfold prV;generalize am (aV r)=SR at J A;generalize am r=RR at J;generalize lstsP (rowsF c)=R0;generalize aG w c=V at F;generalize ((w:Nat):Int)=WI at F;refine⟨by simp![bX,b_,bC,cb],λ_=>?_⟩;simp![bX,b_,bC,F,J,A]) []
 rw[fq,nM.mpr (by simp)]at u;have Dw:(lstsP (rowsF c)).map (λx=>match x with|.lst D=>prV ((w:Int),aV (D.filterMap λx=>match x with|.str t=>aa t|_=>ae))|_=>.non)=((rowsF c).map aV).map λk=>prV ((w:Int),k):=by
  unfold lstsP;rw[cB,cB];refine jP λr _=>?_;have o:(am r).filterMap (λx=>match x with|.str t=>aa t|_=>ae)=r:=by unfold am;rw[zg];simp[lD]
  show prV ((w:Int),aV ((am r).filterMap λx=>match x with|.str t=>aa t|_=>ae))=_;rw[o];rfl
 rw[Dw]at u;have y:=sortSetVP_vw (w:Int) ((rowsF c).map aV) (λk L=>by obtain⟨r,s,rfl⟩:=bI.mp L;intro z;have:=rows_long s;have h:=(fc r).length_eq;rw[z]at h;simp at h;lia) (by rw[bZ,rowsF_len];have:=pow6 X;lia);have eI:=views_same (w:Int) c;have Ti:((rowsF c).map aV).map (λk=>(((w:Nat):Int),k))=(rowsF c).map λr=>(((w:Nat):Int),aV r):=by rw[cB];rfl
 rw[Ti,eI]at y;have H:((cf (waysF c)).map λk=>(((w:Nat):Int),k)).map prV=vwsP w (cf (waysF c)):=by rw[cB];rfl
 rw[H]at y;have q:=iq (cap:=[]) (dt:=(dB (d2 (Pu.eqT ah) (bo (aY (pH a) (gV (dV 0) (Pu.bN)))) (dF (dL cQ (aE)))))) (de:=dV 0) (ε:=[.val (aG w c),.val (.lst (lstsP (rowsF c))),l,j,d,.val (.lst (vwsP w (cf (waysF c))))]) (λx=>hasT w (unVw x)) (λx=>x) (vwsP w (cf (waysF c)))
  (by
   intro x G;obtain⟨k,L,rfl⟩:=bI.mp G;obtain⟨gk,sk⟩:=ways_good b ((mU _).mem_iff.mp L);have N:=GH (a:=a) gk b.w1 b.w4 sk;have C:=eqT_nil ah (iR w k);rw[unVw_vw];have hh:(ah^^decide (iR w k=[]))=hasT w k:=by unfold hasT;simp
   rw[hh]at C;generalize aG w c=V;generalize vwsP w (cf (waysF c))=VS;generalize lstsP (rowsF c)=R0;generalize hasT w k=B at C;generalize aG w k=W at N;generalize am (iR w k)=TT at N C;refine⟨?_,λ_=>?_⟩
   .simp![bX,b_,bC,N,C]
   .simp![bX,b_,bC]) []
 rw[fq,ok_filter _ (hasT w) _ (λk=>by rw[unVw_vw])]at q;have O:dG (.lst (vwsP w (cf (waysF c))))=aa (vwsP w (cf (waysF c))):=rfl;have Dx:yax a [.val (aG w c),.none,.none,.none,.none,.none]=.ok (.ret (.own (.lst (vwsP w (viewsC w c))))) [.val (aG w c),.val (.lst (lstsP (rowsF c))),l,j,d,.val (.lst (vwsP w (cf (waysF c))))]:=by
  rw[d_law_filled_def];have m:(bM 1 (dF (dL cQ (aC (dF (dL cQ (aE))) (aE))))) [.val (aG w c),.none,.none,.none,.none,.none]=.ok .next [.val (aG w c),.val (.lst (lstsP (rowsF []))),.none,.none,.none,.none]:=by have:lstsP (rowsF [])=[.lst []]:=rfl;rw[this];simp![]
  refine(cr m).trans ?_;unfold viewsC;generalize vwsP w ((cf (waysF c)).filter (hasT w))=RF at q;generalize vwsP w (cf (waysF c))=RV at q y O;generalize ((rowsF c).map aV).map (λk=>prV ((w:Int),k))=RP at u y;generalize lstsP (rowsF c)=R1 at v u Z q;generalize lstsP (rowsF [])=R0 at v;generalize am c=B at v E Y;generalize aG w c=V at v E u q;refine(cr (ε1:=[.val V,.val (.lst R1),l,j,d,f]) (by simp![dJ,ca,aT,E,Y,v])).trans ?_;refine(cr (ε1:=[.val V,.val (.lst R1),l,j,d,.val (.lst RV)]) ?_).trans ?_
  .simp![bO,aT,Z,u,y]
  .simp![ko,bO,aT,O,q]
 simp[yw,bU,fX,bS,dO,Dx,back,gE,aO,R.bind]
end
theorem paired_perm{e d:Type}{g:e->d->Prop}{m f:List d}(p:m.Perm f):∀{l:List e},fi g l m->∃a,l.Perm a/\fi g a f:=by
 induction p with
 |nil=>intro l h;cases h;exact⟨[],.nil,.nil⟩
 |cons x _ u=>
  intro l h;cases h with
  |cons r h=>obtain⟨a,q,z⟩:=u h;exact⟨_::a,q.cons _,.cons r z⟩
 |swap x y r=>
  intro l h;cases h with
  |cons j h=>cases h with
   |cons i h=>exact⟨_,List.Perm.swap ..,.cons i (.cons j h)⟩
 |trans _ _ c b=>intro l h;obtain⟨A,o,w⟩:=c h;obtain⟨s,n,v⟩:=b w;exact⟨s,o.trans n,v⟩
theorem paired_set{b a:Type}{c:b->a->Prop}:∀{l:List b}{m:List a}{i:Nat}{x:b}{y:a},fi c l m->l[i]?=aa x->c x y->fi c l (m.set i y)
 |_,_,0,x,y,.cons r t,h,hy=>by simp at h;subst h;exact .cons hy t
 |_,_,i+1,x,y,.cons r t,h,hy=>.cons r (paired_set t (by simpa using h) hy)
 |_,_,_,_,_,.nil,h,_=>by simp at h
theorem fit_self:∀{x:Tx},(∀c∈x,c∈bV)->Fit x x
 |[],_=>.nil
 |c::x,h=>.cons (opts_mem.mpr (.inr ⟨by rintro rfl;have:=h 46 (by simp);simp[bV]at this,rfl⟩)) (fit_self λd a=>h d (by simp[a]))
theorem fit_dot:∀{x b:Tx} (u:Nat),(∀c∈x,c∈bV)->Fit x b->Fit x (b.set u 46)
 |_,_,_,_,.nil=>.nil
 |_,_,0,h,.cons r t=>.cons (opts_mem.mpr (.inl ⟨rfl,h _ (by simp)⟩)) t
 |_,_,u+1,h,.cons r t=>.cons r (fit_dot u (λc a=>h c (by simp[a])) t)
theorem pairedFit_self:∀{a:List Tx},(∀x∈a,∀c∈x,c∈bV)->fi Fit a a
 |[],_=>.nil
 |x::a,h=>.cons (fit_self (h x (by simp))) (pairedFit_self λy b=>h y (by simp[b]))
theorem Good.dots0{w:Nat}{a:List Tx}(g:Good bV w a):cm a=0:=by
 unfold cm;have:∀x∈a,x.count 46=0:=λx h=>List.count_eq_zero.mpr λd=>by have:=g.abc x h 46 d;simp[bV]at this
 clear g
 induction a with
 |nil=>rfl
 |cons x a b=>rw[bE,gS,this x (by simp),b λy c=>this y (by simp[c])]
theorem Good.dab{w:Nat}{a:List Tx}(g:Good bV w a):Good gz w a:=⟨g.len,λx h c b=>by have:=g.abc x h c b;simp[bV]at this;simp[gz];lia,g.some,g.few⟩
theorem Good.blur{w:Nat}{c:List Tx}(g:Good bV w c)(e:1<=w)(d:w<=4)(f:c.Pairwise (λa b=>cM a b=ah)):Blur w c:=⟨g.dab,e,d,by rw[g.dots0];decide,f⟩
theorem fit_eq{x b:Tx}(h:∀c∈b,c∈bV)(r:Fit x b):x=b:=by
 unfold Fit at r
 induction r with
 |nil=>rfl
 |cons r t g=>
  rcases opts_mem.mp r with⟨rfl,_⟩|⟨_,rfl⟩
  .have:=h 46 (by simp);simp[bV]at this
  .rw[g λc a=>h c (by simp[a])]
theorem ways_self{w:Nat}{c:List Tx}(g:Good bV w c)(d:c.Pairwise (λa b=>cM a b=ah)):waysF c=[c]:=by
 have l:∀k,k∈waysF c↔k∈[c]:=λk=>by
  rw[waysF_mem,gQ];constructor
  .rintro⟨h,rfl,e⟩;have:h=c:=by
    have f:=g.abc;clear g d
    induction e with
    |nil=>rfl
    |cons r _ i=>rw[fit_eq (f _ (by simp)) r,i λx j=>f x (by simp[j])]
   rw[this,mW d]
  .rintro rfl;exact⟨k,(mW d).symm,pairedFit_self g.abc⟩
 have e:=(Jr (waysF_nodup c) (by simp)).mpr l;exact List.perm_singleton.mp e
section
variable{a:Ad}
theorem blurredN_eq(o:List Int)(s:List PV)(w:Nat)(e:List Tx)(f:Nat)(h6:f<=6)(w1:1<=w)(w4:w<=4)(hx:s.length<=200)(g:Good bV w e)(hs:e.Pairwise (λa b=>cM a b=ah)):∃(d:List Tx) (j:List PV),Blur w d/\cm d<=f/\e∈waysF d/\j.length<=300 /\ yn a [cu o,.own (.lst s),.val (aG w e),⇑f]=.ok (.val (aG w d)) [cu o,.own (.lst j),.val (aG w e),⇑f]:=by
 obtain⟨m,m0,m1,Y⟩:=me (a:=a) o s ((f:Nat)+1) ∅ ∅;obtain⟨n,rfl⟩:∃n:Nat,m=n:=⟨m.toNat,∅⟩
 have hr:j8 [.int n]=aa (eO 0 n):=vi ∅;have bp:(eO 0 n).length=n:=by simp[eO]
 have g0:Good gz w e:=g.dab;have d0:cm e=0:=g.dots0;obtain⟨ε',Z,j,d,G,rfl,p,hd,hy,z⟩:=uE (i:=5) (db:=(yI 4 (bo (aY (gJ a) (gV (dV 0) (gO 1 (gV (uo 4) (Pu.bN)))))) (bo (aY (gJ a) (gV (dV 0) (gO 1 (gV (d2 bB (dV 2) (dC (.int 0))) (Pu.bN)))))) (dC (.str [46]))))
  (I:=λk C=>∃j d G,C=[cu o,.own (.lst j),.val (.tup [.int w,.tup (am e)]),⇑f,.own (.lls (d.map eE)),G]/\Good gz w d/\cm d<=k/\j.length<=s.length+1+2*k/\fi Fit e d) (N:=n)
  (by
   rintro k C x hk ⟨j,d,G,rfl,p,hd,hy,z⟩;have hll:e.length=d.length:=oE z;obtain⟨v,v0,v1,hv⟩:=me (a:=a) o j (d.length:Nat) (by have:=p.some;lia) ∅;obtain⟨u,u0,u1,X⟩:=me (a:=a) o (j++[.int 0]) (w:Nat) ∅ (by simp;lia);have K:v.toNat<d.length:=∅
   obtain⟨q,E⟩:∃q,d[v.toNat]?=aa q:=⟨_,dP K⟩
   obtain⟨D,F⟩:∃D,e[v.toNat]?=aa D:=⟨_,dP ∅⟩
   have A:q∈d:=jw E;have B:=p.len q A;have hf:Fit D q:=by
    have:∀{l m:List Tx} (i:Nat) (x y:Tx),fi Fit l m->l[i]?=aa x->m[i]?=aa y->Fit x y:=by
     intro l m i x y r
     induction r generalizing i with
     |nil=>intro h;simp at h
     |cons r _ ih=>
      intro T S;cases i with
      |zero=>simp at T S;subst T S;exact r
      |succ i=>exact ih i (by simpa using T) (by simpa using S)
    exact this _ _ _ z F E
   refine⟨[cu o,.own (.lst (j++[.int 0]++[.int 0])),.val (.tup [.int w,.tup (am e)]),⇑f,.own (.lls ((d.set v.toNat (q.set u.toNat 46)).map eE)),.val x],?_,_,_,_,rfl,p.put (by simp[B]) (λc P=>?_),?_,by simp;lia,paired_set z F (fit_dot _ (g.abc D (jw F)) hf)⟩
   .have W:gZ (d.map eE).length v=aa v.toNat:=BY v0 (by rw[bZ];exact v1);have i2:gZ (eE q).length u=aa u.toNat:=BY u0 (by rw[PZ,B];exact u1);have i3:(d.map eE)[v.toNat]?=aa (eE q):=by rw[d7,E];rfl
    have J:bB (.tup [.int w,.tup (am e)]) (.int 0)=aa (.int w):=rfl;have H:(d.map eE).length=d.length:=bZ _;simp only[gP,qB,fq]at X;simp only[bZ]at W;generalize ((f:Nat):Int)=M6;simp![yI,uo,kF,H,hv,W,i3,J,X,i2,Sn,<-map_set]
   .rcases Jt P with P|rfl
    .exact p.abc q A c P
    .simp[gz]
   .have:=Mg d v.toNat q (q.set u.toNat 46) E (Kn q u.toNat 46);lia)
  (eO 0 n) 0 [cu o,.own (.lst (s++[.int 0])),.val (.tup [.int w,.tup (am e)]),⇑f,.own (.lls (e.map eE)),.none] ∅ ⟨s++[.int 0],e,.none,rfl,g0,∅,by simp,pairedFit_self g.abc⟩
 have M:cm (aV d)<=f:=by rw[Rk (fc d)];lia
 refine⟨aV d,j,⟨p.perm (fc _),w1,w4,∅,sB _⟩,M,?_,∅,?_⟩
 .obtain⟨l',p',h'⟩:=paired_perm (fc d).symm z;exact waysF_mem.mpr ⟨l',by rw[<-rq p',mW hs],h'⟩
 have J:bB (.tup [.int w,.tup (am e)]) (.int 0)=aa (.int w):=rfl;have H:bB (.tup [.int w,.tup (am e)]) (.int 1)=aa (.tup (am e)):=rfl;have Q:ba (.int f) (.int 1)=aa (.int ((f:Nat)+1)):=rfl;have ij:d.length<=1000000:=by have:=p.few;lia
 have hj:=λC=>KB d (λx h=>by rw[p.len x h];lia) C;have L:(d.map eE).map PV.lst=d.map λx=>PV.lst (eE x):=by rw[cB];rfl
 have O:=Nm e;generalize ((f:Nat):Int)+1=M7 at Y Q;generalize ((f:Nat):Int)=M6 at Q Z ⊢;simp[yn,yau,aH,cL,dB,d2,d1,dV,dC,dL,dF,aC,aE,cI,ph,bM,cU,aY,gV,gO,Pu.bN,im,gq,cV,fR,iO,R.bind,aO,bU,fX,bS,back,gE,nW,iV,Ak,BU,yz,bo,j4,cQ,eW,gt,HM,qf,Hx,jW,yR,pi,lV,mF,Gy,pO,dI,gB,uY,kC,vk,dO,ng,H,yJ,aT,dG,O,Q,Y,ca,hr,dJ,Z,J,yQ,kF,bO,L,hj,iS,pr,ij,ix]
end
end Sh
namespace K08
open L2 Pu Mx Sh
section
variable{a:Ad}
theorem FR(w:Nat):∀ks c:List (List Tx),dW (vwsP w ks) (vwsP w c)=aa (decide (ks=c))
 |[],[]=>by simp[vwsP,dW]
 |[],j::c=>by simp[vwsP,dW]
 |k::ks,[]=>by simp[vwsP,dW]
 |k::ks,j::c=>by show(cF (aG w k) (aG w j)).bind (λa=>(dW (vwsP w ks) (vwsP w c)).map λb=>a&&b)=_;rw[eqP_vw,FR w ks c];simp only[gR,oK,decide_true,zk,lI,Bool.decide_and]
theorem Ab(b:Bool)(w:Nat)(ks c:List (List Tx)):Pu.eqT b (.lst (vwsP w ks)) (.lst (vwsP w c))=aa (.bl (b^^decide (ks=c))):=by
 show(if eX (.lst (vwsP w ks))<=8 then(dW (vwsP w ks) (vwsP w c)).map (λk=>PV.bl (b^^k))else ae)=_;have h:eX (.lst (vwsP w ks))<=8:=by show c_ (vwsP w ks)+1<=8;have:=deps_vw2 w ks;lia
 rw[if_pos h,FR];rfl
where
 deps_vw2 (w:Nat):∀ks:List (List Tx),c_ (vwsP w ks)<=3
  |[]=>by simp[vwsP,c_]
  |k::ks=>by
   show max (eX (aG w k)) (c_ (vwsP w ks))<=3;have h1:=deps_vw2 w ks;have h2:eX (aG w k)<=3:=by show max (eX (.int w)) (max (c_ (am k)+1) (c_ []))+1<=3;rw[uw];simp[eX,c_]
   lia
theorem Mq{w:Nat}{c:List Tx}(g:Good bV w c)(d:c.Pairwise (λa b=>cM a b=ah)):viewsC w c=if hasT w c=ah then [c] else []:=by
 unfold viewsC;rw[ways_self g d];have:cf [c]=[c]:=by simp[cf]
 rw[this];cases h:hasT w c <;> simp[h]
theorem MV{w:Nat}{c:List Tx}(b:Blur w c)(l j i g f:Slot):iy [5] (jW (dB (bo (aY (rO a) (gV (dV 1) (gV (dV 0) (Pu.bN))))))) (dV 0) (vwsP w (viewsC w c)) [] [l,j,i,g,f,.val (aG w c),.val (.lst (vwsP w (viewsC w c)))]=.ok [] [l,j,i,g,f,.val (aG w c),.val (.lst (vwsP w (viewsC w c)))]:=by
 have p:=iq (cap:=[5]) (dt:=(jW (dB (bo (aY (rO a) (gV (dV 1) (gV (dV 0) (Pu.bN)))))))) (de:=dV 0) (ε:=[l,j,i,g,f,.val (aG w c),.val (.lst (vwsP w (viewsC w c)))]) (λ_=>ak) (λx=>x) (vwsP w (viewsC w c))
  (by intro x n;obtain⟨k,o,rfl⟩:=bI.mp n;have d:k∈waysF c:=(mU _).mem_iff.mp (kI.mp o).1;obtain⟨q,m⟩:=ways_good b d;have e:=clears_eq (a:=a) b q b.w1 b.w4 m;rw[decide_eq_true rfl,decide_eq_true d]at e;generalize vwsP w (viewsC w c)=VS;generalize aG w c=V at e;generalize aG w k=W at e;refine⟨?_,λh=>by simp at h⟩;simp![bX,b_,bC,e]) []
 rw[p];simp
theorem Oa(d:List Int):uy a [cu d]=.ok (.val (.bl ah)) [cu d]:=by
 obtain⟨f,X,W,H⟩:=me (a:=a) d [] 5 (by decide) (by simp);obtain⟨v,rfl⟩:∃n:Nat,f=n:=⟨f.toNat,∅⟩
 obtain⟨x,J,s⟩:=G9 (a:=a) d ([]++[.int 0]) [.int 0,.int 0,.int 1,.int 2] (by simp) (by decide);obtain⟨sp,N,rfl⟩:∃sp:Nat,sp<3/\x=.int sp:=by
  simp at J;rcases J with rfl|rfl|rfl
  .exact⟨0,by decide,rfl⟩
  .exact⟨1,by decide,rfl⟩
  .exact⟨2,by decide,rfl⟩
 obtain⟨w,b,z,C,A,_,g,r,_,_,E,P⟩:=OH (a:=a) d ([]++[.int 0]++[.int 0]) sp 6 N (by decide) (by decide) (by simp);obtain⟨c,j,bl,T,Q,O,u⟩:=blurredN_eq (a:=a) d z w b v ∅ C A (by simp at E;lia) g r;have I:=cleared_eq (a:=a) bl;have i:=filled_eq (a:=a) bl;have h:=Ab ah w (viewsC w c) (viewsC w c);rw[decide_eq_true rfl]at h;have l:=MV (a:=a) bl (cu d) (.own (.lst j)) (⇑v) (⇑sp) (.val (aG w b));have p:=cleared_eq (a:=a) (g.blur C A r);have y:=GH (a:=a) g C A r;have m:=eqT_nil ah (iR w b);have o:Pu.eqT ah (.lst []) (.lst [])=aa (.bl ak):=rfl;have K:dG (.lst (vwsP w (viewsC w c)))=aa (vwsP w (viewsC w c)):=rfl;have L:i7 [.lst (vwsP w (viewsC w c)),.raw (.ty "list")]=aa (.bl ah):=rfl;have D:ub a [cu d,.own (.lst [.int 0,.int 0]),⇑sp,⇑6]=.ok (.val (aG w b)) [cu d,.own (.lst z),⇑sp,⇑6]:=P;have F:=Mq g r;have S:(ah^^decide (iR w b=[]))=hasT w b:=by unfold hasT;simp
 rw[S]at m;have e:∀q:Bool,hasT w b=q->Pu.eqT ak (.lst (vwsP w (viewsC w b))) (if q=ah then .lst [aG w b] else .lst [])=aa (.bl ah):=λq G=>by
  rw[F,G];cases q with
  |true=>have:=Ab ak w [b] [b];rw[decide_eq_true rfl]at this;exact this
  |false=>have:=Ab ak w [] [];rw[decide_eq_true rfl]at this;exact this
 simp only[fq]at H s;have M:yas a [cu d,.none,.none,.none,.none,.none,.none]=.ok (.ret (.val (.bl ah))) [cu d,.own (.lst j),⇑v,⇑sp,.val (aG w b),.val (aG w c),.val (.lst (vwsP w (viewsC w c)))]:=by
  unfold yas;generalize ((v:Nat):Int)=FW at H u l ⊢;generalize ((sp:Nat):Int)=SP at s D l ⊢;refine(cr (ε1:=[cu d,.own (.lst []),.none,.none,.none,.none,.none]) (by simp![])).trans ?_;refine(cr (ε1:=[cu d,.own (.lst [.int 0]),⇑FW,.none,.none,.none,.none]) (by simp![H])).trans ?_;refine(cr (ε1:=[cu d,.own (.lst [.int 0,.int 0]),⇑FW,⇑SP,.none,.none,.none]) (by simp only[qB,fq]at s;simp![s])).trans ?_;refine(cr (ε1:=[cu d,.own (.lst z),⇑FW,⇑SP,.val (aG w b),.none,.none]) ?_).trans ?_
  .generalize aG w b=V at D;simp![D]
  refine(cr (ε1:=[cu d,.own (.lst j),⇑FW,⇑SP,.val (aG w b),.val (aG w c),.none]) ?_).trans ?_
  .generalize aG w b=V at u;generalize aG w c=B at u;simp![u]
  refine(cr (ε1:=[cu d,.own (.lst j),⇑FW,⇑SP,.val (aG w b),.val (aG w c),.val (.lst (vwsP w (viewsC w c)))]) ?_).trans ?_
  .generalize aG w b=V;generalize vwsP w (viewsC w c)=VS at I;generalize aG w c=B at I;simp![I]
  refine(cr (ε1:=[cu d,.own (.lst j),⇑FW,⇑SP,.val (aG w b),.val (aG w c),.val (.lst (vwsP w (viewsC w c)))]) ?_).trans ?_
  .generalize aG w b=V;generalize vwsP w (viewsC w c)=VS at i h L;generalize aG w c=B at i;simp![i,h,L]
  refine(cr (ε1:=[cu d,.own (.lst j),⇑FW,⇑SP,.val (aG w b),.val (aG w c),.val (.lst (vwsP w (viewsC w c)))]) ?_).trans ?_
  .generalize aG w b=V at l;generalize vwsP w (viewsC w c)=VS at l K;generalize aG w c=B at l;simp![bO,aT,K,l,o]
  .generalize G:hasT w b=q at m;have e:=e q G;generalize vwsP w (viewsC w b)=VL at p e;generalize am (iR w b)=TT at y m;generalize vwsP w (viewsC w c)=VS;generalize aG w b=V at p y e;generalize aG w c=B;cases q with
   |true=>simp only[if_true]at e;simp![p,y,m,e]
   |false=>simp only[eZ,if_false]at e;simp![p,y,m,e]
 simp[uy,bU,fX,bS,dO,M,back,gE,aO,R.bind]
end
open L2 Pu Sh
def BM(K:ay)(a:Ad):Bool:=tz K a.SlitError yg "ValueError.__new__" && (vf a).all (λx=>tz K x yg "ValueError.__new__" && subB K a.SlitError x&&F_ K x&&(vf a).all (λd=>jM K (.ref x) (.ref d) == aa (x == d))&&jM K (.ref x) (.type "ValueError") == aa ah)&&zS K
section
variable{K:ay}{h g:aB}{i:Str->Option ai}{a:Ad}
theorem E4(h:BM K a=ah):tz K a.SlitError yg "ValueError.__new__"=ah/\(∀x∈vf a,tz K x yg "ValueError.__new__"=ah/\subB K a.SlitError x=ah/\F_ K x=ah/\(∀d∈vf a,jM K (.ref x) (.ref d)=aa (x == d))/\jM K (.ref x) (.type "ValueError")=aa ah)/\zS K=ah:=by unfold BM at h;simp only[h_,ki,beq_iff_eq,decide_eq_true_eq]at h;obtain⟨⟨f,c⟩,e⟩:=h;exact⟨f,λx b=>⟨(c x b).1.1.1.1,(c x b).1.1.1.2,(c x b).1.1.2,(c x b).1.2,(c x b).2⟩,e⟩
structure Top(K:ay)(a:Ad):Prop where
 yav:c9 K "_law_cell_at" Aa
 yay:c9 K "_law_mixed" zV
 yaw:c9 K "_law_draw" AY
 yaz:c9 K "_law_pick" B2
 yaA:c9 K "_law_seen" xh
 yaB:c9 K "_law_text" AK
 yaF:c9 K "_law_view" Ao
 yau:c9 K "_law_blurred" ud
 yap:c9 K "is_whole_number" Av
 yaq:c9 K "is_width" Cd
 yal:c9 K "has_only" xJ
 yar:c9 K "is_window" BI
 yac:c9 K "are_windows" xM
 yao:c9 K "is_view_with" BA
 yam:c9 K "is_blurred_view" Bn
 yae:c9 K "check_blurred_view" B6
 yaH:c9 K "windows_that_fit" xL
 yah:c9 K "clearing_views" xn
 yan:c9 K "is_view" Be
 yaf:c9 K "check_view" Ce
 yaj:c9 K "excesses" zY
 yaG:c9 K "reached_pieces" Af
 yak:c9 K "find_bar" uT
 yad:c9 K "bar" Cb
 yag:c9 K "cleared" x_
 yaD:c9 K "_law_times" xY
 yaC:c9 K "_law_three" yE
 yaE:c9 K "_law_under" yZ
 yat:c9 K "_law_all" ul
 yax:c9 K "_law_filled" r_
 yai:c9 K "clears" AN
 yas:c9 K "law" uc
 yaI:fo K cZ "all"=aa ae
 yaJ:fo K cZ "bool"=aa ae
 yaK:fo K cZ "enumerate"=aa ae
 yaL:fo K cZ "int"=aa ae
 yaM:fo K cZ "isinstance"=aa ae
 yaN:fo K cZ "len"=aa ae
 yaO:fo K cZ "list"=aa ae
 yaP:fo K cZ "range"=aa ae
 yaQ:fo K cZ "set"=aa ae
 yaR:fo K cZ "sorted"=aa ae
 yaS:fo K cZ "str"=aa ae
 yaT:fo K cZ "tuple"=aa ae
 yaV:∃t,fo K cZ "LETTERS"=aa (aa (.str (tS [97,98,99]) t))
 yaW:∃t,fo K cZ "MOST_POINTS"=aa (aa (.int 6 t))
 yaX:∃t,fo K cZ "MOST_WINDOWS"=aa (aa (.int 9 t))
 yaY:∃t,fo K cZ "POINT"=aa (aa (.str (tS [46]) t))
 yaZ:∃t,fo K cZ "WIDEST"=aa (aa (.int 4 t))
 yab:fo K cZ "SlitError"=aa (aa (.ref a.SlitError))
 yaa:fo K cZ "NoView"=aa (aa (.ref a.NoView))
 ck:BM K a=ah
 z0:qj K "road"=ae
theorem L_(T:Top K a)(X:K.In g)(G:g.Ns cZ i):dq K i g a where
 yav:=T.yav.at X G
 yay:=T.yay.at X G
 yaw:=T.yaw.at X G
 yaz:=T.yaz.at X G
 yaA:=T.yaA.at X G
 yaB:=T.yaB.at X G
 yaF:=T.yaF.at X G
 yau:=T.yau.at X G
 yap:=T.yap.at X G
 yaq:=T.yaq.at X G
 yal:=T.yal.at X G
 yar:=T.yar.at X G
 yac:=T.yac.at X G
 yao:=T.yao.at X G
 yam:=T.yam.at X G
 yae:=T.yae.at X G
 yaH:=T.yaH.at X G
 yah:=T.yah.at X G
 yan:=T.yan.at X G
 yaf:=T.yaf.at X G
 yaj:=T.yaj.at X G
 yaG:=T.yaG.at X G
 yak:=T.yak.at X G
 yad:=T.yad.at X G
 yag:=T.yag.at X G
 yaD:=T.yaD.at X G
 yaC:=T.yaC.at X G
 yaE:=T.yaE.at X G
 yat:=T.yat.at X G
 yax:=T.yax.at X G
 yai:=T.yai.at X G
 yas:=T.yas.at X G
 yaI:=lJ X G T.yaI
 yaJ:=lJ X G T.yaJ
 yaK:=lJ X G T.yaK
 yaL:=lJ X G T.yaL
 yaM:=lJ X G T.yaM
 yaN:=lJ X G T.yaN
 yaO:=lJ X G T.yaO
 yaP:=lJ X G T.yaP
 yaQ:=lJ X G T.yaQ
 yaR:=lJ X G T.yaR
 yaS:=lJ X G T.yaS
 yaT:=lJ X G T.yaT
 yaV:=T.yaV.imp λ_ e=>nH X G e
 yaW:=T.yaW.imp λ_ e=>nH X G e
 yaX:=T.yaX.imp λ_ e=>nH X G e
 yaY:=T.yaY.imp λ_ e=>nH X G e
 yaZ:=T.yaZ.imp λ_ e=>nH X G e
 yab:=nH X G T.yab
 yaa:=nH X G T.yaa
 yaU:=Ls X (nH X G T.yaa) ((E4 T.ck).2.1 a.NoView (by simp[vf])).1
theorem Nj{l:Cz}{w:aI}{d:af}(X:K.In h)(G:h.Ns cZ i)(b:i "law"=aa (.ref d))(T:Top K a):∃c:ja,(∀(s:ao) (v:ai),BindsTo s c ⟨[v],[]⟩ [("_law_script",v)])/\∀g:aB,K.In g->g.Ns cZ i->lg l.prog w K i g (cE l.prog w) 9 d c ["_law_script"] (cg K (uy a)):=by
 obtain⟨f,oc,x,kV,y,u,B,A,z,r,o,n,m,j⟩:=T.yas;have e:=b.symm.trans (nH X G o);cases e;exact⟨_,λs v=>.of_eq rfl,λg p q=>Ol (L_ T p q) (G5 n m j)⟩
theorem MH{l:Cz}{q:aQ}{j:List Str}{XP:(Str->Option ai)->aB->Prop}{o:aI->aB->Prop}{d:DefRec}{K:Params->ay}(y:l.most=aa 63)(u:d.params.defaults=[])(m:d.name = "law")(A:∀(w:aI) (h:aB),o w h->(K w.params).In h) {a:Ad} (T:∀w:aI,Top (K w.params) a):PySem.W.WalkO q j XP o l.row.toRowW d [] (λf r=>PySem.call f r) :=
 L2.TU (n:=63) (k:=9) (x:="_law_script") (K:=K) (CX:=λw=>cE l.prog w) (sp:=λw=>cg (K w.params) (uy a)) y (by decide) u ⟨rfl,by decide,by decide⟩ (λw h Y=>⟨A w h Y,λc P e=>by rw[(T w).z0]at e;cases e⟩)
  (λw i F h C G p=>Nj C G (by rw[<-m];exact p) (T w))
  (λw H b v E _ B=>Ro (QI (E4 (T w).ck).2.2 B) (Oa  v))
  (λw H s e D z=>by obtain⟨_,_,_,_,_,_,_,_,_,_,_,f⟩:=z;exact f)
theorem TK{l:Cz}{q:aQ}{b:List Str}{XP:(Str->Option ai)->aB->Prop}{e:aI->aB->Prop}{d:DefRec}{K:Params->ay}{yab yaa:af}(n:l.most=aa 63)(m:d.params.defaults=[])(c:d.name = "law")(o:∀(w:aI) (h:aB),e w h->(K w.params).In h) (T:∀w:aI,Top (K w.params) ⟨yab,yaa,yaa,yaa,yaa,yaa,yaa,yaa,yaa,yaa,yaa,yaa,0,0⟩):PySem.W.WalkO q b XP e l.row.toRowW d [] (λf j=>PySem.call f j):=MH n m c o T
end
end K08
set_option genInjectivity false in
structure PySem.W.Fast:Prop where(tw2082700083704751130 tw6744391197209312742 tw13685316895132928703 tw4162022282069053831 tw1287610855559986953 tw10749215473751469903 tw7296777576697525876 tw2200511114805371339 tw4444180424161578113 tw2273818203726698630 tw2205512023931695749 tw4901240424414069909 tw12438665662472475401 tw9255254354209540758 tw6156375954791927530 tw5937821253602310181 tw5929410637449383414 tw16201490666396227496 tw16978632816470160219 tw3075529467722200118 tw11892334074518389935 tw1058418870603931567 tw2374300547379205704 tw11269862427438902070 tw9098387662352362153 tw5367014820276001965 tw1969455994370022822 tw15337644350753026340 tw11828233558857005641 tw14979170832870926216 tw7004119299034592989 tw11053140790759568612 tw14382029293532554943 tw4292971026155525992 tw15160584672946320906 tw17395823428165247538 tw4326103994922448132 tw18360650026595264836 tw14248684033057456012 tw4894950715697398182 tw4464685399692466944 tw7272795970380196896 tw15612946931671186178 tw15225544994222488528 tw3750076273251071946 tw9496557931871927340 tw1743083124574861992 tw17077111826641390260 tw3368400191237004285 tw7453568340933586319 tw15780894253370468599 tw7265097396148332239 tw9681564593478722617 tw16110753813161327988 tw5246161790656532353 tw3598785936492343030 tw12379332799875083898 tw6618296292244824084 tw3468507444457335454 tw15860597025999586341 tw14815885208008640910 tw11438868373649178529 tw10787416153428624569 tw13460087411122050663 tw17266269251578825672 tw15404053962721485211 tw2010905985677810210 tw8766597305329553464 tw15819515687529185174 tw7615848848586812679 tw8208153707355319415 tw6155009711006766659 tw3100901249180721789 tw9679962591243919431 tw14061354109460834436 tw7155805622514890735 tw5273512627136378026 tw15738686359903214162 tw2225517851965188677 tw13451023007661455241 tw14870507840156941079 tw622580149414016494 tw5017066405874605788 tw4843338954887356841 tw3100845490121439311 tw15065175830743817717 tw7697954529573475449 tw8520243638821641161 tw6639329766717285471 tw12391763319429878707 tw3626654349288435481 tw12133640184084142851 tw6794544287059904170 tw2477043972006696457 tw4614356445842537644 tw7195906041956779725 tw4384226801268848235 tw17344063290972999247 tw618440653886172204 tw966291814448288780 tw16820319259050780968 tw17486837743183403368 tw9108409988877559595 tw16771989451654627107 tw6794992692674255878 tw12629690928161091121 tw17836663792249494186 tw2399773093101158919 tw651528169427919261 tw8442410714515412382 tw4892079032950210205 tw11796749959272437341 tw3549749600656559574 tw12727391738365779516 tw16212452151414080427 tw9398107734859065008 tw15337342030130647893 tw7196540279368032924 tw17920014838643386998 tw17619070856072790141 tw6580731622937937312 tw12232004799598558009 tw18413160281135170581 tw17432055340911631603 tw14481765743518836323 tw6009298606507196861 tw8875306099801195965 tw704075016437387853 tw4909096251588266793 tw3984703139900379677 tw5740186878655485325 tw11850355506079333336 tw3172817351144426019 tw8704308096627303090 tw4768131352213886050 tw1467268089387187494 tw443889065411737048 tw16338886539572889799 tw6835567485077209818 tw3734882682935465086 tw3882081555786361370 tw5421037868248936976 tw17659523705242188483 tw16230715176317079310 tw15665159717953442602 tw15417176786375929656 tw8153559846641124802 tw13312347106497004815 tw4916054316017197102 tw2819408078353616945 tw4373870737740734175 tw7761768913303861868 tw9446086288339207756 tw17391303615754409312 tw9740503281857497242 tw18173294001653798946 tw5631718445040714382 tw14895254764144424212 tw1244643710279012408 tw5153358948012565700 tw6149168475546397010 tw5245789828294950701 tw3339768293620356131 tw661202829028274705 tw7400771973530604712 tw3324623089319405747 tw15809562676029749376 tw13570915188837972002 tw14600121492883799753 tw13664184653291495497 tw5173806922010482902 tw15928021275174496639 tw8660422560327023169 tw10986638896471082220 tw8168333450973713222 tw3595615355185335216 tw6408545988632279029 tw5519063364067454886 tw4108923525312936141 tw17347682318212127986 tw9868178534345928015 tw4607588788472218618 tw3539653377180099101 tw14117888001874362169 tw11672032708497369463 tw13229150664797280457 tw6607884374994332088 tw9540308429336650960 tw3059075922133056036 tw10219273233516475687 tw11315795244403717607 tw6329699938825564210 tw11224700041126598314 tw2431186206994181815 tw12506366276978077203 tw8800309040841414814 tw11272937084196918798 tw4326190620946628985 tw6736294425141005271 tw1374014976766164378 tw2419888825771037570 tw15834642947458197077 tw11970625404806244185 tw3625988500535683199 tw16040824268568235153 tw8439773553059375694 tw3984776623823353127 tw1819991423980026592 tw11182026669168755500 tw1785631429004820228 tw596943357327107264 tw2325212935371453818 tw18115095920480615684 tw6745900631508493991:True)
open PySem PySem.W PyProof.Rows
set_option maxRecDepth 100000 in
set_option maxHeartbeats 0 in
theorem PySem.Challenge.cw_slitview_k08_whole_cleared_holds : PySem.Challenge.rw_slitview_k08_whole_cleared.Holds := by
 w_on; o_law; k_head; (case hw=>w_witness2)
 k_fill
 refine' K08.TK (l:=PySem.Challenge.rw_slitview_k08_whole_cleared) rfl rfl rfl (fun w h Y=>PySem.W.kIn_of Y) ?T
 case T =>
  intro w
  refine' { yav:=?yav,yay:=?yay,yaw:=?yaw,yaz:=?yaz,yaA:=?yaA,yaB:=?yaB,yaF:=?yaF,yau:=?yau,yap:=?yap,yaq:=?yaq,yal:=?yal,yar:=?yar,yac:=?yac,yao:=?yao,yam:=?yam,yae:=?yae,yaH:=?yaH,yah:=?yah,yan:=?yan,yaf:=?yaf,yaj:=?yaj,yaG:=?yaG,yak:=?yak,yad:=?yad,yag:=?yag,yaD:=?yaD,yaC:=?yaC,yaE:=?yaE,yat:=?yat,yax:=?yax,yai:=?yai,yas:=?yas,yaI:=?yaI,yaJ:=?yaJ,yaK:=?yaK,yaL:=?yaL,yaM:=?yaM,yaN:=?yaN,yaO:=?yaO,yaP:=?yaP,yaQ:=?yaQ,yaR:=?yaR,yaS:=?yaS,yaT:=?yaT,yaV:=?yaV,yaW:=?yaW,yaX:=?yaX,yaY:=?yaY,yaZ:=?yaZ,yab:=?yab,yaa:=?yaa,ck:=?ck,z0:=?z0 }
  (case yab=>k_is)
  (case yaa=>k_is)
  (case yav=>and_intros)
  (case yay=>and_intros)
  (case yaw=>and_intros)
  (case yaz=>and_intros)
  (case yaA=>and_intros)
  (case yaB=>and_intros)
  (case yaF=>and_intros)
  (case yau=>and_intros)
  (case yap=>and_intros)
  (case yaq=>and_intros)
  (case yal=>and_intros)
  (case yar=>and_intros)
  (case yac=>and_intros)
  (case yao=>and_intros)
  (case yam=>and_intros)
  (case yae=>and_intros)
  (case yaH=>and_intros)
  (case yah=>and_intros)
  (case yan=>and_intros)
  (case yaf=>and_intros)
  (case yaj=>and_intros)
  (case yaG=>and_intros)
  (case yak=>and_intros)
  (case yad=>and_intros)
  (case yag=>and_intros)
  (case yaD=>and_intros)
  (case yaC=>and_intros)
  (case yaE=>and_intros)
  (case yat=>and_intros)
  (case yax=>and_intros)
  (case yai=>and_intros)
  (case yas=>and_intros)
  (case yaI=>k_is)
  (case yaJ=>k_is)
  (case yaK=>k_is)
  (case yaL=>k_is)
  (case yaM=>k_is)
  (case yaN=>k_is)
  (case yaO=>k_is)
  (case yaP=>k_is)
  (case yaQ=>k_is)
  (case yaR=>k_is)
  (case yaS=>k_is)
  (case yaT=>k_is)
  (case yaV=>refine' Pu.TC ?e; (case e=>k_is))
  (case yaW=>refine' Pu.TJ ?e; (case e=>k_is))
  (case yaX=>refine' Pu.TJ ?e; (case e=>k_is))
  (case yaY=>refine' Pu.TC ?e; (case e=>k_is))
  (case yaZ=>refine' Pu.TJ ?e; (case e=>k_is))
  (case ck=>kernel_rfl)
  (case z0=>kernel_rfl)
