import PyProof.Rows.All
import Wide.All
import OpenK.AllK
import Wide.FinOn
import Lean
import PyProof.EqAt
import PyProof.EqKinds
import PyProof.TupleCall
import KE.KIntText
import KE.KDictList
import KE.KDictSum
import PyProof.Rows.Range3
import PyProof.DictWalks
import KE.KMinKey
import KE.KSortTup
import PyProof.EnumStmt
import PyProof.EnumMake
import PyProof.EnumFor
import PyProof.Draws
import PyProof.Rows.TupDisplay
import PyProof.Rows.SumAny
import KE.LcSums
import PySem.Challenge.RW_slitview_k35_whole_mirrored
noncomputable section
set_option compiler.extract_closed false
local macro_rules | `(∅) => `(by first | assumption | lia | omega)
set_option Elab.async false
set_option bootstrap.genMatcherCode false
set_option genSizeOf false
set_option linter.all false
set_option maxRecDepth 100000
local macro_rules | `(tactic| ac_nf) => `(tactic| exact ⟨rfl,rfl,rfl,by decide +kernel,rfl,by decide +kernel,by decide +kernel⟩)
open Option renaming some->aa,none->ae,bind_some->gT,map_eq_some_iff->mw,map_some->pf,isSome_map->vI,isSome_iff_exists->Cj,getD_some->CV,getD_none->IC
open PySem renaming Addr->ag,Value->ai,Shared->am,wpAny_bind->ap,wpAny->ar,model->aw,Expr->az,Heap->aB,World->aE,wpAny_pure->aG,eval->aK,starEach->aM,Program->aQ,Around->aT,sizeLine->a_,Stmt->ba,mainGlobals->bQ,backTo->cZ,Scope->dy,rawInt->d9,wpAny_mono->ez,compareOp->eC,bootBuiltins->eF,bindArgs->fV,cellsFrom->fX,NameKind->gQ,FuncData->il,binaryOp->iS,wpAny_holding->jn,strKind->jq,Keyword->jE,sysModules->jY,attributeBase->j0,Paired->ku,swapsWith->kw,SetTable->kE,sizeLine_eq->k8,codeAny->lK,mem_of_lookup->lL,hashStr->mj,pyIter->mq,isTrue->nN,behindInMarks->nO,wpAny_truthy_bool->nQ,holding->nR,foldedSetIterable->nV,codeAny_mono->nW,IsPart->nX,wpAny_newObj_type->nY,wpAny_rule->nZ,codeAny_builtin->n5,setNext->n6,setField->n8,builtinsNs->o6,assign->qC,Arguments->qG,wpAny_field->qH,getItem->qI,backToKw->qK,keywordEach->qL,plainId_quiet->qQ,reduceHash->sY,wpAny_passesOwn->sZ,wpAny_call->tf,wpAny_Call_Name_kw->tj,sliceBounds->tm,call_meets->tu,valueAt->tw,callerA->tz,relayAll->tG,wpAny_setState_of->tI,wpAny_askSetting->tK,wpAny_setField->tL,tupleKind->vt,codeAmong->vx,recursionLimit->vB,wpAny_call_entry->vE,typeIs_str->vF,pickOrder->vO,eqIsQuiet->vS,wpAny_tryCatch->vT,wpAny_Name->yY,wpAny_loadPart'->y6,tupleKind_room_in1->y9,wpAny_specialOf->y_,closureFor->zb,partValue->ze,wpAny_of_eq->zh,isInstance->zi,setsByText->zk,wpAny_seqItems->zn,wpAny_ite_split->zo,setFlight->zt,wpAny_execs_nil->Cd,PassesOwn->Ce,letOwnedTupleGo->Cf,IsRangeIter->Cg,subscripted->Cp,wpAny_pyIter_list->Cy,excClassObj->CI,wpAny_forIn_list->C0,wpAny_letGo->C3,wpAny_loadName_local->Im,wpAny_execs_cons->Ip,noFill_tuple_add->Ix,checkBuiltinCall->IP,wpAny_isInstance->IQ,codeAny_call_builtin->IS,wpAny_loadPart_at->IV
open Bool renaming true->ah,false->aj,false_ne_true->fc,and_eq_true->ge,eq_iff_iff->mr,false_eq_true->mz,true_xor->tP,not_true->tQ,or_eq_true->zf,false_xor->CY,not_false->C8,eq_false_iff->IW,not_eq_true'->IY
open PySem.W renaming Frag->ax,nsIn->c7,kitOne->eO,mg_of->ir,fnOf->iT,mg_none_of->jG,tabIn->lH,kia_one->lJ,excIn->pi,findIn->qD,keepIn->qE,InstAt->vA,codeIn->vC,mroIn->yZ,codeHdIn->za,OpenLaw->Cu,clsIn->CJ,kla_obj->CZ,methodObj->Il,specialIn->Iu,callWith_K->Iv,cellsFrom_some->Iw
open PyProof.Rows renaming wpS_bind->aH,wpS_pure->aW,pendingOf->br,SortSt->bH,StrsAre->eP,seqObj->ff,wpS_mono->gU,wpS_forRange->gW,envOfC->jo,SortKind->jr,size_push'->j5,wpS_get->lM,pairsOf->mE,AllBare->nM,wpS_modify->n_,wpS_lift->tO,get?_update_seq->zq,subscriptTail->Co,listUpdate_at->CA,callWith_type1->Iq,callWith_builtin1->TK,slot_tuple_getitem->TL
open Nat renaming le_refl->aY,le_trans->cQ,ne_of_lt->cY,lt_irrefl->fA,lt_of_lt_of_le->fU,zero_le->j4,lt_succ_of_lt->lg,le_of_lt->mn,ne_of_gt->mo,le_of_eq->mx,lt_succ_self->mB,zero_add->mC,add_assoc->ph,lt_of_le_of_lt->vJ,le_succ->vK,eq_zero_or_pos->vW,mul_le_mul->zg,succ_mul->Cs,lt_trans->Ct,sub_self->CM,min_eq_left->C7,add_right_comm->IX
open PySem.Heap renaming get?_push_of_some->bn,lt_size->bK,get?_push_size->cy,SameBut->k7,get?_update_self->o8,get?_update_other->o9,get?_none_of_le->vz,size_push->zc,get?_update_ne->IT,size_update->IU
open List renaming mem_cons->bE,replicate->bO,size_toArray->cg,map_cons->cn,range->cz,mem_map->cJ,length_append->cL,length_map->cM,reverse->dr,getElem?_eq_some_iff->dR,length_cons->d_,append_assoc->eG,map_map->eJ,getElem?_set_ne->eU,getElem?_eq_getElem->eW,mem_singleton->fe,append_nil->fW,getElem?_set_self->gB,map_congr_left->gC,length_set->gR,take_of_length_le->ip,nil_append->iq,sum_cons->iu,mem_append_right->iR,find?_cons->iU,mem_append->jm,getElem?_append_left->jD,not_mem_nil->jF,length_take->jZ,length_nil->j3,nodup_cons->kx,length->kC,getElem?_map->kD,cons_append->kF,mem_filter->kZ,mem_cons_of_mem->k6,length_drop->k9,foldl_cons->k_,lookup_cons->lc,eq_nil_of_length_eq_zero->lf,mem_cons_self->lI,take_append_drop->my,length_eq_zero_iff->oh,replicate_succ->o_,length_singleton->pc,drop_zero->pe,mem_reverse->pq,length_erase_of_mem->pt,dropLast->pA,filterMap_cons->qA,mem_append_left->qB,getElem?_append_right->qF,any_cons->qJ,all_eq_true->qN,all_cons->tq,flatten_cons->tt,range_succ->tD,map_append->tE,getElem?_eq_none->tN,any_eq_true->tT,mem_range->vy,map_nil->vH,drop_append_of_le_length->vL,range_succ_eq_map->vM,ext_getElem?->vP,flatMap_cons->vU,take_append_of_le_length->vV,mem_of_getElem?->y3,length_range->zd,drop_eq_getElem_cons->zr,getElem_of_mem->zu,lt_irrefl->zv,range'->zw,drop_of_length_le->zx,filter_eq_self->zy,of_mem_zip->Ci,lookup->Cv,all_map->Cw,getElem_mem->Cz,nodup_append->CB,getElem?_drop->CD,take_zero->CF,length_dropLast->CN,getElem_drop->CO,getElem_take->CP,singleton_append->CQ,drop_eq_nil_iff->CS,reverse_perm->CT,take_length->CU,length_reverse->CW,filter_append->C4,mem_flatMap->C5,filter_map->C6,exists_mem_of_ne_nil->C_,any_eq_false->Is,lookup_append->IH,drop_succ_cons->II,getElem?_range->IJ,toList_toArray->IL,findIdx?_eq_some_iff_getElem->IM,pairwise_append->I_,reverse_append->Ja,pairwise_reverse->Jb,getElem?_take->Jc,ext_getElem->Je,map_eq_nil_iff->Jg,length_filter_le->Jh,flatMap_nil->Ji,filter_cons->Jj,isEmpty_nil->Jk,find?_eq_none->Jm,flatMap_append->Jn,dropLast_eq_take->Jo,perm_cons_erase->Jp,drop_append->Jq,filter_append_perm->Js,perm_append_comm->TU,take_succ_eq_append_getElem->TV,count_eq_zero_of_not_mem->TX,Perm->TY
open Option.some renaming inj->dQ
open Ne renaming symm->dY
open PySem.Str renaming empty->eV,length->mv,ofString->vD
open False renaming elim->im
open PySem.Obj renaming mapSeq->io,mapFields->n9,data_mapFields->vQ,isFreed_of_fields->CH
open Array renaming toList_append->iV,length_toList->nU,getElem_extract->og,getElem?_eq_some_iff->qM,toList_push->vN,getElem?_eq_getElem->zm,getElem?_toList->zp,perm_iff_toList_perm->Jd
open PyProof.Rows.KeyOrd renaming kle_of_klt->lN,kle_refl->mD,kle_trans->vR
open PySem.Builtin.Tuple renaming tupleHashOf->ml,tupleExact->Cn
open PySem.PassesOwn renaming never->mF
open PySem.Value renaming isStrOf->nL
open Int renaming toNat_natCast->o7,ediv_one->Cm,emod_lt_of_pos->Jl
open Function renaming comp->pr
open PySem.Heap.SameBut renaming update->qO
open PySem.Around renaming under_plainId->qP
open Iff renaming rfl->qR
open PySem.Calls renaming spliced_cons->s_,spliced_nil->y0,callWith_builtin->Cq,evalArgs_plain->Cr,Name_function_global->Io
open List.Perm renaming refl->tF,append_left->zj
open PySem.SetTable renaming grown->tJ,below->TQ
open PySem.F renaming plain_min_loop->tR,plainAttrs_list->CG,slot_tuple_add->Iy,entry_tuple_add->Iz,args_tuple_add_2->IA,slot_dict_get->IF,plainAttrs_dict->IG,slot_dict_values->IZ,entry_min_loop->Jf,slot_str_getitem->TM,slot_tuple_hash->TW
open PySem.SeqAt renaming EqAt->vG
open PySem.Paired renaming snoc->y8,length->Cc
open PySem.Builtin.Range renaming rangeSize->Ch
open PySem.Builtin.Slice renaming slicePlaces->Ck,sliceAdjust->IB
open Nat.succ renaming inj->CL
open List.cons renaming injEq->C9
open PySem.Builtin.Str renaming occurrences->Ir,strSliceIndices->IK
open PySem.SeqAt.EqAt renaming str_str->ID
open PySem.Builtin.List renaming listTooLong->IE
open PyProof.Rows.F renaming plain_set_update_loop->IN,entry_set_update_loop->TN
open PySem.SetTable.below renaming go->IR
open Classical renaming byContradiction->Jr
open Std.Legacy renaming Range->UK
open PySem PySem.Spec PyProof.Rows
namespace L2
abbrev aD:=Sum Int Str
def sB:aD->ai->Bool
 |.inl k,v=>Value.isInt k v
 |.inr x,v=>nL x v
def Te(w:aE):aD->Int
 |.inl k=>hashInt k
 |.inr x=>mj w x
theorem nE:∀{k:aD}{v:ai},sB k v=ah->(∃i t,k=Sum.inl i/\v=Value.int i t)\/(∃x t,k=Sum.inr x/\v=Value.str x t)
 |.inl i,v,h=>by obtain⟨t,e⟩:=Value.isInt_shape (k:=i) (v:=v) h;exact .inl ⟨i,t,rfl,e⟩
 |.inr x,v,h=>by obtain⟨t,e⟩:=Value.isStrOf_shape (x:=x) (v:=v) h;exact .inr ⟨x,t,rfl,e⟩
theorem KH(i:Int)(t:Tok):sB (.inl i) (.int i t)=ah:=by simp[sB,Value.isInt]
theorem Qu(x:Str)(t:Tok):sB (.inr x) (.str x t)=ah:=by simp[sB,nL]
theorem Sf(a b:Int):decide ((Sum.inl a:aD)=Sum.inl b)=(a == b):=by
 by_cases e:a=b
 .subst e;simp
 .have h:¬(Sum.inl a:aD)=Sum.inl b:=λq=>e (Sum.inl.inj q);rw[decide_eq_false h];exact(beq_eq_false_iff_ne.mpr e).symm
theorem SA(a b:Str):decide ((Sum.inr a:aD)=Sum.inr b)=decide (a=b):=by
 by_cases e:a=b
 .subst e;simp
 .have h:¬(Sum.inr a:aD)=Sum.inr b:=λq=>e (Sum.inr.inj q);rw[decide_eq_false h,decide_eq_false e]
theorem L5(a:Int)(b:Str):decide ((Sum.inl a:aD)=Sum.inr b)=aj:=decide_eq_false (λq=>nomatch q)
theorem Mp(a:Str)(b:Int):decide ((Sum.inr a:aD)=Sum.inl b)=aj:=decide_eq_false (λq=>nomatch q)
def gK(c:aQ)(w:aE):PySem.KeyKind c w aD where
 is:=sB
 hash:=Te w
 inj:=λv a b l f=>by
  rcases nE l with⟨i,t,rfl,rfl⟩|⟨x,t,rfl,rfl⟩
  .rcases nE f with⟨j,u,rfl,e⟩|⟨y,u,rfl,e⟩
   .injection e with e1 _;rw[e1]
   .exact nomatch e
  .rcases nE f with⟨j,u,rfl,e⟩|⟨y,u,rfl,e⟩
   .exact nomatch e
   .injection e with e1 _;rw[e1]
 byValue:=λk v h=>by rcases nE h with⟨i,t,rfl,rfl⟩|⟨x,t,rfl,rfl⟩ <;> rfl
 pyHash:=λd h=>by
  rcases nE d with⟨i,t,rfl,rfl⟩|⟨x,t,rfl,rfl⟩
  .exact wpAny_pyHash_int h
  .exact wpAny_pyHash_str h
 eqBool:=λg d h=>by
  rcases nE g with⟨i,t,rfl,rfl⟩|⟨x,t,rfl,rfl⟩
  .rcases nE d with⟨j,u,rfl,rfl⟩|⟨y,u,rfl,rfl⟩
   .rw[Sf]at h;exact wpAny_eqBool_int h
   .rw[L5]at h;exact SeqAt.EqAt.int_str i t y u _ _ _ _ h
  .rcases nE d with⟨j,u,rfl,rfl⟩|⟨y,u,rfl,rfl⟩
   .rw[Mp]at h;exact SeqAt.EqAt.str_int x t j u _ _ _ _ h
   .rw[SA]at h;exact wpAny_eqBool_str h
 «strs»:=λk x t v h=>by
  rcases nE h with⟨i,u,rfl,e⟩|⟨y,u,rfl,e⟩
  .exact nomatch e
  .injection e with e1 _;subst e1;cases v <;> rfl
theorem J5(a:aQ)(w:aE)(i:Int)(t:Tok):(gK a w).is (.inl i) (.int i t)=ah:=KH i t
theorem Mq(a:aQ)(w:aE)(x:Str)(t:Tok):(gK a w).is (.inr x) (.str x t)=ah:=Qu x t
inductive V where
 |non|bl (b:Bool)|int (i:Int)|str (x:Str)|byt (b:Array UInt8)|flt (b:UInt64)|ref (a:ag)|ty (n:String)
 deriving DecidableEq
def RelV:V->ai->Prop
 |.non,u=>u=Value.none
 |.bl b,u=>u=Value.bool b
 |.int i,u=>∃t,u=Value.int i t
 |.str x,u=>∃t,u=Value.str x t
 |.byt b,u=>∃t,u=Value.bytes b t
 |.flt b,u=>∃t,u=Value.float b t
 |.ref a,u=>u=Value.ref a
 |.ty n,u=>u=Value.type n
abbrev bv:List V->List ai->Prop:=ku RelV
theorem bv.length{xs:List V}{a:List ai}(r:bv xs a):xs.length=a.length:=Cc r
theorem bv.get:∀{xs:List V}{a:List ai}{i:Nat}{x:V},bv xs a->xs[i]?=aa x->∃u,a[i]?=aa u/\RelV x u
 |_,_,_,_,.nil,e=>by simp at e
 |_,_,0,_,.cons r _,e=>by simp at e;subst e;exact⟨_,rfl,r⟩
 |_,_,i+1,x,.cons _ t,e=>by obtain⟨u,c,b⟩:=bv.get (i:=i) (x:=x) t (by simpa using e);exact⟨u,by simpa using c,b⟩
theorem bv.set{x:V}{u:ai}(r:RelV x u):∀{xs:List V}{a:List ai} (i:Nat),bv xs a->bv (xs.set i x) (a.set i u)
 |_,_,_,.nil=>.nil
 |_,_,0,.cons _ t=>.cons r t
 |_,_,i+1,.cons q t=>.cons q (bv.set r i t)
theorem bv.append{xs a:List V}{c b:List ai}(r:bv xs c)(s:bv a b):bv (xs++a) (c++b):=by
 unfold bv at r s ⊢
 induction r with
 |nil=>exact s
 |cons r _ g=>exact .cons r g
theorem bv.take:∀{xs:List V}{a:List ai} (n:Nat),bv xs a->bv (xs.take n) (a.take n)
 |_,_,0,_=>.nil
 |_,_,_+1,.nil=>.nil
 |_,_,n+1,.cons r t=>.cons r (bv.take n t)
theorem bv.drop:∀{xs:List V}{a:List ai} (n:Nat),bv xs a->bv (xs.drop n) (a.drop n)
 |_,_,0,r=>r
 |_,_,_+1,.nil=>.nil
 |_,_,n+1,.cons _ t=>bv.drop n t
def nK:Option V->Option ai->Prop
 |some v,aa u=>RelV v u
 |none,ae=>True
 |_,_=>False
def KV{a:Type}:List (a×V)->List (a×ai)->Prop:=ku λ(p:a×V) (q:a×ai)=>p.1=q.1/\RelV p.2 q.2
def kV:aD->V
 |.inl i=>.int i
 |.inr x=>.str x
inductive HO where
 |lst (xs:List V)
 |tup (xs:List V)
 |dK (kvs:List (aD×V))|dT (kvs:List (List aD×V))|dN (kvs:List ((Str×List Str)×V))
 |set (S:Int->Bool) (n:Nat)
 |ins (C dx:ag) (fs:List (Str×V))
 |own (x:ag)
 |xd (fs:List (Str×V))
 |met (f x:ag)
 |rng (lo hi:Int)
 |frz (o:Obj) (u:HO)
 |tbl (q:Str)
 |ext (φ:aB->Prop)
abbrev Hp:=ag->Option HO
def upd(H:Hp)(a:ag)(o:HO):Hp:=λb=>if b=a then aa o else H b
theorem upd_same{H:Hp}{a:ag}{o:HO}:upd H a o a=aa o:=by unfold upd;rw[if_pos rfl]
theorem bj{H:Hp}{a b:ag}{o:HO}(h:b≠a):upd H a o b=H b:=by unfold upd;rw[if_neg h]
theorem DU{H:Hp}{a b:ag}{o u:HO}(h:H a=aa o)(c:H b=aa u)(d:o≠u):a≠b:=by intro e;subst e;rw[h]at c;exact d (dQ c)
theorem l8{H:Hp}{a b:ag}{o:HO}(h:H a=aa o)(c:H b=ae):a≠b:=by
 intro e;subst e;rw[h]at c;cases c
def Ii(h:aB)(a:ag)(b:Array ai):Prop:=IsTup h a b/\∃o,h.get? a=aa o/\o.dict=ae
theorem Ii.new(h:aB)(its:Array ai):Ii (h.push {cls:=.type "tuple",data:=.seq its}) h.objs.size its:=⟨IsTup.new _ _,_,cy _ rfl,rfl⟩
section
variable(P:aQ)(w:aE)
def Ev(k:Str×List Str):Int:=sY (ml [mj w k.1,sY (ml (k.2.map (mj w)))])
def pU(H:Hp)(k:Str×List Str)(a:ag):Prop:=∃b,H a=aa (.tup [.str k.1,.ref b])/\H b=aa (.tup (k.2.map .str))
def cq(H:Hp)(h:aB)(a:ag):HO->Prop
 |.lst xs=>xs.length<=a_/\∃(d:List ai) (n:Nat),bv xs d/\h.get? a=aa {cls:=.type "list",data:=.seq d.toArray n}
 |.tup xs=>xs.length<=a_/\∃d:List ai,bv xs d/\Ii h a d.toArray
 |.dK b=>b.length<=a_/\(a == jY)=aj/\∃z,KV b z/\h.DictOf (gK P w) a z
 |.dT b=>b.length<=a_/\(a == jY)=aj/\∃xs:List (List aD×ag×ai),
   ku (λ(p:List aD×V) (q:List aD×ag×ai)=>p.1=q.1/\H q.2.1=aa (.tup (p.1.map kV))/\RelV p.2 q.2.2) b xs /\
   ∃o i s,h.get? a=aa o/\o.ExactDict/\o.data=.dict i s/\i.toList=xs.map (entryOfKey (vt (gK P w)))/\(xs.map (·.1)).Nodup
 |.dN b=>b.length<=a_/\(a == jY)=aj/\∃xs:List ((Str×List Str)×ag×ai),
   ku (λ(p:(Str×List Str)×V) (q:(Str×List Str)×ag×ai)=>p.1=q.1/\pU H p.1 q.2.1/\RelV p.2 q.2.2) b xs /\
   ∃o i s,h.get? a=aa o/\o.ExactDict/\o.data=.dict i s/\i.toList=xs.map (λx=>⟨Ev w x.1,.ref x.2.1,x.2.2⟩)/\(xs.map (·.1)).Nodup
 |.set S n=>h.SetOf (intKind P w) a S n
 |.ins C j fs=>H j=aa (.own a)/\fs.length<=1000/\j≠a/\h.get? a=aa (PySem.W.instObj C j) /\
   ∃g,h.Ns1 j g/\(∀f,nK (fs.lookup f) (g f))/\PySem.Within g (fs.map (·.1))
 |.own _=>∃o,h.get? a=aa o
 |.xd fs=>∃g,h.Ns1 a g/\∀f,nK (fs.lookup f) (g f)
 |.rng D E=>∃t u v,h.get? a=aa {cls:=.type "range",data:=.fields #[.int D t,.int E u,.int 1 v]}
 |.frz o u=>h.get? a=aa o/\cq H h a u
 |.tbl q=>∃m:Array ai,h.get? a=aa {cls:=.none,data:=.fields m}/\TriplesOk m.toList/\∀r y,vx r m.toList=aa y->∃c,y=.ref c/\H c=aa (.own a)/\h.CodeRec y q
 |.met f x=>h.get? a=aa (Il (.ref f) (.ref x))
 |.ext l=>l h/\(∃o,h.get? a=aa o)/\∀B A:aB,l B->(∀o,B.get? a=aa o->A.get? a=aa o)->l A
def dj(H:Hp)(h:aB):Prop:=∀a o,H a=aa o->cq P w H h a o
end
section
variable{P:aQ}{w:aE}{H i:Hp}{h h':aB}{a:ag}{o:HO}
theorem cq.lt(x:cq P w H h a o):a<h.objs.size:=by
 cases o with
 |lst xs=>obtain⟨_,_,_,_,e⟩:=x;exact bK e
 |tup xs=>obtain⟨_,_,_,p,_⟩:=x;exact p.lt
 |dK b=>obtain⟨_,_,_,_,o,_,_,e,_⟩:=x;exact bK e
 |dT b=>obtain⟨_,_,_,_,o,_,_,e,_⟩:=x;exact bK e
 |dN b=>obtain⟨_,_,_,_,o,_,_,e,_⟩:=x;exact bK e
 |set S n=>obtain⟨o,_,_,_,e,_⟩:=x;exact bK e
 |ins C l fs=>obtain⟨_,_,_,e,_⟩:=x;exact bK e
 |own y=>obtain⟨_,e⟩:=x;exact bK e
 |xd fs=>obtain⟨_,⟨_,_,_,e,_⟩,_⟩:=x;exact bK e
 |rng g j=>obtain⟨_,_,_,e⟩:=x;exact bK e
 |frz d u=>obtain⟨e,_⟩:=x;exact bK e
 |tbl q=>obtain⟨_,e,_⟩:=x;exact bK e
 |met f y=>exact bK (show h.get? a=aa _ from x)
 |ext c=>obtain⟨_,⟨_,e⟩,_⟩:=x;exact bK e
theorem Paired.mapP{l j:Type}{F G:l->j->Prop}{d:List l}{c:List j}(r:ku F d c)(f:∀a b,F a b->G a b):ku G d c:=by
 induction r with
 |nil=>exact .nil
 |cons r _ g=>exact .cons (f _ _ r) g
theorem cq.stay(x:cq P w H h a o)(k:∀b u,(b=a\/H b=aa (.own a))->h.get? b=aa u->h'.get? b=aa u)(L:∀b,H b=aa (.own a)->i b=aa (.own a)) (J:∀b xs,H b=aa (.tup xs)->i b=aa (.tup xs)):cq P w i h' a o:=by
 induction o with
 |lst xs=>obtain⟨z,s,n,r,e⟩:=x;exact⟨z,s,n,r,k _ _ (.inl rfl) e⟩
 |tup xs=>obtain⟨z,s,r,⟨j,e,c⟩,Q,B,M⟩:=x;exact⟨z,s,r,⟨j,k _ _ (.inl rfl) e,c⟩,Q,k _ _ (.inl rfl) B,M⟩
 |dK A=>obtain⟨z,y,E,r,j,l,m,e,c⟩:=x;exact⟨z,y,E,r,j,l,m,k _ _ (.inl rfl) e,c⟩
 |dT A=>obtain⟨z,y,xs,r,j,l,m,e,c⟩:=x;exact⟨z,y,xs,Paired.mapP r λp q z=>⟨z.1,J _ _ z.2.1,z.2.2⟩,j,l,m,k _ _ (.inl rfl) e,c⟩
 |dN A=>obtain⟨z,y,xs,r,j,l,m,e,c⟩:=x;exact⟨z,y,xs,Paired.mapP r λp q z=>⟨z.1,(let ⟨b,D,h2⟩:=z.2.1;⟨b,J _ _ D,J _ _ h2⟩),z.2.2⟩,j,l,m,k _ _ (.inl rfl) e,c⟩
 |set S n=>obtain⟨j,l,m,t,e,c⟩:=x;exact⟨j,l,m,t,k _ _ (.inl rfl) e,c⟩
 |ins C dx fs=>obtain⟨d,z,T,e,I,⟨G,l,m,B,c⟩,r⟩:=x;exact⟨L _ d,z,T,k _ _ (.inl rfl) e,I,⟨G,l,m,k _ _ (.inr d) B,c⟩,r⟩
 |own y=>obtain⟨j,e⟩:=x;exact⟨j,k _ _ (.inl rfl) e⟩
 |xd fs=>obtain⟨I,⟨G,l,m,e,c⟩,r⟩:=x;exact⟨I,⟨G,l,m,k _ _ (.inl rfl) e,c⟩,r⟩
 |rng lo hi=>obtain⟨t,u,v,e⟩:=x;exact⟨t,u,v,k _ _ (.inl rfl) e⟩
 |frz j u W=>obtain⟨e,q⟩:=x;exact⟨k _ _ (.inl rfl) e,W q⟩
 |tbl q=>
  obtain⟨O,e,t,g⟩:=x;refine⟨O,k a _ (.inl rfl) e,t,λF Z X=>?_⟩;obtain⟨c,rfl,D,M,o,E,N,B,Y,r⟩:=g F Z X;cases B;exact⟨c,rfl,L c D,c,o,E,N,rfl,k c _ (.inr D) Y,r⟩
 |met f y=>have e:h.get? a=aa (Il (.ref f) (.ref y)):=x;show h'.get? a=aa (Il (.ref f) (.ref y));exact k a _ (.inl rfl) e
 |ext φ=>obtain⟨p,⟨o,e⟩,K⟩:=x;exact⟨K _ _ p λo q=>k _ _ (.inl rfl) q,⟨o,k _ _ (.inl rfl) e⟩,K⟩
theorem dj.lt(x:dj P w H h)(e:H a=aa o):a<h.objs.size:=(x a o e).lt
theorem dj.fresh(x:dj P w H h)(e:h.objs.size<=a):H a=ae:=by
 cases q:H a with
 |none=>rfl
 |some u=>exact absurd (fU (x.lt q) e) (fA _)
theorem dj.kept(x:dj P w H h)(k:∀b u,h.get? b=aa u->h'.get? b=aa u):dj P w H h':=λa o e=>(x a o e).stay (λb u _ q=>k b u q) (λ_ q=>q) λ_ _ q=>q
theorem dj.laid(x:dj P w H h)(k:∀b u,h.get? b=aa u->h'.get? b=aa u)(g:h.objs.size<=a)(new:cq P w (upd H a o) h' a o):dj P w (upd H a o) h':=λb u e=>by
 have d:=x.fresh g;by_cases f:b=a
 .subst f;rw[upd_same]at e;cases e;exact new
 .rw[bj f]at e;exact(x b u e).stay (λc v _ q=>k c v q) (λc q=>by rw[bj (l8 q d)];exact q) λc xs q=>by rw[bj (l8 q d)];exact q
end
def Rd(H:Hp)(a:ag)(u:HO):Prop:=H a=aa u\/∃o,H a=aa (.frz o u)
theorem Rd.ok{P:aQ}{w:aE}{H:Hp}{h:aB}{a:ag}{u:HO}(r:Rd H a u)(x:dj P w H h):cq P w H h a u:=by
 rcases r with r|⟨o,r⟩
 .exact x a u r
 .obtain⟨_,q⟩:=x a _ r;exact q
def uA:Option HO->Prop
 |some (.lst _)=>True
 |some (.dK _)=>True
 |some (.dT _)=>True
 |some (.dN _)=>True
 |some (.set _ _)=>True
 |some (.ins _ _ _)=>True
 |some (.ext _)=>True
 |_=>False
section
variable{P:aQ}{w:aE}{H:Hp}{h a:aB}{x e:ag}{d:HO}
theorem dj.write(ok:dj P w H h)(i:uA (H x))(o:e=x\/H e=aa (.own x))(k:∀b u,b≠e->h.get? b=aa u->a.get? b=aa u)(p:∃u,a.get? e=aa u)(new:cq P w (upd H x d) a x d):dj P w (upd H x d) a:=λb u q=>by
 have f:∀c y,H c=aa (.own y)->c≠x:=λc y r z=>by subst z;rw[r]at i;exact i
 have g:∀c xs,H c=aa (.tup xs)->c≠x:=λc xs r z=>by subst z;rw[r]at i;exact i
 by_cases m:b=x
 .subst m;rw[upd_same]at q;cases q;exact new
 .rw[bj m]at q;by_cases j:b=e
  .have n:H b=aa (.own x):=by
    rcases o with z|z
    .exact absurd (j.trans z) m
    .rw[j];exact z
   rw[q]at n;cases n;obtain⟨v,s⟩:=p;exact⟨v,by rw[j];exact s⟩
  .refine(ok b u q).stay (λc v l r=>k c v ?_ r) (λc r=>by rw[bj (f c b r)];exact r) λc xs r=>by rw[bj (g c xs r)];exact r
   rcases l with rfl|l
   .exact j
   .rintro rfl;rcases o with z|z
    .exact f c b l z
    .rw[l]at z;cases z;exact m rfl
end
structure Un(fs ex:List ag)(H H':Hp)(h h':aB):Prop where
 keep:∀b o,h.get? b=aa o->H b=ae->b∉fs->b∉ex->h'.get? b=aa o
 slot:∀b o,h.get? b=aa o->H b=ae->b∈fs->b∉ex->∃sl,h'.get? b=aa {o with slots:=sl}
 free:∀b o,h.get? b=aa o->H b=ae->b∉ex->H' b=ae
 there:∀b o,h.get? b=aa o->b∉ex->∃o',h'.get? b=aa o'
 tups:∀b xs,H b=aa (.tup xs)->H' b=aa (.tup xs)
 frzs:∀b o u,H b=aa (.frz o u)->H' b=aa (.frz o u)
 tbls:∀b q,H b=aa (.tbl q)->H' b=aa (.tbl q)
section
variable{fs d ex f:List ag}{H g j:Hp}{h c i h':aB}{a x e:ag}{o:HO}
theorem Un.any(u:Un fs ex H g h c){b:ag}{l:Obj}(q:h.get? b=aa l)(n:H b=ae)(m:b∉ex):∃r,c.get? b=aa {l with slots:=r}:=by
 by_cases p:b∈fs
 .exact u.slot b l q n p m
 .exact⟨l.slots,u.keep b l q n p m⟩
theorem Un.kept(k:∀b u,h.get? b=aa u->h'.get? b=aa u):Un fs ex H H h h' :=⟨λb l q _ _ _=>k b l q,λb l q _ _ _=>⟨l.slots,k b l q⟩,λ_ _ _ n _=>n,λb l q _=>⟨l,k b l q⟩,λ_ _ q=>q,λ_ _ _ q=>q,λ_ _ q=>q⟩
theorem Un.refl:Un fs ex H H h h:=Un.kept λ_ _ q=>q
theorem Un.laid(k:∀b u,h.get? b=aa u->h'.get? b=aa u)(m:h.objs.size<=a)(l:H a=ae):Un fs ex H (upd H a o) h h' where
 keep:=λb u q _ _ _=>k b u q
 slot:=λb u q _ _ _=>⟨u.slots,k b u q⟩
 free:=λb u q n _=>by rw[bj (cY (fU (bK q) m))];exact n
 there:=λb u q _=>⟨u,k b u q⟩
 tups:=λb xs q=>by rw[bj (l8 q l)];exact q
 frzs:=λb u xs q=>by rw[bj (l8 q l)];exact q
 tbls:=λb p q=>by rw[bj (l8 q l)];exact q
theorem Un.write(l:uA (H x))(y:e=x\/H e=aa (.own x))(k:∀b u,b≠e->h.get? b=aa u->h'.get? b=aa u)(v:∃u,h'.get? e=aa u):Un fs ex H (upd H x o) h h':=by
 have s:∀b,H b=ae->b≠x:=λb n z=>by subst z;rw[n]at l;exact l
 have t:∀b,H b=ae->b≠e:=λb n z=>by
  subst z;rcases y with r|r
  .exact s b n r
  .rw[n]at r;cases r
 have m:∀b u,H b=aa u->¬uA (aa u)->b≠x:=λb u q w z=>by subst z;rw[q]at l;exact w l
 refine⟨λb u q n _ _=>k b u (t b n) q,λb u q n _ _=>⟨u.slots,k b u (t b n) q⟩,λb u q n _=>by rw[bj (s b n)];exact n,λb u q _=>?_,
  λb xs q=>by rw[bj (m b _ q λz=>z)];exact q,λb u xs q=>by rw[bj (m b _ q λz=>z)];exact q,λb A q=>by rw[bj (m b _ q λz=>z)];exact q⟩
 by_cases p:b=e
 .subst p;exact v
 .exact⟨u,k b u p q⟩
end
def yh(h:aB)(H:Hp):List ag:=(cz h.objs.size).filter λa=>(H a).isSome
def ni(h:aB)(H:Hp):aB:=PySem.W.hideAll h (yh h H)
theorem JM(h:aB)(H:Hp):(ni h H).objs.size=h.objs.size:=PySem.W.hideAll_size _ _
theorem NZ{h:aB}{H:Hp}{b:ag}{o:Obj}(e:h.get? b=aa o)(n:H b=ae):(ni h H).get? b=aa o :=PySem.W.hideAll_get _ e λa=>by have q:(H b).isSome=ah:=(kZ.mp a).2;rw[n]at q;simp at q
theorem TF{h:aB}{H:Hp}{b:ag}{o:Obj}(e:(ni h H).get? b=aa o):h.get? b=aa o/\H b=ae:=by
 have a:h.get? b=aa o:=PySem.W.of_hideAll (yh h H) e;refine⟨a,?_⟩;cases q:H b with
 |none=>rfl
 |some x=>
  have c:b∈yh h H:=kZ.mpr ⟨vy.mpr (bK a),by simp[q]⟩;have z:(ni h H).get? b=ae:=PySem.W.hideAll_none (yh h H) c;rw[z]at e;cases e
def P8(g h:aB)(L:ag):List (ag×Obj):=(cz h.objs.size).filterMap λa=>if a=L\/(g.get? a).isSome=ah then ae else(h.get? a).map λo=>(a,o)
def rest(g h:aB)(L d:ag):List (ag×Obj):=(P8 g h L).filter λp=>decide (p.1≠d)
structure Mod(K:ax)(mg:Str->Option ai)(base:aB):Prop where
 kin:K.In base
 glob:base.Ns bQ mg
 blt:∃mb,base.Ns o6 mb/\∀x:Str,x≠"__name__"->mb x=eF x
 nolimit:base.NoLimit
 bm:∃bm ob,mg "__builtins__"=aa (.ref bm)/\bm≠o6/\base.get? bm=aa ob/\ob.cls=.type "module"/\ob.dict=aa o6/\ob.data=.plain
set_option genInjectivity false in
structure Cx where
 prog:aQ
 w:aE
 K:ax
 mg:Str->Option ai
 base:aB
 A:aT
 N:List Str
 s₀:am
 H₀:Hp
 env:Env
 outer:List Env
 stack:List Env
 ex:List ag
 fn:Str->Bool
 calm:Bool
 pn:List (ag×Obj)
 xe:ai->am->Prop
def fM(l:List Env):List ag:=l.filterMap (·.frame)
abbrev Cx.fs(X:Cx):List ag:=fM X.outer
def ef(a:dy)(x:Str):Prop:=a.names.lookup x=aa .local\/a.names.lookup x=aa .cell\/a.names.lookup x=aa .free
def Loc(a:dy)(x:Str):Prop:=a.names.lookup x=aa .local\/a.names.lookup x=aa .cell
def Look(a:Env)(h:aB)(m:Str->Option ai)(x:Str)(u:ai):Prop :=(a.kindOf x=aa .local/\m x=aa u)\/((a.kindOf x=aa .cell\/a.kindOf x=aa .free)/\∃c,a.cells.lookup x=aa c/\h.IsCell c (aa u))
def vj:List Str:=["least_ending"]
def wV(K:ax)(H:Hp):Prop:=∀x∈vj,∀c P,lH K x=aa (c,P)->H P=aa (.tbl (x++".<locals>.<lambda>"))
set_option genInjectivity false in
structure Cx.Ok(X:Cx):Prop where
 mod:Mod X.K X.mg X.base
 kind:X.env.scope.kind=.function
 glob:X.env.globals=bQ
 blt:X.env.builtins=o6
 above:X.s₀.heap.objs.size<=X.env.locals
 inj:∀x y c,X.env.cells.lookup x=aa c->X.env.cells.lookup y=aa c->x=y
 has:∀x,(X.env.kindOf x=aa .cell\/X.env.kindOf x=aa .free)->∃c,X.env.cells.lookup x=aa c
 cab:∀x c,X.fn x=ah->X.env.cells.lookup x=aa c->X.s₀.heap.objs.size<=c
 hd:X.calm=ah->X.A.handled=ae
 frames:X.A.frames=aa X.stack
 stk:X.stack=X.outer\/(X.stack=X.env::X.outer/\X.env.frame=aa X.env.locals)
 exf:∀b∈X.ex,b≠X.env.locals/\∀x c,X.env.cells.lookup x=aa c->c≠b
 bs:∀b o,X.base.get? b=aa o->X.s₀.heap.get? b=aa o/\X.H₀ b=ae
 bsz:X.base.objs.size<=X.s₀.heap.objs.size
 noex:∀b o,X.base.get? b=aa o->b∉X.ex
 exfs:∀b∈X.ex,b∉X.fs
 funs:X.s₀.heap.FunFrames X.base X.outer
 frf:∀b∈X.fs,X.H₀ b=ae
 tab:wV X.K X.H₀
structure Inv(X:Cx)(af:List (ag×Obj))(σ:List (Option V))(H:Hp)(s:am):Prop where
 ok:X.Ok
 os:s.os=X.s₀.os
 bare:nM s.gens
 base:Un X.fs X.ex X.H₀ H X.s₀.heap s.heap
 loc:∃m,s.heap.Ns X.env.locals m/\∀(i:Nat) (x:Str) (v:V),X.N[i]?=aa x->σ[i]?=aa (aa v)->ef X.env.scope x->∃u,RelV v u/\Look X.env s.heap m x u
 cell:∀x c,X.env.cells.lookup x=aa c->∃v,s.heap.IsCell c v
 free:H X.env.locals=ae
 freeC:∀x c,X.env.cells.lookup x=aa c->H c=ae
 pin:∀p∈X.pn++af,s.heap.get? p.1=aa p.2/\H p.1=ae/\p.1≠X.env.locals/\p.1∉X.fs/\∀v,p.2.data≠.cell v
 hok:dj X.prog X.w H s.heap
 len:σ.length=X.N.length
section
variable{X:Cx}{f:List (ag×Obj)}{g:List (Option V)}{H w:Hp}{s:am}{h':aB}
theorem Cx.Ok.nofr(ok:X.Ok){b:ag}{o:Obj}(e:X.base.get? b=aa o):b∉X.fs:=λa=>by
 have:=(ok.funs.mem a).1;rw[e]at this;cases this
theorem Inv.bs(I:Inv X f g H s):∀b o,X.base.get? b=aa o->s.heap.get? b=aa o/\H b=ae:=λb o e=>⟨I.base.keep b o (I.ok.bs b o e).1 (I.ok.bs b o e).2 (I.ok.nofr e) (I.ok.noex b o e),I.base.free b o (I.ok.bs b o e).1 (I.ok.bs b o e).2 (I.ok.noex b o e)⟩
theorem Inv.bk(I:Inv X f g H s):∀b o,X.base.get? b=aa o->s.heap.get? b=aa o:=λb o e=>(I.bs b o e).1
theorem Inv.mod(I:Inv X f g H s):Mod X.K X.mg X.base:=I.ok.mod
theorem Inv.kIn(I:Inv X f g H s):X.K.In s.heap:=I.ok.mod.kin.keeps I.bk
theorem Inv.lt(I:Inv X f g H s):X.env.locals<s.heap.objs.size:=let ⟨_,hn,_⟩:=I.loc;hn.lt
theorem Inv.sz(I:Inv X f g H s):X.s₀.heap.objs.size<=s.heap.objs.size:=cQ I.ok.above (mn I.lt)
theorem Inv.nofs(I:Inv X f g H s){a:ag}(h:s.heap.objs.size<=a):a∉X.fs:=λc=>by obtain⟨_,o,b,_⟩:=I.ok.funs.mem c;exact absurd (fU (bK b) (cQ I.sz h)) (fA _)
theorem Inv.cne(I:Inv X f g H s):∀x c,X.env.cells.lookup x=aa c->c≠X.env.locals:=λx c e z=>by
 obtain⟨v,o,b,d⟩:=I.cell x c e;obtain⟨m,⟨i,j,l,h,a,_⟩,_⟩:=I.loc;rw[z,h]at b;cases b;rw[a]at d;cases d
theorem Inv.tab(I:Inv X f g H s):wV X.K H:=λx a c P h=>I.base.tbls P _ (I.ok.tab x a c P h)
theorem Inv.funs(I:Inv X f g H s):s.heap.FunFrames X.base X.outer:=by
 have all:∀(l:List Env),(∀b∈fM l,b∈X.fs)->X.s₀.heap.FunFrames X.base l->s.heap.FunFrames X.base l:=by
  intro l
  induction l with
  |nil=>intro _ _;trivial
  |cons u r i=>intro h p;obtain⟨q,⟨L,o,a,n,m,t⟩,j⟩:=p;have d:L∈X.fs:=h L (by unfold fM;rw[qA,a];exact lI);obtain⟨v,e⟩:=I.base.slot L o m (I.ok.frf L d) d λz=>I.ok.exfs L z d;exact⟨q,⟨L,_,a,n,e,t⟩,i (λb c=>h b (by unfold fM;rw[qA,a];exact k6 _ c)) j⟩
 exact all X.outer (λ_ c=>c) I.ok.funs
theorem Inv.stack(I:Inv X f g H s):s.heap.FunFrames X.base X.stack:=by
 rcases I.ok.stk with e|⟨e,b⟩
 .rw[e];exact I.funs
 .rw[e];obtain⟨m,a,_⟩:=I.loc;refine .cons (by rw[I.ok.kind];decide) b a ?_ I.funs;exact vz (cQ I.ok.bsz I.ok.above)
theorem Inv.stkSub(I:Inv X f g H s):∀b∈fM X.stack,b∈X.env.locals::X.fs:=λb a=>by
 rcases I.ok.stk with e|⟨e,c⟩
 .rw[e]at a;exact k6 _ a
 .rw[e]at a;unfold fM at a;rw[qA,c]at a;exact a
theorem Inv.stkFree(I:Inv X f g H s):∀b∈fM X.stack,H b=ae:=λb a=>by
 rcases bE.mp (I.stkSub b a)with e|a
 .rw[e];exact I.free
 .obtain⟨_,o,c,_⟩:=I.ok.funs.mem a;exact I.base.free b o c (I.ok.frf b a) λz=>I.ok.exfs b z a
theorem Inv.step{g':Array GenState}{t':Nat}{d':Drawn}{ch:List ag}(I:Inv X f g H s)(K:∀b∈ch,(b∈X.ex\/X.s₀.heap.objs.size<=b)/\b≠X.env.locals/\(∀x c,X.env.cells.lookup x=aa c->c≠b)/\∀p∈X.pn++f,p.1≠b)(keep:∀b o,b≠X.env.locals->b∉X.fs->b∉ch->s.heap.get? b=aa o->H b=ae->h'.get? b=aa o)(y:∀b o,b≠X.env.locals->b∈X.fs->b∉ch->s.heap.get? b=aa o->H b=ae->∃N,h'.get? b=aa {o with slots:=N}) (free:∀b o,b∉ch->s.heap.get? b=aa o->H b=ae->w b=ae)(A:∀b o,b∉ch->s.heap.get? b=aa o->∃G,h'.get? b=aa G)(E:∀b xs,H b=aa (.tup xs)->w b=aa (.tup xs)) (L:∀b o u,H b=aa (.frz o u)->w b=aa (.frz o u)) (F:∀b q,H b=aa (.tbl q)->w b=aa (.tbl q))(ns:∀m,s.heap.Ns X.env.locals m->h'.Ns X.env.locals m) (O:dj X.prog X.w w h') (hg:nM g'):Inv X f g w {s with heap:=h',gens:=g',drawn:=d',toks:=t'}:=by
 have J:∀b o,X.s₀.heap.get? b=aa o->b≠X.env.locals:=λb o e=>cY (fU (bK e) I.ok.above);have t:∀b o,X.s₀.heap.get? b=aa o->b∉X.ex->b∉ch:=λb o e a B=>by
  rcases(K b B).1 with z|z
  .exact a z
  .exact absurd (fU (bK e) z) (fA _)
 have j:∀x c,X.env.cells.lookup x=aa c->∀v,s.heap.IsCell c v->h'.IsCell c v:=λx c e v ⟨o,D,P⟩=>by
  have h:c∉ch:=λz=>(K c z).2.2.1 x c e rfl;by_cases Y:c∈X.fs
  .obtain⟨N,q⟩:=y c o (I.cne x c e) Y h D (I.freeC x c e);exact⟨_,q,P⟩
  .exact⟨o,keep c o (I.cne x c e) Y h D (I.freeC x c e),P⟩
 refine⟨I.ok,I.os,hg,⟨λb o e n B a=>?_,λb o e n B a=>?_,λb o e n a=>?_,λb o e a=>?_,λb xs e=>E b xs (I.base.tups b xs e),λb o xs e=>L b o xs (I.base.frzs b o xs e),λb Z e=>?_⟩,?_,λx c e=>?_,?_,λx c e=>?_,λp W=>?_,O,I.len⟩
 .exact keep b o (J b o e) B (t b o e a) (I.base.keep b o e n B a) (I.base.free b o e n a)
 .obtain⟨N,C⟩:=I.base.slot b o e n B a;obtain⟨M,Q⟩:=y b _ (J b o e) B (t b o e a) C (I.base.free b o e n a);exact⟨M,Q⟩
 .obtain⟨G,C⟩:=I.base.there b o e a;exact free b G (t b o e a) C (I.base.free b o e n a)
 .obtain⟨G,C⟩:=I.base.there b o e a;exact A b G (t b o e a) C
 .exact F b _ (I.base.tbls b Z e)
 .obtain⟨m,hn,hl⟩:=I.loc;refine⟨m,ns m hn,λi x v C Q e3=>?_⟩;obtain⟨u,r,l⟩:=hl i x v C Q e3;refine⟨u,r,?_⟩;rcases l with l|⟨k,c,e,z⟩
  .exact .inl l
  .exact .inr ⟨k,c,e,j x c e _ z⟩
 .obtain⟨v,z⟩:=I.cell x c e;exact⟨v,j x c e v z⟩
 .obtain⟨m,⟨o,_,_,D,_⟩,_⟩:=I.loc;exact free _ o (λz=>(K _ z).2.1 rfl) D I.free
 .obtain⟨v,o,D,P⟩:=I.cell x c e;exact free c o (λz=>(K c z).2.2.1 x c e rfl) D (I.freeC x c e)
 .obtain⟨e,n,T,S,d⟩:=I.pin p W;have h:p.1∉ch:=λz=>(K p.1 z).2.2.2 p W rfl;exact⟨keep p.1 p.2 T S h e n,free p.1 p.2 h e n,T,S,d⟩
theorem Inv.un{t':Nat}(I:Inv X f g H s)(u:Un X.fs [] H w s.heap h')(a:dj X.prog X.w w h'):Inv X f g w {s with heap:=h',toks:=t'}:=by
 obtain⟨m,⟨o,y,A,j,r⟩,_⟩:=id I.loc;obtain⟨t,q⟩:=u.any j I.free (by simp);exact I.step (g':=s.gens) (d':=s.drawn) (ch:=[]) (λ_ z=>nomatch z) (λb o _ c _ e n=>u.keep b o e n c (by simp)) (λb o _ c _ e n=>u.slot b o e n c (by simp)) (λb o _ e n=>u.free b o e n (by simp)) (λb o _ e=>u.there b o e (by simp)) u.tups u.frzs u.tbls (λx p=>by
  obtain⟨v,d,h,i,l⟩:=p;rw[j]at i;cases i;exact⟨_,d,h,q,l⟩) a I.bare
theorem Inv.call{g':Array GenState}{t':Nat}{d':Drawn}{ch:List ag}(I:Inv X f g H s)(u:Un (fM X.stack) ch H w s.heap h')(d:dj X.prog X.w w h')(A:nM g')(l:∀b∈ch,(b∈X.ex\/X.s₀.heap.objs.size<=b)/\b≠X.env.locals/\(∀x c,X.env.cells.lookup x=aa c->c≠b)/\∀p∈X.pn++f,p.1≠b):Inv X f g w {s with heap:=h',gens:=g',drawn:=d',toks:=t'}:=by
 obtain⟨m,⟨o,F,G,t,r⟩,_⟩:=id I.loc;obtain⟨C,h⟩:=u.any t I.free λz=>(l _ z).2.1 rfl;exact I.step (ch:=ch) l (λb o h B a e n=>u.keep b o e n (λz=>(bE.mp (I.stkSub b z)).elim h B) a) (λb o _ _ a e n=>u.any e n a) (λb o a e n=>u.free b o e n a) (λb o a e=>u.there b o e a) u.tups u.frzs u.tbls (λE y=>by
  obtain⟨D,i,j,q,v⟩:=y;rw[t]at q;cases q;exact⟨_,i,j,h,v⟩) d A
theorem Inv.turned{t':Nat}{it:ag}(I:Inv X f g H s)(k:∀b o,b≠it->s.heap.get? b=aa o->h'.get? b=aa o)(j:H it=ae)(h:it≠X.env.locals)(B:it∈X.ex\/X.s₀.heap.objs.size<=it) (A:∀x c,X.env.cells.lookup x=aa c->c≠it) (y:∀p∈X.pn++f,p.1≠it):Inv X f g H {s with heap:=h',toks:=t'}:=by
 have d:∀b u,H b=aa u->b≠it:=λb u e z=>by rw[z,j]at e;cases e
 refine I.step (g':=s.gens) (d':=s.drawn) (ch:=[it]) (λb t=>?_) (λb o _ _ a e _=>k b o (λz=>a (by simp[z])) e) (λb o _ _ a e _=>⟨o.slots,k b o (λz=>a (by simp[z])) e⟩) (λ_ _ _ _ n=>n)
  (λb o a e=>⟨o,k b o (λz=>a (by simp[z])) e⟩) (λ_ _ e=>e) (λ_ _ _ e=>e) (λ_ _ e=>e) (λm l=>?_) (λb u e=>?_) I.bare
 .have e:b=it:=by simpa using t
  subst e;exact⟨B,h,A,y⟩
 .obtain⟨o,C,D,i,r⟩:=l;exact⟨o,C,D,k _ o (dY h) i,r⟩
 .refine(I.hok b u e).stay (λc v a q=>k c v ?_ q) (λ_ q=>q) λ_ _ q=>q;rcases a with z|z
  .rw[z];exact d b u e
  .exact d c _ z
theorem Inv.tok(I:Inv X f g H s)(t:Nat):Inv X f g H {s with toks:=t}:=I.un (h':=s.heap) (t':=t) Un.refl I.hok
theorem Inv.kept{t':Nat}(I:Inv X f g H s)(k:∀b u,s.heap.get? b=aa u->h'.get? b=aa u):Inv X f g H {s with heap:=h',toks:=t'}:=I.un (Un.kept k) (I.hok.kept k)
theorem Inv.laid{a:ag}{o:HO}{t':Nat}(I:Inv X f g H s)(k:∀b u,s.heap.get? b=aa u->h'.get? b=aa u)(c:s.heap.objs.size<=a)(new:cq X.prog X.w (upd H a o) h' a o):Inv X f g (upd H a o) {s with heap:=h',toks:=t'}:=I.un (Un.laid k c (I.hok.fresh c)) (I.hok.laid k c new)
theorem Inv.write{x e:ag}{o:HO}{h:Nat}(I:Inv X f g H s)(c:uA (H x))(d:e=x\/H e=aa (.own x))(k:∀b u,b≠e->s.heap.get? b=aa u->h'.get? b=aa u)(a:∃u,h'.get? e=aa u)(new:cq X.prog X.w (upd H x o) h' x o):Inv X f g (upd H x o) {s with heap:=h',toks:=h}:=I.un (Un.write c d k a) (I.hok.write c d k a new)
theorem Inv.pins_of{a:List (ag×Obj)}(I:Inv X f g H s)(h:∀p∈a,s.heap.get? p.1=aa p.2/\H p.1=ae/\p.1≠X.env.locals/\p.1∉X.fs/\∀v,p.2.data≠.cell v):Inv X a g H s :=⟨I.ok,I.os,I.bare,I.base,I.loc,I.cell,I.free,I.freeC,λp b=>(jm.mp b).elim (λz=>I.pin p (qB _ z)) (h p),I.hok,I.len⟩
theorem z5{N:List Str}(c:N.Nodup){i j:Nat}{x:Str}(a:N[i]?=aa x)(b:N[j]?=aa x):i=j:=by obtain⟨m,h⟩:=dR.mp a;obtain⟨l,d⟩:=dR.mp b;exact(List.getElem_inj c).mp (h.trans d.symm)
theorem G4{M:Model}{A:aT}{E:ai->am->Prop}{i:Nat}{x:Str}{v:V}{u:ai}{Q:Unit->am->Prop}(I:Inv X f g H s)(hN:X.N.Nodup)(P:X.N[i]?=aa x)(D:Loc X.env.scope x)(r:RelV v u)(h:∀s',Inv X f (g.set i (aa v)) H s'->(∃a,k7 a s.heap s'.heap/\(a=X.env.locals\/X.env.cells.lookup x=aa a))->Q () s') (hf:X.fn x=ah\/X.env.scope.names.lookup x=aa .local:=by first|exact .inl rfl|exact .inr rfl|assumption):ar M A (storeName X.env x u) Q E s:=by
 obtain⟨m,hn,hl⟩:=id I.loc;have oj:(X.env.scope.kind == .class||(X.env.scope.kind == .module&&X.env.locals != X.env.globals))=aj:=by rw[I.ok.kind];rfl
 have J:i<g.length:=by rw[I.len];exact(dR.mp P).1
 have cne:=I.cne;have t:∀{a:ag}{h':aB},(∃o,s.heap.get? a=aa o/\H a=ae)->k7 a s.heap h'->dj X.prog X.w H h':=λ{a h'} ha l b ob e=>by
  obtain⟨_,_,vY⟩:=ha;refine(I.hok b ob e).stay (λc T C q=>(l.2 c ?_).trans q) (λ_ q=>q) λ_ _ q=>q;rintro rfl;rcases C with rfl|C
  .rw[vY]at e;cases e
  .rw[vY]at C;cases C
 rcases D with G|G
 .refine wpAny_storeName_local G hn (λh' hn' l=>?_) oj;obtain⟨oL,_,_,tY,_⟩:=id hn;refine h _ ⟨I.ok,I.os,I.bare,⟨λb o e n N D=>?_,λb o e n N D=>?_,I.base.free,λb o e D=>?_,I.base.tups,I.base.frzs,I.base.tbls⟩,⟨_,hn',λj y Z B F e3=>?_⟩,λy c e=>?_,I.free,I.freeC,λp hp=>?_,t ⟨oL,tY,I.free⟩ l,by simpa using I.len⟩ ⟨_,l,.inl rfl⟩
  .exact(l.2 b (cY (fU (bK e) I.ok.above))).trans (I.base.keep b o e n N D)
  .obtain⟨sl,B⟩:=I.base.slot b o e n N D;exact⟨sl,(l.2 b (cY (fU (bK e) I.ok.above))).trans B⟩
  .obtain⟨o',B⟩:=I.base.there b o e D;exact⟨o',(l.2 b (cY (fU (bK e) I.ok.above))).trans B⟩
  .by_cases K:j=i
   .subst K;rw[P]at B;cases B;rw[gB J]at F;cases F;exact⟨u,r,.inl ⟨G,by simp⟩⟩
   .rw[eU (dY K)]at F;obtain⟨u',r',q⟩:=hl j y Z B F e3;refine⟨u',r',?_⟩;rcases q with⟨k,e⟩|⟨k,c,e,z⟩
    .refine .inl ⟨k,?_⟩;have:y≠x:=λe=>K (z5 hN B (e ▸ P));simp[this,e]
    .exact .inr ⟨k,c,e,z.sameBut l (cne y c e)⟩
  .obtain⟨T,z⟩:=I.cell y c e;exact⟨T,z.sameBut l (cne y c e)⟩
  .obtain⟨e,n,W,nf,d⟩:=I.pin p hp;exact⟨(l.2 p.1 W).trans e,n,W,nf,d⟩
 .have L:X.fn x=ah:=by
   rcases hf with z|z
   .exact z
   .rw[z]at G;cases G
  obtain⟨c,C⟩:=I.ok.has x (.inl G);obtain⟨T,z⟩:=I.cell x c C;refine wpAny_storeName_cell I.ok.kind G C z (λh' iZ l=>?_);obtain⟨oc,qU,O⟩:=id z;refine h {s with heap:=h'} ⟨I.ok,I.os,I.bare,⟨λb o e n N D=>?_,λb o e n N D=>?_,I.base.free,λb o e D=>?_,I.base.tups,I.base.frzs,I.base.tbls⟩,⟨m,hn.sameBut l (dY (cne x c C)),λj y Z B F e3=>?_⟩,λy Y e=>?_,I.free,I.freeC,λp hp=>?_,t ⟨oc,qU,I.freeC x c C⟩ l,by simpa using I.len⟩ ⟨c,l,.inr C⟩
  .exact(l.2 b (cY (fU (bK e) (I.ok.cab x c L C)))).trans (I.base.keep b o e n N D)
  .obtain⟨sl,B⟩:=I.base.slot b o e n N D;exact⟨sl,(l.2 b (cY (fU (bK e) (I.ok.cab x c L C)))).trans B⟩
  .obtain⟨o',B⟩:=I.base.there b o e D;exact⟨o',(l.2 b (cY (fU (bK e) (I.ok.cab x c L C)))).trans B⟩
  .by_cases K:j=i
   .subst K;rw[P]at B;cases B;rw[gB J]at F;cases F;exact⟨u,r,.inr ⟨.inl G,c,C,iZ⟩⟩
   .rw[eU (dY K)]at F;obtain⟨u',r',q⟩:=hl j y Z B F e3;refine⟨u',r',?_⟩;rcases q with q|⟨k,Y,e,z'⟩
    .exact .inl q
    .refine .inr ⟨k,Y,e,z'.sameBut l ?_⟩;rintro rfl;exact K (z5 hN B (I.ok.inj _ _ _ e C ▸ P))
  .by_cases S:Y=c
   .subst S;exact⟨_,iZ⟩
   .obtain⟨w2,z2⟩:=I.cell y Y e;exact⟨w2,z2.sameBut l S⟩
  .obtain⟨e,n,W,nf,d⟩:=I.pin p hp;refine⟨(l.2 p.1 ?_).trans e,n,W,nf,d⟩;intro q;rw[q,qU]at e;have q':oc=p.2:=dQ e;exact d T (by rw[<-q'];exact O)
theorem yd{M:Model}{A:aT}{E:ai->am->Prop}{i:Nat}{x:Str}{v:V}{u:ai}{Q:Unit->am->Prop}(I:Inv X f g H s)(d:X.N.Nodup)(b:X.N[i]?=aa x)(a:Loc X.env.scope x)(r:RelV v u)(h:∀s',Inv X f (g.set i (aa v)) H s'->Q () s') (c:X.fn x=ah\/X.env.scope.names.lookup x=aa .local:=by first|exact .inl rfl|exact .inr rfl|assumption):ar M A (storeName X.env x u) Q E s :=G4 I d b a r (λs' j _=>h s' j) c
theorem Inv.call'{s':am}{ch:List ag}(I:Inv X f g H s)(i:s'.os=s.os)(u:Un (fM X.stack) ch H w s.heap s'.heap)(a:dj X.prog X.w w s'.heap)(j:nM s'.gens)(h:∀b∈ch,(b∈X.ex\/X.s₀.heap.objs.size<=b)/\b≠X.env.locals/\(∀x c,X.env.cells.lookup x=aa c->c≠b)/\∀p∈X.pn++f,p.1≠b):Inv X f g w s':=by obtain⟨h',g',d',t',d⟩:=s';have e:d=s.os:=i;subst e;exact I.call (g':=g') (t':=t') (d':=d') u a j h
end
abbrev XK:=ai->Option ag->Hp->Prop
abbrev St:=List (Option V)
abbrev VK:=V->Hp->Prop
abbrev TE:=St->Hp->VK->Prop
abbrev TT:=St->Hp->(Bool->Hp->Prop)->Prop
abbrev TA:=St->Hp->(List V->Hp->Prop)->Prop
structure lu where
 nx:St->Hp->Prop
 rt:VK
 bk:St->Hp->Prop:=λ_ _=>False
 ct:St->Hp->Prop:=λ_ _=>False
abbrev TS:=lu->St->Hp->Prop
def EP(X:Cx)(d:List (ag×Obj))(b:St)(Q:VK)(u:ai)(c:am):Prop:=∃v a,Inv X d b a c/\RelV v u/\Q v a
def TP(X:Cx)(f:List (ag×Obj))(c:St)(Q:Bool->Hp->Prop)(b:Bool)(d:am):Prop:=∃a,Inv X f c a d/\Q b a
def AP(X:Cx)(g:List (ag×Obj))(c:St)(Q:List V->Hp->Prop)(d:List ai)(f:am):Prop:=∃a b,Inv X g c b f/\bv a d/\Q a b
def SP(X:Cx)(c:List (ag×Obj))(D:lu)(f:Flow)(s':am):Prop :=
 match f with
 |.next=>∃a b,Inv X c a b s'/\D.nx a b
 |.brk=>∃a b,Inv X c a b s'/\D.bk a b
 |.cont=>∃a b,Inv X c a b s'/\D.ct a b
 |.ret u=>∃v a b,Inv X c a b s'/\RelV v u/\D.rt v b
def PE(X:Cx)(e:az)(t:TE):Prop :=
 ∀(b:List (ag×Obj)) (s:am) (a:St) (H:Hp) (Q:VK),Inv X b a H s->t a H Q->ar (aw X.prog X.w) X.A (aK e X.env) (EP X b a Q) X.xe s
def PT(X:Cx)(e:az)(t:TT):Prop :=
 ∀(b:List (ag×Obj)) (s:am) (a:St) (H:Hp) (Q:Bool->Hp->Prop),Inv X b a H s->t a H Q->ar (aw X.prog X.w) X.A (nN e X.env (aK e X.env)) (TP X b a Q) X.xe s
def PW(X:Cx)(e:az)(t:TT):Prop :=
 ∀(c:Sem ai) (b:List (ag×Obj)) (s:am) (a:St) (H:Hp) (Q:Bool->Hp->Prop),Inv X b a H s->t a H Q->ar (aw X.prog X.w) X.A (nN e X.env c) (TP X b a Q) X.xe s
def PA(X:Cx)(d:List az)(t:TA):Prop :=
 ∀(b:Pos) (c:List (ag×Obj)) (s:am) (a:St) (H:Hp) (Q:List V->Hp->Prop),Inv X c a H s->t a H Q->ar (aw X.prog X.w) X.A (spliced (cZ b (aM d X.env))) (AP X c a Q) X.xe s
def PS(X:Cx)(c:ba)(t:TS):Prop :=
 ∀(b:List (ag×Obj)) (s:am) (a:St) (H:Hp) (D:lu),Inv X b a H s->t D a H->ar (aw X.prog X.w) X.A (exec c X.env) (SP X b D) X.xe s
def lD(X:Cx)(c:List ba)(t:TS):Prop :=
 ∀(b:List (ag×Obj)) (s:am) (a:St) (H:Hp) (D:lu),Inv X b a H s->t D a H->ar (aw X.prog X.w) X.A (execs c X.env) (SP X b D) X.xe s
theorem aL{b:Type}{t:Sem b}{Q c:b->am->Prop}{M:Model}{A:aT}{E:ai->am->Prop}{s:am}(h:ar M A t Q E s)(d:∀a s,Q a s->c a s):ar M A t c E s:=ez h d λ_ _ x=>x
section
variable{X:Cx}
theorem Sd{a b:az}{n o:TE}(C:PE X a n)(B:PE X b o){l:List (ag×Obj)}{s:am}{c:St}{H:Hp}{R:V->V->Hp->Prop}(I:Inv X l c H s)(h:n c H λx m=>o c m λy d=>R x y d){p:Type}{Q:p->am->Prop}{f:ai->ai->Sem p}(A:∀v u j x y d,Inv X l c d j->RelV x v->RelV y u->R x y d->ar (aw X.prog X.w) X.A (f v u) Q X.xe j):ar (aw X.prog X.w) X.A (aK a X.env) (λv i=>ar (aw X.prog X.w) X.A (aK b X.env) (λu g=>ar (aw X.prog X.w) X.A (f v u) Q X.xe g) X.xe i) X.xe s:=by refine aL (C l s c H _ I h) λv q ⟨x,m,E,t,z⟩=>?_;refine aL (B l q c m _ E z) λu j ζ=>?_;obtain⟨y,d,D,r,w⟩:=ζ;exact A v u j x y d D t r w
def yI(i:Nat):TE:=λa H Q=>∃v,a[i]?=aa (aa v)/\Q v H
def tC(v:V):TE:=λ_ H Q=>Q v H
theorem fj{i:Nat}{x:Str}{g:Pos}(p:X.N[i]?=aa x)(j:ef X.env.scope x)(d:(x==("__debug__":Str))=aj:=by decide)(q:(x==("__classdict__":Str))=aj:=by decide):PE X (.Name x g) (yI i):=by
 intro t s f H Q I h;obtain⟨v,e,h⟩:=h;obtain⟨m,n,o⟩:=I.loc;obtain⟨u,r,l⟩:=o i x v p e j;have b:EP X t f Q u s:=⟨v,H,I,r,h⟩
 rcases l with⟨a,hm⟩|⟨a,c,hc,zz⟩
 .exact yY (Im I.ok.kind a n hm b) d
 .rcases a with a|a
  .exact yY (wpAny_loadName_cell I.ok.kind a hc zz b) d
  .exact yY (wpAny_loadName_free I.ok.kind a hc zz b q) d
theorem HE{i j g}:PE X (.Constant (.int i) j g) (tC (.int i)):=λ_ _ _ H _ I h=>wpAny_Constant_int ⟨.int i,H,I.tok _,⟨_,rfl⟩,h⟩
theorem Pi{b j g}:PE X (.Constant (.bool b) j g) (tC (.bl b)):=λ_ _ _ H _ I h=>Constant_bool ⟨.bl b,H,I,rfl,h⟩
theorem PD{j g}:PE X (.Constant .none j g) (tC .non):=λ_ _ _ H _ I h=>Constant_none ⟨.non,H,I,rfl,h⟩
theorem N_{x j g}:PE X (.Constant (.str x) j g) (tC (.str x)):=λ_ _ _ H _ I h=>Calls.Constant_str ⟨.str x,H,I.tok _,⟨_,rfl⟩,h⟩
def Gl(X:Cx)(x:Str):Prop:=X.env.kindOf x=aa .globalImplicit
theorem sU{E:ai->am->Prop}{f:List (ag×Obj)}{s:am}{a:St}{H:Hp}{x:Str}{u:ai}{g:Pos}{Q:ai->am->Prop}(I:Inv X f a H s)(c:Gl X x)(b:X.mg x=aa u)(h:Q u s)(d:(x==("__debug__":Str))=aj:=by decide):ar (aw X.prog X.w) X.A (aK (.Name x g) X.env) Q E s :=Io I.ok.kind c (Calls.loadGlobal_global (by rw[I.ok.glob];exact I.mod.glob.keeps I.bk) b h) d
theorem sL{E:ai->am->Prop}{m:List (ag×Obj)}{s:am}{a:St}{H:Hp}{x:Str}{u:ai}{g:Pos}{Q:ai->am->Prop}(I:Inv X m a H s)(f:Gl X x)(d:X.mg x=ae)(b:eF x=aa u)(h:Q u s)(c:x≠"__name__":=by decide) (i:(x==("__debug__":Str))=aj:=by decide):ar (aw X.prog X.w) X.A (aK (.Name x g) X.env) Q E s:=by obtain⟨n,l,j⟩:=I.mod.blt;exact Io I.ok.kind f (Calls.loadGlobal_builtin (by rw[I.ok.glob];exact I.mod.glob.keeps I.bk) d (by rw[I.ok.blt];exact l.keeps I.bk) ((j x c).trans b) h) i
theorem Be{x:Str}{v:V}{u:ai}{g:Pos}(b:Gl X x)(a:X.mg x=aa u)(r:RelV v u)(c:(x==("__debug__":Str))=aj:=by decide):PE X (.Name x g) (tC v) :=λ_ _ _ H _ I h=>sU I b a ⟨v,H,I,r,h⟩ c
theorem NE{x:Str}{v:V}{u:ai}{g:Pos}(d:Gl X x)(c:X.mg x=ae)(a:eF x=aa u)(r:RelV v u)(b:x≠"__name__":=by decide)(f:(x==("__debug__":Str))=aj:=by decide):PE X (.Name x g) (tC v) :=λ_ _ _ H _ I h=>sL I d c a ⟨v,H,I,r,h⟩ b f
def QM(n o:TE)(k:Int->Int->Hp->Prop):St->Hp->Prop:=λa H=>n a H λx c=>o a c λy b=>∃i j,x=.int i/\y=.int j/\k i j b
variable{a b:az}{n o:TE}{g:Pos}
def PC(X:Cx)(i:CmpOp)(a b:az)(t:TE):Prop :=
 ∀(h:List (ag×Obj)) (s:am) (f:St) (H:Hp) (Q:VK),Inv X h f H s->t f H Q ->
  ar (aw X.prog X.w) X.A (aK a X.env) (λv d=>ar (aw X.prog X.w) X.A (aK b X.env) (λu c=>ar (aw X.prog X.w) X.A (eC i v u) (EP X h f Q) X.xe c) X.xe d) X.xe s
theorem SZ(b:az){c:CmpOp}(h:c≠.In)(d:c≠.NotIn):nO c b=aj:=by
 have i:(c == CmpOp.In)=aj:=by cases c <;> first|rfl|exact absurd rfl h
 have f:(c == CmpOp.NotIn)=aj:=by cases c <;> first|rfl|exact absurd rfl d
 cases b <;> simp[nO,i,f]
def D_(p:Int->Int->Bool)(n o:TE):TE:=λc H Q=>QM n o (λi j d=>Q (.bl (p i j)) d) c H
abbrev KD:TE->TE->TE:=D_ λi j=>decide (j<i)
theorem Qb{d:CmpOp}{p:Int->Int->Bool}(z:PE X a n)(w:PE X b o)(c:∀(i j:Int) (t u:Tok) (Q:ai->am->Prop) (s:am),Q (.bool (p i j)) s->ar (aw X.prog X.w) X.A (eC d (.int i t) (.int j u)) Q X.xe s):PC X d a b (D_ p n o):=by intro D s C H Q I h;refine Sd z w I h λv u l x y B A r m q=>?_;obtain⟨i,j,rfl,rfl,q⟩:=q;obtain⟨t,rfl⟩:=r;obtain⟨f,rfl⟩:=m;exact c i j t f _ l ⟨.bl _,B,A,rfl,q⟩
theorem JN(d:PE X a n)(c:PE X b o):PC X .Gt a b (KD n o):=Qb d c λ_ _ _ _ _ _ h=>gt_int h
def tB(t:TE):TT:=λd H Q=>t d H λx f=>∃c,x=.bl c/\Q c f
theorem yE{f:CmpOp}{t:TE}(h:PC X f a b t)(i:nO f b=aj:=by first|exact SZ _ (by decide) (by decide)|rfl):PT X (.Compare a [f] [b] g) (tB t):=by
 intro w s j H Q I p;refine wpAny_isTrue_Compare1 (aL (h w s j H _ I p) λv C i=>aL i λu B r=>aL r λc A ⟨x,z,y,l,m⟩=>?_) i;obtain⟨d,rfl,q⟩:=m;cases l;exact nQ ⟨z,y,q⟩
theorem Q2{e:az}{t:TE}(h:PE X e t)(m:∀c,nN e X.env c=(do let v <-c;standAt e.pos;nR [v] (truthy v)):=by intro _;rfl):PT X e (tB t):=by
 intro p s f H Q I l;refine isTrue_plain (aL (h p s f H _ I l) λv w ⟨x,u,r,i,j⟩=>?_) (m _);obtain⟨d,rfl,q⟩:=j;cases i;exact nQ ⟨u,r,q⟩
variable{w z:TT}{rest:List az}
def KL(t u:TT):TT:=λd H Q=>t d H λc f=>if c=ah then Q ah f else u d f Q
def Si(t:TT):TT:=λd H Q=>t d H λc f=>Q (!c) f
theorem NR(f:PT X a w):PW X (.BoolOp .Or [a] g) w:=by
 intro j i s d H Q I h;refine isTrue_or (aL (f i s d H Q I h) λc l e=>?_);cases c with
 |false=>exact isTrue_or_nil e
 |true=>exact e
theorem Pt(r:PT X a w)(q:PW X (.BoolOp .Or (b::rest) g) z):PW X (.BoolOp .Or (a::b::rest) g) (KL w z):=by
 intro m i s d H Q I h;refine isTrue_or (aL (r i s d H _ I h) λc p ζ=>?_);obtain⟨l,j,f⟩:=ζ;cases c with
 |true=>exact⟨l,j,f⟩
 |false=>exact q m i p d l Q j f
theorem LQ(f:PT X a w):PT X (.UnaryOp .Not a g) (Si w):=by intro i s d H Q I h;exact isTrue_not (f i s d H (λc j=>Q (!c) j) I h)
def LG(n o:TE):TE:=λd H Q=>n d H λx f=>∃c,x=.bl c/\if c=ah then o d f Q else Q (.bl aj) f
def OA(n:TE):TE:=λd H Q=>n d H λx f=>∃c,x=.bl c/\Q (.bl (!c)) f
theorem MN{op}{t:TE}(h:PE X a t):PE X (.BoolOp op [a] g) t:=λf s c H Q I d=>BoolOp_one (h f s c H Q I d)
theorem JX(r:PE X a n)(q:PE X (.BoolOp .And (b::rest) g) o):PE X (.BoolOp .And (a::b::rest) g) (LG n o):=by
 intro i s f H Q I h;refine BoolOp_and (aL (r i s f H _ I h) λv m ζ=>?_);obtain⟨x,l,j,p,d⟩:=ζ;obtain⟨c,rfl,d⟩:=d;cases p;refine nQ ?_;cases c with
 |true=>exact q i m f l Q j d
 |false=>exact⟨.bl aj,l,j,rfl,d⟩
theorem Ru(j:PE X a n):PE X (.UnaryOp .Not a g) (OA n):=by
 intro l s f H Q I h;refine UnaryOp_ (aL (j l s f H _ I h) λv q ζ=>?_);obtain⟨x,p,m,i,d⟩:=ζ;obtain⟨c,rfl,d⟩:=d;cases i;exact not_of (nQ ⟨.bl (!c),p,m,rfl,d⟩)
def N2(t:TT)(n o:TE):TE:=λd H Q=>t d H λc f=>if c=ah then n d f Q else o d f Q
theorem NK{c:az}(q:PT X c w)(t:PE X a n)(r:PE X b o):PE X (.IfExp c a b g) (N2 w n o):=by
 intro i s f H Q I h;refine wpAny_IfExp (aL (q i s f H _ I h) λd j ζ=>?_);obtain⟨p,m,l⟩:=ζ;cases d with
 |true=>exact t i j f p Q m l
 |false=>exact r i j f p Q m l
end
def cE(K:ax)(H:Hp)(a:ag)(xs:List V):Prop :=
 Rd H a (.lst xs) \/
  ∃(o:Obj) (b:Array ai) (n:Nat),K.lookup a=aa o/\o.cls=.type "list"/\o.dict=ae/\o.data=.seq b n/\b.size<=a_/\bv xs b.toList
def cW(K:ax)(H:Hp)(a:ag)(xs:List V):Prop :=
 Rd H a (.tup xs) \/
  ∃(o:Obj) (b:Array ai) (n:Nat),K.lookup a=aa o/\o.cls=.type "tuple"/\o.data=.seq b n/\b.size<=a_/\bv xs b.toList
def TJ:ai->Option V
 |.none=>aa .non
 |.bool b=>aa (.bl b)
 |.int i _=>aa (.int i)
 |.str x _=>aa (.str x)
 |.bytes b _=>aa (.byt b)
 |.float b _=>aa (.flt b)
 |.ref a=>aa (.ref a)
 |.type n=>aa (.ty n)
 |_=>ae
theorem RelV.abs{x:V}{u:ai}(r:RelV x u):TJ u=aa x:=by
 cases x with
 |non=>cases r;rfl
 |bl _=>cases r;rfl
 |int _=>obtain⟨t,rfl⟩:=r;rfl
 |str _=>obtain⟨t,rfl⟩:=r;rfl
 |byt _=>obtain⟨t,rfl⟩:=r;rfl
 |flt _=>obtain⟨t,rfl⟩:=r;rfl
 |ref _=>cases r;rfl
 |ty _=>cases r;rfl
theorem RelV.inj{x y:V}{u:ai}(r:RelV x u)(q:RelV y u):x=y:=dQ (r.abs.symm.trans q.abs)
theorem bv.inj{xs a:List V}{b:List ai}(r:bv xs b)(s:bv a b):xs=a:=by
 unfold bv at r s
 induction r generalizing a with
 |nil=>cases s;rfl
 |cons r _ g=>
  cases s with
  |cons q t=>rw[r.inj q,g t]
section
variable{X:Cx}{g:List (ag×Obj)}{c:St}{H:Hp}{s:am}{a:ag}{b f:List V}
theorem cE.of{K:ax}(h:H a=aa (.lst b)):cE K H a b:=.inl (.inl h)
theorem cW.of{K:ax}(h:H a=aa (.tup b)):cW K H a b:=.inl (.inl h)
theorem Inv.list(I:Inv X g c H s)(h:cE X.K H a b):∃its:List ai,bv b its/\PlainL s.heap a its.toArray/\b.length<=a_:=by
 rcases h with h|⟨o,its,n,i,l,j,d,m,r⟩
 .obtain⟨z,its,n,r,e⟩:=h.ok I.hok;exact⟨its,r,⟨_,n,e,rfl,rfl,rfl⟩,z⟩
 .refine⟨its.toList,r,⟨o,n,I.kIn a o i,l,j,by simpa using d⟩,?_⟩;have e:=r.length;simp only[nU]at e;lia
theorem Inv.tuple(I:Inv X g c H s)(h:cW X.K H a b):∃d:List ai,bv b d/\IsTup s.heap a d.toArray/\b.length<=a_:=by
 rcases h with h|⟨o,d,n,j,l,i,m,r⟩
 .obtain⟨z,d,r,p,_⟩:=h.ok I.hok;exact⟨d,r,p,z⟩
 .refine⟨d.toList,r,⟨o,I.kIn a o j,l,n,by simpa using i⟩,?_⟩;have e:=r.length;simp only[nU]at e;lia
theorem Inv.list_inj(I:Inv X g c H s)(h:cE X.K H a b)(q:cE X.K H a f):b=f:=by
 obtain⟨j,r,⟨o,n,e,_,_,d⟩,_⟩:=I.list h;obtain⟨i,p,⟨t,u,l,_,_,m⟩,_⟩:=I.list q;rw[e]at l;cases l;rw[d]at m;injection m with d1 _;have:j=i:=by simpa using congrArg Array.toList d1
 subst this;exact r.inj p
theorem Inv.tuple_inj(I:Inv X g c H s)(h:cW X.K H a b)(q:cW X.K H a f):b=f:=by
 obtain⟨j,r,⟨o,e,_,n,d⟩,_⟩:=I.tuple h;obtain⟨i,p,⟨t,l,_,u,m⟩,_⟩:=I.tuple q;rw[e]at l;cases l;rw[d]at m;injection m with d1 _;have:j=i:=by simpa using congrArg Array.toList d1
 subst this;exact r.inj p
end
abbrev Cx.wish(X:Cx)(E:ai->am->Prop):Cx:={X with xe:=E}
abbrev Cx.nox(X:Cx):Cx:=X.wish λ_ _=>False
theorem Cx.Ok.wish{X:Cx}(ok:X.Ok)(E:ai->am->Prop):(X.wish E).Ok :=⟨ok.mod,ok.kind,ok.glob,ok.blt,ok.above,ok.inj,ok.has,ok.cab,ok.hd,ok.frames,ok.stk,ok.exf,ok.bs,ok.bsz,ok.noex,ok.exfs,ok.funs,ok.frf,ok.tab⟩
theorem Cx.Ok.unwish{X:Cx}{E:ai->am->Prop}(ok:(X.wish E).Ok):X.Ok :=⟨ok.mod,ok.kind,ok.glob,ok.blt,ok.above,ok.inj,ok.has,ok.cab,ok.hd,ok.frames,ok.stk,ok.exf,ok.bs,ok.bsz,ok.noex,ok.exfs,ok.funs,ok.frf,ok.tab⟩
section
variable{X:Cx}{a:List (ag×Obj)}{b:St}{H:Hp}{s:am}{E:ai->am->Prop}
theorem Inv.wish(I:Inv X a b H s)(E:ai->am->Prop):Inv (X.wish E) a b H s:=⟨I.ok.wish E,I.os,I.bare,I.base,I.loc,I.cell,I.free,I.freeC,I.pin,I.hok,I.len⟩
theorem Inv.unwish(I:Inv (X.wish E) a b H s):Inv X a b H s:=⟨I.ok.unwish,I.os,I.bare,I.base,I.loc,I.cell,I.free,I.freeC,I.pin,I.hok,I.len⟩
theorem SP.unwish{D:lu}{f:Flow}{g:am}(h:SP (X.wish E) a D f g):SP X a D f g:=by
 cases f with
 |next=>obtain⟨c,d,I,q⟩:=h;exact⟨c,d,I.unwish,q⟩
 |brk=>obtain⟨c,d,I,q⟩:=h;exact⟨c,d,I.unwish,q⟩
 |cont=>obtain⟨c,d,I,q⟩:=h;exact⟨c,d,I.unwish,q⟩
 |ret u=>obtain⟨v,c,d,I,r,q⟩:=h;exact⟨v,c,d,I.unwish,r,q⟩
end
section
variable{X:Cx}{j:ba}{rest:List ba}{t u:TS}{e:az}{i:TE}{g:Pos}
def M8:TS:=λD a H=>D.nx a H
def LM(t u:TS):TS:=λD a H=>t {D with nx:=u D} a H
theorem Lm:lD X [] M8:=λ_ _ a H _ I h=>Cd ⟨a,H,I,h⟩
theorem J8(m:PS X j t)(l:lD X rest u):lD X (j::rest) (LM t u):=by
 intro b s c H D I h;refine Ip (aL (m b s c H {D with nx:=u D} I h) λf d q=>?_);cases f with
 |next=>obtain⟨a,o,n,q⟩:=q;exact l b d a o D n q
 |ret v=>exact q
 |brk=>exact q
 |cont=>exact q
theorem Lh(b:PS X j t):lD X [j] t:=by
 intro c s a H D I h;refine Ip (aL (b c s a H D I h) λf d q=>?_);cases f with
 |next=>exact Cd q
 |ret v=>exact q
 |brk=>exact q
 |cont=>exact q
theorem Inv.quiet{b:List (ag×Obj)}{a:St}{H:Hp}{s:am}(I:Inv X b a H s):interactive X.env=aj:=by simp[interactive,I.ok.kind]
def OU(i:TE):TS:=λD a H=>i a H λ_ b=>D.nx a b
theorem A_(d:PE X e i)(c:kw e ae g.line X.env=pure aj:=by rfl):PS X (.Expr e g) (OU i):=by intro f s a H D I h;exact wpAny_Expr_any (aL (d f s a H _ I h) λv n ⟨x,m,l,o,b⟩=>⟨a,m,l,b⟩) I.quiet c
def Op(i:TE):TS:=λD a H=>i a H D.rt
theorem Aj(d:PE X e i):PS X (.Return (aa e) g) (Op i):=by intro f s a H D I h;exact wpAny_Return_some (aL (d f s a H _ I h) λv n ⟨x,m,l,b,c⟩=>⟨x,a,m,l,b,c⟩)
def Q8:TS:=λD _ H=>D.rt .non H
theorem S7:PS X (.Return ae g) Q8:=λ_ _ a H _ I h=>wpAny_Return_none ⟨.non,a,H,I,rfl,h⟩
def SQ(c:TT)(t u:TS):TS:=λD a H=>c a H λb d=>if b=ah then t D a d else u D a d
theorem Sx{c:az}{a b:List ba}{m:TT}(r:PT X c m)(w:lD X a t)(v:lD X b u):PS X (.If c a b g) (SQ m t u):=by
 intro l s f H D I h;refine wpAny_If (aL (r l s f H _ I h) λd n ζ=>?_);obtain⟨q,p,o⟩:=ζ;cases d with
 |true=>exact w l n f q D p o
 |false=>exact v l n f q D p o
end
abbrev TG:=V->St->Hp->(St->Hp->Prop)->Prop
def PG(X:Cx)(a:az)(t:TG):Prop :=
 ∀(d:List (ag×Obj)) (s:am) (c:St) (H:Hp) (v:V) (u:ai) (Q:St->Hp->Prop),Inv X d c H s->RelV v u->t v c H Q ->
  ar (aw X.prog X.w) X.A (qC a X.env u) (λ_ s'=>∃b f,Inv X d b f s'/\Q b f) X.xe s
abbrev Bp:=V->V->V->Hp->(Hp->Prop)->Prop
def GQ(X:Cx)(t:Bp):Prop :=
 ∀(c:List (ag×Obj)) (s:am) (a:St) (H:Hp) (o i v:V) (ov b u:ai) (Q:Hp->Prop),Inv X c a H s->RelV o ov->RelV i b->RelV v u->t o i v H Q ->
  ar (aw X.prog X.w) X.A (setItem ov b u) (λ_ f=>∃d,Inv X c a d f/\Q d) X.xe s
section
variable{X:Cx}{a:Pos}
def DZ(i:Nat):TG:=λv b H Q=>Q (b.set i (aa v)) H
theorem Ih{i:Nat}{x:Str}(f:X.N.Nodup)(c:X.N[i]?=aa x)(b:Loc X.env.scope x)(d:X.fn x=ah\/X.env.scope.names.lookup x=aa .local:=by first|exact .inl rfl|exact .inr rfl|assumption):PG X (.Name x a) (DZ i):=by intro m s j H v u Q I r h;exact wpAny_assign_Name (yd I f c b r (λl g=>⟨_,H,g,h⟩) d)
def RK(to c:TE)(t:Bp):TG:=λv b H Q=>to b H λo g=>c b g λi f=>t o i v f λd=>Q b d
theorem JD{o i:az}{to f:TE}{t:Bp}(z:PE X o to)(A:PE X i f)(w:GQ X t)(B:∀v,qC (.Subscript o i a) X.env v=(do
   let ov <-nR [v] (aK o X.env)
   let b <-nR [v,ov] (aK i X.env)
   standAt a
   nR [v,ov,b] (setItem ov b v)
   release [v,ov,b] []):=by intro _;rfl):PG X (.Subscript o i a) (RK to f t):=by
 intro d s c H v u Q I r h;rw[B];refine ap (jn (aL (z d s c H _ I h) λov j ζ=>?_));obtain⟨x,J,E,m,q⟩:=ζ;refine ap (jn (aL (A d j c J _ E q) λb g ζ=>?_));obtain⟨y,G,D,l,p⟩:=ζ;refine ap (wpAny_standAt (ap (jn (aL (w d g c G x y v ov b u _ D m l r p) λ_ K ζ=>?_))));obtain⟨F,C,n⟩:=ζ;exact wpAny_release ⟨c,F,C,n⟩
def ED(c:TE)(g:TG):TS:=λD b H=>c b H λx d=>g x b d D.nx
theorem NH{b e:az}{d:TE}{g:TG}(p:PE X e d)(o:PG X b g)(n:swapsWithSole [b] e a.line X.env=pure aj:=by rfl)(m:swappedStores [b] e X.env=pure ae:=by rfl)(r:(assignEach [b] X.env).map (·.2)=[qC b X.env]:=by rfl):PS X (.Assign [b] e a) (ED d g):=by intro f s c H D I h;refine wpAny_Assign_stores (aL (p f s c H _ I h) λv i ⟨x,u,t,j,l⟩=>?_) n m;rw[r];exact aL (o f i c u x v _ t j l) λ_ w q=>q
theorem HB{i:Nat}{x:Str}{e:az}{c:TE}{b:Pos}(p:X.N.Nodup)(m:X.N[i]?=aa x)(j:Loc X.env.scope x)(o:PE X e c)(l:kw e (aa (.Name x b)) a.line X.env=pure aj:=by rfl)(n:X.fn x=ah\/X.env.scope.names.lookup x=aa .local:=by first|exact .inl rfl|exact .inr rfl|assumption):PS X (.Assign [.Name x b] e a) (ED c (DZ i)):=by intro q s d H D I h;refine wpAny_Assign_Name (aL (o q s d H _ I h) λv z ⟨y,u,t,f,g⟩=>?_) l;exact yd t p m j f (λw r=>⟨_,u,r,g⟩) n
def Mh(c:TT)(j:TS):TS:=λD d H=>∃W:Nat->St->Hp->Prop,(∃m,W m d H)/\∀m d H,W m d H ->
 c d H λb h=>if b=ah then ∃N:St->Hp->Prop,(∀f i,N f i->∃g,g<m/\W g f i)/\j {D with nx:=N,ct:=N,bk:=D.nx} d h else D.nx d h
theorem RV{c:az}{i:List ba}{y:TT}{z:TS}(A:Ce (aw X.prog X.w) X.A X.env X.xe)(S:PT X c y)(T:lD X i z):PS X (.While c i [] a) (Mh y z):=by
 intro w s J H D I h;obtain⟨W,⟨Q,L⟩,l⟩:=h;refine wpAny_While (codeAny_whileLoop (λn P=>∃j G,Inv X w j G P/\W n j G) ?_ Q ⟨J,H,I,L⟩);rintro n O ⟨g,F,Y,K⟩;refine sZ A (aL (S w O g F _ Y (l n g F K)) λb M ζ=>?_);obtain⟨E,C,p⟩:=ζ;cases b with
 |true=>
  obtain⟨N,B,p⟩:=p;rw[if_pos rfl];refine sZ A (aL (T w M g E _ C p) λf Z o=>?_);cases f with
  |next=>obtain⟨d,m,x,r⟩:=o;obtain⟨t,u,q⟩:=B d m r;exact⟨t,u,d,m,x,q⟩
  |cont=>obtain⟨d,m,x,r⟩:=o;obtain⟨t,u,q⟩:=B d m r;exact⟨t,u,d,m,x,q⟩
  |brk=>exact o
  |ret v=>exact o
 |false=>rw[if_neg fc];exact Cd ⟨g,E,C,p⟩
end
structure It where
 go:Nat->Hp->Prop
 yld:Nat->Hp->V->Hp->Prop
 stop:Nat->Hp->Prop
def lG(X:Cx)(a:List (ag×Obj))(H:Hp)(b:ag):Prop :=
 H b=ae/\b≠X.env.locals/\b∉X.fs/\(b∈X.ex\/X.s₀.heap.objs.size<=b)/\(∀x c,X.env.cells.lookup x=aa c->c≠b)/\∀p∈X.pn++a,p.1≠b
theorem Inv.fpOk{X:Cx}{d:List (ag×Obj)}{g:St}{H f:Hp}{s:am}{b:ag}(I:Inv X d g H s)(a:s.heap.objs.size<=b)(i:f b=ae):lG X d f b:=by
 refine⟨i,mo (fU I.lt a),I.nofs a,.inr (cQ I.sz a),λx c e z=>?_,λp h z=>?_⟩
 .obtain⟨v,q⟩:=I.cell x c e;exact absurd (fU q.lt (by rw[z];exact a)) (fA _)
 .exact absurd (fU (bK (I.pin p h).1) (by rw[z];exact a)) (fA _)
structure p7(P:aQ)(w:aE)(K:ax)(tg:az)(J:It)(fp:List ag)(it:ag)(tn:Nat->aB->Prop):Prop where
 mem:it∈fp
 obj:∀i h,tn i h->∀b∈fp,∃o,h.get? b=aa o/\∀v,o.data≠.cell v
 keep:∀i h h',tn i h->(∀b∈fp,∀o,h.get? b=aa o->h'.get? b=aa o)->tn i h'
 item:∀(X:Cx),X.prog=P->X.w=w->X.K=K->X.calm=ah->∀(i:Nat) (af:List (ag×Obj)) (s:am) (σ:St) (H:Hp) (E:ai->am->Prop),Inv X af σ H s->(∀b∈fp,lG X af H b)->tn i s.heap->J.go i H ->
  ar (aw P w) X.A (pyNext (.ref it)) (λr s1=>∃u,r=aa u /\ ar (aw P w) X.A (Cf tg (.ref it) u) (λ_ s2=>∃x H',Inv X af σ H' s2/\RelV x u/\J.yld i H x H'/\tn (i+1) s2.heap/\∀b∈fp,H' b=ae) E s1) E s
 done:∀(X:Cx),X.prog=P->X.w=w->X.K=K->X.calm=ah->∀(i:Nat) (af:List (ag×Obj)) (s:am) (σ:St) (H:Hp) (E:ai->am->Prop),Inv X af σ H s->(∀b∈fp,lG X af H b)->tn i s.heap->J.stop i H ->
  ar (aw P w) X.A (pyNext (.ref it)) (λr s1=>r=ae/\Inv X af σ H s1) E s
 self:∀(A:aT) (i:Nat) (s:am) (Q:ai->am->Prop) (E:ai->am->Prop),tn i s.heap->Q (.ref it) s->ar (aw P w) A (mq (.ref it)) Q E s
abbrev TI:=St->Hp->(It->Hp->Prop)->Prop
def ue(X:Cx)(i:List (ag×Obj))(j:St)(l:az)(R:It->Hp->Prop)(a:ai)(f:am):Prop :=
 ∃(g:ag) (h:List ag) (d:Nat->aB->Prop) (J:It) (c:Hp),a=.ref g/\Inv X i j c f/\p7 X.prog X.w X.K l J h g d/\d 0 f.heap/\(∀b∈h,lG X i c b)/\R J c
def PI(X:Cx)(f a:az)(d:TI):Prop :=
 ∀(c:List (ag×Obj)) (s:am) (b:St) (H:Hp) (R:It->Hp->Prop),Inv X c b H s->d b H R ->
  ar (aw X.prog X.w) X.A (aK a X.env) (λv g=>ar (aw X.prog X.w) X.A (mq v) (ue X c b f R) X.xe g) X.xe s
theorem rM{M:Model}{A:aT}{E:ai->am->Prop}{s:am}{c:az}{d:ag}{u:ai}{o:Obj}{n:String}{b:Array ai}{Q:Unit->am->Prop}(f:s.heap.get? d=aa o)(j:o.cls=.type n)(i:o.data=.fields b)(g:["enumerate","zip","dict_itemiterator","dict_reverseitemiterator","odict_iterator","itertools.zip_longest","itertools.pairwise"].contains n=aj) (a:Q () s):ar M A (Cf c (.ref d) u) Q E s:=by
 unfold Cf;cases c <;> first
  |exact aG a
  | (cases u <;> first
    |exact aG a
    | (refine ap (wpAny_load f ?_)
       rw[j,i];show ar M A (if(["enumerate","zip","dict_itemiterator","dict_reverseitemiterator","odict_iterator","itertools.zip_longest","itertools.pairwise"].contains n&&b[0]? == aa (d9 _))=ah then _ else _) Q E s;rw[if_neg (by intro h;rw[g,Bool.false_and]at h;cases h)];exact aG a))
def z_(K:ax)(a:ag):It :=⟨λi H=>∃xs x,cE K H a xs/\xs[i]?=aa x,λi H x b=>b=H/\∀xs,cE K H a xs->xs[i]?=aa x,λi H=>∃xs,cE K H a xs/\xs.length<=i⟩
def Bm(K:ax)(a:ag):It :=⟨λi H=>∃xs x,cW K H a xs/\xs[i]?=aa x,λi H x b=>b=H/\∀xs,cW K H a xs->xs[i]?=aa x,λi H=>∃xs,cW K H a xs/\xs.length<=i⟩
def xQ(a:Int)(n:Nat):It:=⟨λi _=>i<n,λi H x b=>b=H/\x=.int (a+i),λi _=>n<=i⟩
theorem OJ{P:aQ}{w:aE}{K:ax}{O:az}(a g:ag):p7 P w K O (z_ K a) [g] g (λi h=>h.IsListIter g a i) where
 mem:=by simp
 obj:=λi h f b j=>by
  have e:b=g:=by simpa using j
  subst e;obtain⟨o,e,c,d⟩:=f;exact⟨o,e,λv z=>by rw[d]at z;cases z⟩
 keep:=λi h n f k=>f.at λo e=>k g (by simp) o e
 item:=by intro X B y C L i M s J H E I m f A;subst B y C;obtain⟨xs,x,l,t⟩:=A;obtain⟨r,q,p,S⟩:=I.list l;obtain⟨u,W,Q⟩:=q.get t;obtain⟨G,F,f2,f3,f4,D⟩:=m g (by simp);refine wpAny_pyNext_list_item f p.isList (x:=u) (by simpa using W) λn N sb=>?_;have Z:Inv X M J H {s with heap:=n}:=I.turned (t':=s.toks) (λb o j e=>(sb.2 b j).trans e) G F f3 f4 D;obtain⟨o,e,c,d⟩:=id N;exact⟨u,rfl,rM (s:={s with heap:=n}) e c d (by decide) ⟨x,H,Z,Q,⟨rfl,λys T=>by rw[I.list_inj T l];exact t⟩,N,λb j=>(m b j).1⟩⟩
 done:=by intro X B y C L i M s J H E I m f A;subst B y C;obtain⟨xs,l,t⟩:=A;obtain⟨r,q,p,S⟩:=I.list l;obtain⟨G,F,f2,f3,f4,D⟩:=m g (by simp);have hl:=q.length;exact wpAny_pyNext_list_end (I.ok.hd L) f p.isList (by simp;lia) λn Y=>⟨rfl,I.turned (t':=s.toks) (λb o j e=>Y b o j e) G F f3 f4 D⟩
 self:=λ_ _ _ _ _ f h=>wpAny_pyIter_listiter f h
theorem Ry{P:aQ}{w:aE}{K:ax}{O:az}(a j:ag):p7 P w K O (Bm K a) [j] j (λi h=>h.IsTupleIter j a i) where
 mem:=by simp
 obj:=λi h f b l=>by
  have e:b=j:=by simpa using l
  subst e;obtain⟨o,e,c,d⟩:=f;exact⟨o,e,λv z=>by rw[d]at z;cases z⟩
 keep:=λi h q f k=>f.at λo e=>k j (by simp) o e
 item:=by intro X B y C L i M s J H E I n f A;subst B y C;obtain⟨xs,x,m,t⟩:=A;obtain⟨g,r,p,S⟩:=I.tuple m;obtain⟨u,W,Q⟩:=r.get t;obtain⟨G,F,f2,f3,f4,D⟩:=n j (by simp);refine wpAny_pyNext_tuple_item f (show s.heap.IsTuple a g.toArray from p) (x:=u) (by simpa using W) λq N sb=>?_;have Z:Inv X M J H {s with heap:=q}:=I.turned (t':=s.toks) (λb o l e=>(sb.2 b l).trans e) G F f3 f4 D;obtain⟨o,e,c,d⟩:=id N;exact⟨u,rfl,rM (s:={s with heap:=q}) e c d (by decide) ⟨x,H,Z,Q,⟨rfl,λys T=>by rw[I.tuple_inj T m];exact t⟩,N,λb l=>(n b l).1⟩⟩
 done:=by intro X B y C L i M s J H E I n f A;subst B y C;obtain⟨xs,m,t⟩:=A;obtain⟨g,r,p,S⟩:=I.tuple m;obtain⟨G,F,f2,f3,f4,D⟩:=n j (by simp);have hl:=r.length;exact wpAny_pyNext_tuple_end (I.ok.hd L) f (show s.heap.IsTuple a g.toArray from p) (by simp;lia) λq Y=>⟨rfl,I.turned (t':=s.toks) (λb o l e=>Y b o l e) G F f3 f4 D⟩
 self:=λ_ _ _ _ _ f h=>wpAny_pyIter_tupleiter f h
theorem Ny{P:aQ}{w:aE}{K:ax}{G:az}(c:ag)(f:Int)(n:Nat):p7 P w K G (xQ f n) [c] c (λi h=>Cg h c (f+(i:Nat)*1) ((n:Int)-(i:Nat)) 1) where
 mem:=by simp
 obj:=λi h a b d=>by
  have e:b=c:=by simpa using d
  subst e;exact⟨_,a,λv z=>by
   have F:Data.fields _=Data.cell v:=z;cases F⟩
 keep:=λi h j a k=>k c (by simp) _ a
 item:=by intro X q l r p i C s A H E I g a m;subst q l r;obtain⟨y,x,f2,f3,f4,u⟩:=g c (by simp);have W:=Walks.range (prog:=X.prog) (w:=X.w) (I.ok.hd p) c f 1 n;refine W.item i s _ _ m a λv j B L D J=>?_;obtain⟨t,rfl⟩:=L;have N:Inv X C A H {s with heap:=j,toks:=B}:=I.turned (λb o d e=>J b o (by simpa using d) e) y x f3 f4 u;refine⟨_,rfl,rM (s:={s with heap:=j,toks:=B}) (n:="range_iterator") D rfl rfl (by decide) ⟨.int (f+i),H,N,⟨t,?_⟩,⟨rfl,rfl⟩,D,λb d=>(g b d).1⟩⟩;rw[Int.mul_one]
 done:=by intro X q l r p i C s A H E I g a m;subst q l r;obtain⟨y,x,f2,f3,f4,u⟩:=g c (by simp);exact wpAny_pyNext_range_end (I.ok.hd p) a (by have:n<=i:=m;lia) λj M=>⟨rfl,I.turned (t':=s.toks) (λb o d e=>M b o d e) y x f3 f4 u⟩
 self:=λ_ _ _ _ _ a h=>wpAny_pyIter_rangeiter a h
section
variable{X:Cx}{c:az}
theorem J9{h:List (ag×Obj)}{f:St}{H:Hp}{s:am}{R:It->Hp->Prop}{E:ai->am->Prop}{a d:Int}{t u v:Tok}{g:Nat}(I:Inv X h f H s)(p:-(2^62)<=a)(n:a<2^62)(m:-(2^62)<=d)(l:d<2^62)(q:R (xQ a (d-a).toNat) H):ar (aw X.prog X.w) X.A (mq (.ref s.heap.objs.size)) (ue X h f c R) E {s with heap:=s.heap.push {cls:=.type "range",data:=.fields #[.int a t,.int d u,.int 1 v]},toks:=g}:=by
 refine wpAny_pyIter_range (IsRange.new ..) (small_one p n m l) ?_;have i:Inv X h f H {s with heap:=s.heap.push {cls:=.type "range",data:=.fields #[.int a t,.int d u,.int 1 v]},toks:=g}:=I.kept λb o e=>bn _ e;refine⟨(s.heap.push {cls:=.type "range",data:=.fields #[.int a t,.int d u,.int 1 v]}).objs.size,[(s.heap.push {cls:=.type "range",data:=.fields #[.int a t,.int d u,.int 1 v]}).objs.size],_,_,H,rfl,i.kept (t':=g) λb o e=>bn _ e,Ny _ a (d-a).toNat,?_,λb j=>?_,q⟩
 .have w:a+((0:Nat):Int)*1=a:=by simp
  have r:(((d-a).toNat:Nat):Int)-((0:Nat):Int)=Ch a d 1:=by rw[rangeSize_one];split <;> lia
  show Cg _ _ (a+((0:Nat):Int)*1) ((((d-a).toNat:Nat):Int)-((0:Nat):Int)) 1;rw[w,r];exact cy _ rfl
 .have e:b=(s.heap.push {cls:=.type "range",data:=.fields #[.int a t,.int d u,.int 1 v]}).objs.size:=by simpa using j
  subst e;exact i.fpOk (aY _) (i.hok.fresh (aY _))
def Kw(d:TA):TI:=λa H R=>d a H λb f=>∃j:Int,b=[.int j]/\-(2^62)<=j/\j<2^62/\R (xQ 0 j.toNat) f
theorem S_{a:az}{f:TA}{p b:Pos}(u:Gl X "range")(o:X.mg "range"=ae)(v:PA X [a] f)(n:aM [a] X.env=[(aj,aK a X.env)]:=by rfl):PI X c (.Call (.Name "range" p) [a] [] b) (Kw f):=by
 intro w s g H R I h;refine Call_ (sL I u o boot_range (Iq (aL (v b w s g H _ I h) λz A ⟨y,B,x,l,d⟩=>?_) n rfl));obtain⟨j,e,d,m,q⟩:=d;subst e;cases l with
 |cons r i=>
  cases i;obtain⟨t,rfl⟩:=r;exact call_range_1 (J9 x ∅ ∅ d m (by simpa using q))
def Q_(j:TI)(g:TG)(l:TS):TS:=λD a H=>j a H λJ o=>∃W:Nat->Nat->St->Hp->Prop,(∃m,W 0 m a o)/\∀i m a H,W i m a H ->
 (J.stop i H/\D.nx a H)\/(J.go i H/\∃N:St->Hp->Prop,(∀b d,N b d->∃h,h<m/\W (i+1) h b d)/\∀x d,J.yld i H x d->g x a d λf n=>l {D with nx:=N,ct:=N,bk:=D.nx} f n)
def u7(a:List ag)(h:aB):List (ag×Obj):=a.filterMap λb=>(h.get? b).map λo=>(b,o)
theorem yk{a:List ag}{h:aB}{b:ag}{o:Obj}(d:b∈a)(e:h.get? b=aa o):(b,o)∈u7 a h:=List.mem_filterMap.mpr ⟨b,d,by rw[e];rfl⟩
theorem NL{a:List ag}{h:aB}{p:ag×Obj}(d:p∈u7 a h):p.1∈a/\h.get? p.1=aa p.2:=by
 obtain⟨b,f,e⟩:=List.mem_filterMap.mp d;cases q:h.get? b with
 |none=>rw[q]at e;cases e
 |some o=>rw[q]at e;have g:(b,o)=p:=dQ e;subst g;exact⟨f,q⟩
theorem Inv.pinned{f:List (ag×Obj)}{g:St}{H:Hp}{s:am}{a:List ag}(I:Inv X f g H s)(m:∀b∈a,lG X f H b)(l:∀b∈a,∃o,s.heap.get? b=aa o/\∀v,o.data≠.cell v):Inv X (f++u7 a s.heap) g H s :=
 I.pins_of λp j=>(jm.mp j).elim (λz=>I.pin p (iR _ z)) λz=>by
  obtain⟨h,e⟩:=NL z;obtain⟨q,n,f2,_⟩:=m p.1 h;obtain⟨o,i,d⟩:=l p.1 h;rw[e]at i;cases i;exact⟨e,q,n,f2,d⟩
theorem Inv.unpinned{b d:List (ag×Obj)}{a:St}{H:Hp}{s:am}(I:Inv X (b++d) a H s):Inv X b a H s:=I.pins_of λp f=>I.pin p (iR _ (qB _ f))
theorem Oo{q:az}{C:List ba}{wi:TI}{g:TG}{tb:TS}{S:Pos}(K:Ce (aw X.prog X.w) X.A X.env X.xe)(hc:X.calm=ah)(hi:PI X c q wi)(hg:PG X c g)(t:lD X C tb)(hs:∀x,nV q X.env x=pure x:=by intro _;rfl):PS X (.For c q C [] S) (Q_ wi g tb):=by
 intro E s σ H D I h;refine wpAny_For (aL (hi E s σ H _ I h) λv s1 h1=>aL h1 λitv s2 h2=>?_) hs;obtain⟨it,M,tn,J,H2,e,I2,T,bf,f2,W,⟨m0,w0⟩,F⟩:=h2;subst e;have p:∀{A:Hp},(∀b∈M,A b=ae)->∀b∈M,lG X E A b:=λhn b t=>⟨hn b t,(f2 b t).2⟩
 refine codeAny_forLoop_any (λn s'=>∃i l A,Inv X E l A s'/\tn i s'.heap/\(∀b∈M,A b=ae)/\W i n l A) ?_ m0 ⟨0,σ,H2,I2,bf,λb t=>(f2 b t).1,w0⟩;rintro n s3 ⟨i,j,O,I3,bF,L,w3⟩;rcases F i n j O w3 with⟨stop,qn⟩|⟨go,N,hN,step⟩
 .refine sZ K (aL (T.done X rfl rfl rfl hc i E s3 j O X.xe I3 (p L) bF stop) λr s4 ζ=>?_);obtain⟨Y,I4⟩:=ζ;subst Y;exact Cd ⟨j,O,I4,qn⟩
 .refine sZ K (aL (T.item X rfl rfl rfl hc i E s3 j O X.xe I3 (p L) bF go) λr s4 ζ=>?_);obtain⟨u,Y,h4⟩:=ζ;subst Y;refine sZ K (aL h4 λ_ s5 ζ=>?_);obtain⟨x,H5,I5,r5,y5,cm,Z⟩:=ζ;have I5':=I5.pinned (p Z) (T.obj _ _ cm);refine sZ K (aL (hg _ s5 j H5 x u _ I5' r5 (step x H5 y5)) λ_ s6 ζ=>?_);obtain⟨P,H6,I6,q6⟩:=ζ;refine sZ K (aL (t _ s6 P H6 _ I6 q6) λf Q B=>?_);have w:∀{a:St}{z:Hp},Inv X (E++u7 M s5.heap) a z Q->N a z->∃m,m<n/\∃i l A,Inv X E l A Q/\tn i Q.heap/\(∀b∈M,A b=ae)/\W i m l A:=λ{a z} y G=>by obtain⟨m',hm,w7⟩:=hN a z G;refine⟨m',hm,i+1,a,z,y.unpinned,T.keep _ _ _ cm λb t o e=>(y.pin (b,o) (iR _ (iR _ (yk t e)))).1,λb t=>?_,w7⟩;obtain⟨o,e,d⟩:=T.obj _ _ cm b t;exact(y.pin (b,o) (iR _ (iR _ (yk t e)))).2.1
  cases f with
  |next=>obtain⟨a,z,y,G⟩:=B;exact w y G
  |cont=>obtain⟨a,z,y,G⟩:=B;exact w y G
  |brk=>obtain⟨a,z,y,B⟩:=B;exact⟨a,z,y.unpinned,B⟩
  |ret v=>obtain⟨x7,a,z,y,r7,B⟩:=B;exact⟨x7,a,z,y.unpinned,r7,B⟩
end
abbrev R2:=V->V->Hp->VK->Prop
def b7(X:Cx)(f:ai->ai->Sem ai)(r:R2):Prop :=
 ∀(b:List (ag×Obj)) (s:am) (a:St) (H:Hp) (x y:V) (v u:ai) (Q:VK),Inv X b a H s->RelV x v->RelV y u->r x y H Q ->
  ar (aw X.prog X.w) X.A (f v u) (EP X b a Q) X.xe s
def yW(X:Cx)(f:ai->Sem ai)(r:V->Hp->VK->Prop):Prop :=
 ∀(b:List (ag×Obj)) (s:am) (a:St) (H:Hp) (x:V) (v:ai) (Q:VK),Inv X b a H s->RelV x v->r x H Q ->
  ar (aw X.prog X.w) X.A (f v) (EP X b a Q) X.xe s
def eM(X:Cx)(f:ai)(r:List V->Hp->VK->Prop):Prop :=
 ∀(c:List (ag×Obj)) (s:am) (a:St) (H:Hp) (xs:List V) (b:List ai) (Q:VK),Inv X c a H s->bv xs b->r xs H Q ->
  ar (aw X.prog X.w) X.A (call f b) (EP X c a Q) X.xe s
def xl(r:R2)(c b:TE):TE:=λa H Q=>c a H λx f=>b a f λy d=>r x y d Q
def QW(r:V->Hp->VK->Prop)(b:TE):TE:=λa H Q=>b a H λx c=>r x c Q
def rI(C:Int->Int->Prop)(g:Int->Int->V):R2:=λx y H Q=>∃i j,x=.int i/\y=.int j/\C i j/\Q (g i j) H
def lY(g:Int->Int->V):R2:=λx y H Q=>∃i j,x=.int i/\y=.int j/\Q (g i j) H
def rU(g:Int->V):V->Hp->VK->Prop:=λx H Q=>∃i,x=.int i/\Q (g i) H
section
variable{X:Cx}{a b c:az}{d m n:TE}{l:Pos}
theorem BP(E:PE X a d)(D:PE X b m){q:List (ag×Obj)}{s:am}{g:St}{H:Hp}{R:V->V->Hp->Prop}(I:Inv X q g H s)(h:d g H λx r=>m g r λy i=>R x y i) {Q:ai->am->Prop}{f:ai->ai->Sem ai}(C:∀v u p x y i,Inv X q g i p->RelV x v->RelV y u->R x y i->ar (aw X.prog X.w) X.A (f v u) Q X.xe p):ar (aw X.prog X.w) X.A (aK a X.env) (λv o=>ar (aw X.prog X.w) X.A (aK b X.env) (λu j=>ar (aw X.prog X.w) X.A (f v u) Q X.xe j) X.xe o) X.xe s:=by refine aL (E q s g H _ I h) λv t ⟨x,r,G,z,B⟩=>?_;refine aL (D q t g r _ G B) λu p ζ=>?_;obtain⟨y,i,F,w,A⟩:=ζ;exact C v u p x y i F z w A
theorem JL{f:Operator}{r:R2}(p:b7 X (iS f) r)(w:PE X a d)(t:PE X b m):PE X (.BinOp a f b l) (xl r d m):=by intro z s g H Q I h;exact wpAny_BinOp (BP w t I h λv u i x y B A o j q=>p z i g B x y v u Q A o j q)
theorem Rg{g:UnaryOp}{r:V->Hp->VK->Prop}(q:yW X (unaryOp g) r)(t:PE X a d):PE X (.UnaryOp g a l) (QW r d):=by intro i s f H Q I h;exact UnaryOp_ (aL (t i s f H _ I h) λv j ⟨x,w,u,o,p⟩=>q i j f w x v Q u o p)
theorem Bn{f:ai->ai->Sem ai}{C:Int->Int->Prop}{g:Int->Int->Int}(o:∀(i j:Int) (t u:Tok) (s:am) (Q:ai->am->Prop) (E:ai->am->Prop),C i j->Q (.int (g i j) s.toks) {s with toks:=s.toks+1}->ar (aw X.prog X.w) X.A (f (.int i t) (.int j u)) Q E s):b7 X f (rI C λi j=>.int (g i j)):=by intro B s A H x y v u Q I w r h;obtain⟨i,j,rfl,rfl,z,q⟩:=h;obtain⟨t,rfl⟩:=w;obtain⟨p,rfl⟩:=r;exact o i j t p s _ _ z ⟨.int (g i j),H,I.tok _,⟨_,rfl⟩,q⟩
theorem Gh{f:ai->ai->Sem ai}{g:Int->Int->Int}(o:∀(i j:Int) (t u:Tok) (s:am) (Q:ai->am->Prop) (E:ai->am->Prop),Q (.int (g i j) s.toks) {s with toks:=s.toks+1}->ar (aw X.prog X.w) X.A (f (.int i t) (.int j u)) Q E s):b7 X f (lY λi j=>.int (g i j)):=by intro A s z H x y v u Q I w r h;obtain⟨i,j,rfl,rfl,q⟩:=h;obtain⟨t,rfl⟩:=w;obtain⟨p,rfl⟩:=r;exact o i j t p s _ _ ⟨.int (g i j),H,I.tok _,⟨_,rfl⟩,q⟩
theorem Cb{f:ai->ai->Sem ai}{g:Int->Int->Bool}(o:∀(i j:Int) (t u:Tok) (s:am) (Q:ai->am->Prop) (E:ai->am->Prop),Q (.bool (g i j)) s->ar (aw X.prog X.w) X.A (f (.int i t) (.int j u)) Q E s):b7 X f (lY λi j=>.bl (g i j)):=by intro A s z H x y v u Q I w r h;obtain⟨i,j,rfl,rfl,q⟩:=h;obtain⟨t,rfl⟩:=w;obtain⟨p,rfl⟩:=r;exact o i j t p s _ _ ⟨.bl (g i j),H,I,rfl,q⟩
def Fs(i j:Int):Prop:=0<=j/\j<=1000000/\i.natAbs<2^64
def Bh(i j:Int):Prop:=(-(2^64)<i/\i<2^64)\/(-(2^64)<j/\j<2^64)
theorem Bh.ok{i j:Int}(h:Bh i j):IntMulOk i j:=by
 rcases h with⟨h1,h2⟩|⟨h1,h2⟩
 .exact .of_left (intBits_le_64 h1 h2)
 .exact .of_right (intBits_le_64 h1 h2)
theorem Uy:b7 X (iS .Add) (lY λi j=>.int (i+j)):=Gh λ_ _ _ _ _ _ _ q=>add_int q
theorem rL:b7 X (iS .Sub) (lY λi j=>.int (i-j)):=Gh λ_ _ _ _ _ _ _ q=>sub_int q
theorem Uk:b7 X (iS .Mult) (rI Bh λi j=>.int (i*j)):=Bn λ_ _ _ _ _ _ _ f q=>mul_int q f.ok
theorem rP:b7 X (iS .Mod) (rI (λ_ j=>0<j) λi j=>.int (i % j)):=Bn λi j _ _ _ _ _ f q=>by have g:(0:Int)<j:=f;exact mod_int' ∅ (by rw[Int.fmod_eq_emod_of_nonneg i ∅];exact q)
theorem Ri:b7 X (iS .Pow) (rI Fs λi j=>.int (i^j.toNat)):=Bn λ_ _ _ _ _ _ _ f q=>pow_int_small f.1 f.2.1 f.2.2 q
theorem Ke{f:ai->Sem ai}{g:Int->Int}(j:∀(i:Int) (t:Tok) (s:am) (Q:ai->am->Prop) (E:ai->am->Prop),Q (.int (g i) s.toks) {s with toks:=s.toks+1}->ar (aw X.prog X.w) X.A (f (.int i t)) Q E s):yW X f (rU λi=>.int (g i)):=by intro r s p H x v Q I o h;obtain⟨i,rfl,q⟩:=h;obtain⟨t,rfl⟩:=o;exact j i t s _ _ ⟨.int (g i),H,I.tok _,⟨_,rfl⟩,q⟩
theorem kg:yW X (unaryOp .USub) (rU λi=>.int (-i)):=Ke λ_ _ _ _ _ q=>neg_int q
end
def uW:V->V->Bool
 |.non,.non=>ah|.non,.int _=>ah|.int _,.non=>ah|.non,.bl _=>ah|.bl _,.non=>ah|.non,.str _=>ah|.str _,.non=>ah
 |.int _,.int _=>ah|.bl _,.bl _=>ah|.str _,.str _=>ah|.byt _,.byt _=>ah
 |.int _,.str _=>ah|.str _,.int _=>ah|.bl _,.str _=>ah|.str _,.bl _=>ah
 |_,_=>aj
def GA:R2:=λx y H Q=>uW x y=ah/\Q (.bl (decide (x=y))) H
def FA:R2:=λx y H Q=>uW x y=ah/\Q (.bl (!decide (x=y))) H
theorem Gm{i j:Int}:decide (V.int i=V.int j)=(i == j):=by rw[mr];simp
theorem FJ{i j:Bool}:decide (V.bl i=V.bl j)=(i == j):=by rw[mr];simp
theorem EO{i j:Str}:decide (V.str i=V.str j)=(i == j):=by rw[mr];simp
theorem HX{i j:Array UInt8}:decide (V.byt i=V.byt j)=(i.toList == j.toList):=by
 rw[mr];cases i;cases j;simp
section
variable{X:Cx}{a b c:az}{l g o:TE}{m:Pos}
theorem dO{h:List (ag×Obj)}{d:St}{H:Hp}{s:am}{Q:VK}{k f:Bool}(I:Inv X h d H s)(q:Q (.bl k) H)(e:k=f):EP X h d Q (.bool f) s:=by subst e;exact⟨.bl k,H,I,rfl,q⟩
theorem Uu:b7 X (eC .Eq) GA:=by
 intro w s r H x y v u Q I p d h;obtain⟨n,q⟩:=h;cases x with
 |non=>
  cases p;cases y with
  |non=>cases d;exact PySem.EqNone.eq_none_none (dO I q (by simp))
  |bl j=>cases d;exact PySem.EqNone.eq_none_bool (dO I q (by simp))
  |int j=>obtain⟨f,rfl⟩:=d;exact PySem.EqNone.eq_none_int (dO I q (by simp))
  |str j=>obtain⟨f,rfl⟩:=d;exact PySem.EqNone.eq_none_str (dO I q (by simp))
  |_=>exact absurd (show aj=ah from n) fc
 |bl i=>
  cases p;cases y with
  |non=>cases d;exact PySem.EqNone.eq_bool_none (dO I q (by simp))
  |bl j=>cases d;exact eq_bool (dO I q FJ)
  |str j=>obtain⟨f,rfl⟩:=d;exact PySem.EqMixed.eq_bool_str (dO I q (by simp))
  |_=>exact absurd (show aj=ah from n) fc
 |int i=>
  obtain⟨t,rfl⟩:=p;cases y with
  |non=>cases d;exact PySem.EqNone.eq_int_none (dO I q (by simp))
  |int j=>obtain⟨f,rfl⟩:=d;exact eq_int (dO I q Gm)
  |str j=>obtain⟨f,rfl⟩:=d;exact PySem.EqMixed.eq_int_str (dO I q (by simp))
  |_=>exact absurd (show aj=ah from n) fc
 |str i=>
  obtain⟨t,rfl⟩:=p;cases y with
  |non=>cases d;exact PySem.EqNone.eq_str_none (dO I q (by simp))
  |bl j=>cases d;exact PySem.EqMixed.eq_str_bool (dO I q (by simp))
  |int j=>obtain⟨f,rfl⟩:=d;exact PySem.EqMixed.eq_str_int (dO I q (by simp))
  |str j=>obtain⟨f,rfl⟩:=d;exact eq_str (dO I q EO)
  |_=>exact absurd (show aj=ah from n) fc
 |byt i=>
  obtain⟨t,rfl⟩:=p;cases y with
  |byt j=>obtain⟨f,rfl⟩:=d;exact PySem.W.eq_bytes (dO I q HX)
  |_=>exact absurd (show aj=ah from n) fc
 |_=>cases y <;> exact absurd (show aj=ah from n) fc
theorem UH:b7 X (eC .NotEq) FA:=by
 intro w s r H x y v u Q I p d h;obtain⟨n,q⟩:=h;cases x with
 |non=>
  cases p;cases y with
  |non=>cases d;exact PySem.EqNone.ne_none_none (dO I q (by simp))
  |bl j=>cases d;exact PySem.EqNone.ne_none_bool (dO I q (by simp))
  |int j=>obtain⟨f,rfl⟩:=d;exact PySem.EqNone.ne_none_int (dO I q (by simp))
  |str j=>obtain⟨f,rfl⟩:=d;exact PySem.EqNone.ne_none_str (dO I q (by simp))
  |_=>exact absurd (show aj=ah from n) fc
 |bl i=>
  cases p;cases y with
  |non=>cases d;exact PySem.EqNone.ne_bool_none (dO I q (by simp))
  |bl j=>cases d;exact ne_bool (dO I q (congrArg not FJ))
  |str j=>obtain⟨f,rfl⟩:=d;exact PySem.EqMixed.ne_bool_str (dO I q (by simp))
  |_=>exact absurd (show aj=ah from n) fc
 |int i=>
  obtain⟨t,rfl⟩:=p;cases y with
  |non=>cases d;exact PySem.EqNone.ne_int_none (dO I q (by simp))
  |int j=>obtain⟨f,rfl⟩:=d;exact ne_int (dO I q (congrArg not Gm))
  |str j=>obtain⟨f,rfl⟩:=d;exact PySem.EqMixed.ne_int_str (dO I q (by simp))
  |_=>exact absurd (show aj=ah from n) fc
 |str i=>
  obtain⟨t,rfl⟩:=p;cases y with
  |non=>cases d;exact PySem.EqNone.ne_str_none (dO I q (by simp))
  |bl j=>cases d;exact PySem.EqMixed.ne_str_bool (dO I q (by simp))
  |int j=>obtain⟨f,rfl⟩:=d;exact PySem.EqMixed.ne_str_int (dO I q (by simp))
  |str j=>obtain⟨f,rfl⟩:=d;exact ne_str (dO I q (congrArg not EO))
  |_=>exact absurd (show aj=ah from n) fc
 |byt i=>
  obtain⟨t,rfl⟩:=p;cases y with
  |byt j=>obtain⟨f,rfl⟩:=d;exact PySem.W.ne_bytes (dO I q (congrArg not HX))
  |_=>exact absurd (show aj=ah from n) fc
 |_=>cases y <;> exact absurd (show aj=ah from n) fc
theorem Hf:b7 X (eC .Lt) (lY λi j=>.bl (decide (i<j))):=Cb λ_ _ _ _ _ _ _ q=>lt_int q
theorem pI:b7 X (eC .LtE) (lY λi j=>.bl (decide (i<=j))):=Cb λ_ _ _ _ _ _ _ q=>le_int q
theorem FE:b7 X (eC .Gt) (lY λi j=>.bl (decide (j<i))):=Cb λ_ _ _ _ _ _ _ q=>gt_int q
theorem Up:b7 X (eC .In) (λx y H Q=>∃i j,x=.str i/\y=.str j/\Q (.bl (!(Ir j i 0 j.length 1).isEmpty)) H):=by intro r s n H x y v u Q I f d h;obtain⟨i,j,rfl,rfl,q⟩:=h;obtain⟨t,rfl⟩:=f;obtain⟨p,rfl⟩:=d;exact in_str (dO I q rfl)
theorem b7.or{f:ai->ai->Sem ai}{r n:R2}(h:b7 X f r)(t:b7 X f n):b7 X f (λx y H Q=>r x y H Q\/n x y H Q):=by
 intro p s d H x y v u Q I j i q;rcases q with q|q
 .exact h p s d H x y v u Q I j i q
 .exact t p s d H x y v u Q I j i q
theorem QS{d:CmpOp}{r:R2}(p:b7 X (eC d) r)(z:PE X a l)(w:PE X b g)(t:nO d b=aj):PE X (.Compare a [d] [b] m) (xl r l g):=by intro A s f H Q I h;exact wpAny_Compare1 (BP z w I h λv u i x y C B n j q=>p A i f C x y v u Q B n j q) t
def FP(t:TE):TT:=λd H Q=>t d H λx f=>∃k,x=.bl k/\Q k f
theorem M0{f:CmpOp}{r:R2}(C:b7 X (eC f) r)(F:PE X a l)(E:PE X b g)(D:nO f b=aj):PT X (.Compare a [f] [b] m) (FP (xl r l g)):=by
 intro i s d H Q I h;refine wpAny_isTrue_Compare1 (aL (F i s d H _ I h) λv n ⟨x,N,K,t,B⟩=>aL (E i n d N _ K B) λu j ⟨y,M,J,q,A⟩=>aL (C i j d M x y v u _ J t q A) λc O ⟨z,L,G,p,k,e,w⟩=>?_) D;subst e;cases p;exact nQ ⟨L,G,w⟩
def Af(r i:R2)(l g o:TE):TE:=λd H Q=>l d H λx p=>g d p λy n=>r x y n λz f=>∃k,z=.bl k /\
 (if k=ah then o d f λh j=>i y h j Q else Q (.bl aj) f)
theorem Pw{n f:CmpOp}{r q:R2}(S:b7 X (eC n) r)(P:b7 X (eC f) q)(Z:PE X a l)(Y:PE X b g)(W:PE X c o)(T:lastMarks [n,f] [b,c]=aj:=by with_unfolding_all rfl):PE X (.Compare a [n,f] [b,c] m) (Af r q l g o):=by
 intro j s i H Q I h;refine Compare_chain (aL (Z j s i H _ I h) λv G ⟨x,H1,I1,L,O⟩=>chain_link (aL (Y j G i H1 _ I1 O) λu F ⟨y,H2,I2,p,N⟩=>aL (S j F i H2 x y v u _ I2 L p N) λd E ⟨z,A,w,K,k,e,t⟩=>?_)) T;subst e;cases K;refine nQ ?_;cases k with
 |false=>exact ite_ff ⟨.bl aj,A,w,rfl,t⟩
 |true=>exact ite_tt (chain_last (aL (W j E i A _ w t) λC D ⟨B,H4,I4,J,M⟩=>P j D i H4 y B u C Q I4 p J M))
theorem Qk{n f:CmpOp}{r q:R2}(Y:b7 X (eC n) r)(W:b7 X (eC f) q)(ha:PE X a l)(hb:PE X b g)(hc:PE X c o)(Z:lastMarks [n,f] [b,c]=aj:=by with_unfolding_all rfl):PT X (.Compare a [n,f] [b,c] m) (FP (Af r q l g o)):=by
 intro j s i H Q I h;refine isTrue_chain (aL (ha j s i H _ I h) λv G ⟨x,H1,I1,M,S⟩=>test_link (aL (hb j G i H1 _ I1 S) λu F ⟨y,H2,I2,p,P⟩=>aL (Y j F i H2 x y v u _ I2 M p P) λd E ⟨z,A,w,L,k,e,t⟩=>?_)) Z;subst e;cases L;refine nQ ?_;cases k with
 |false=>
  obtain⟨k',e',T⟩:=t;cases e';exact ite_ff ⟨A,w,T⟩
 |true=>
  refine ite_tt (test_last (aL (hc j E i A _ w t) λC D ⟨B,H4,I4,K,O⟩=>aL (W j D i H4 y B u C _ I4 p K O) λd' s5 ζ=>?_));obtain⟨z2,H5,I5,J,k2,e2,N⟩:=ζ;subst e2;cases J;exact nQ ⟨H5,I5,N⟩
theorem p9:(a_:Nat)<2^63:=by rw[k8];decide
theorem Mt:b7 X (iS .Add) (λx y H Q=>∃i j,x=.str i/\y=.str j/\i.length+j.length<=a_/\Q (.str (i++j)) H):=by intro z s r H x y v u Q I n f h;obtain⟨i,j,rfl,rfl,p,q⟩:=h;obtain⟨t,rfl⟩:=n;obtain⟨d,rfl⟩:=f;exact add_str (λd w=>⟨.str (i++j),H,I.tok _,⟨_,rfl⟩,q⟩) p
theorem vals1{x:V}{d:List ai}(r:bv [x] d):∃u,d=[u]/\RelV x u:=by
 cases r with
 |cons h f=>cases f;exact⟨_,rfl,h⟩
theorem vals2{x y:V}{f:List ai}(r:bv [x,y] f):∃u d,f=[u,d]/\RelV x u/\RelV y d:=by
 cases r with
 |cons n j=>
  cases j with
  |cons i h=>cases h;exact⟨_,_,rfl,n,i⟩
theorem OK(f:X.calm=ah):eM X (.builtin "max") (λxs H Q=>∃i j,xs=[.int i,.int j]/\Q (.int (if j > i then j else i)) H):=by
 intro z s n H xs v Q I r h;obtain⟨i,j,rfl,q⟩:=h;obtain⟨u,p,rfl,⟨t,rfl⟩,⟨x,rfl⟩⟩:=vals2 r;refine max_two_ints (I.ok.hd f) λy w k=>⟨_,H,I.kept k,?_,q⟩
 by_cases d:j > i
 .rw[if_pos d,if_pos d];exact⟨_,rfl⟩
 .rw[if_neg d,if_neg d];exact⟨_,rfl⟩
def EL(K:ax)(x:V)(H:Hp)(n:Nat):Prop :=
 match x with
 |.str y=>y.length<=a_/\n=y.length
 |.byt y=>y.size<=a_/\n=y.size
 |.ref p=>(∃xs,cE K H p xs/\n=xs.length)\/∃xs,cW K H p xs/\n=xs.length
 |_=>False
theorem g8:eM X (.builtin "len") (λxs H Q=>∃x n,xs=[x]/\EL X.K x H n/\Q (.int n) H):=by
 intro F s B H xs C Q I r h;obtain⟨x,n,rfl,e,q⟩:=h;obtain⟨u,rfl,f⟩:=vals1 r;have E:=p9;have D:a_=16777216:=k8;cases x with
 |str y=>obtain⟨t,rfl⟩:=f;obtain⟨A,d⟩:y.length<=a_/\n=y.length:=e;subst d;exact len_str ∅ ⟨.int _,H,I.tok _,⟨_,rfl⟩,q⟩
 |byt y=>obtain⟨t,rfl⟩:=f;obtain⟨A,d⟩:y.size<=a_/\n=y.size:=e;subst d;exact PySem.W.len_bytes ∅ ⟨.int _,H,I.tok _,⟨_,rfl⟩,q⟩
 |ref p=>
  cases f;have d:(∃xs,cE X.K H p xs/\n=xs.length)\/∃xs,cW X.K H p xs/\n=xs.length:=e;rcases d with⟨xs,hx,d⟩|⟨xs,hx,d⟩
  .subst d;obtain⟨v,i,j,z⟩:=I.list hx;have w:=i.length;exact Calls.call_len_list j.isList (by simp only[cg];lia) ⟨.int xs.length,H,I.tok _,⟨_,by simp only[cg];rw[w]⟩,q⟩
  .subst d;obtain⟨v,i,j,z⟩:=I.tuple hx;have w:=i.length;exact len_tuple j (by simp only[cg];lia) ⟨.int xs.length,H,I.tok _,⟨_,by simp only[cg];rw[w]⟩,q⟩
 |_=>exact(show False from e).elim
end
structure HR(h:aB)(x dx C:ag)(mA:Str->Option ai):Prop where
 obj:h.get? x=aa (PySem.W.instObj C dx)
 ns:h.Ns1 dx mA
 ne:dx≠x
theorem QF{h:aB}{g:ag}{d:Str->Option ai}(n:h.Ns1 g d):∃c,h.get? g=aa c/\∀b,PySem.W.lookIn b c=aa (d b):=by
 obtain⟨o,f,u,j,p,m,_,l⟩:=n;refine⟨o,j,λb=>?_⟩;have e:=l b;unfold nsFind findBy at e;rw[<-Array.find?_toList]at e;unfold PySem.W.lookIn;rw[p];dsimp only;split
 .rename_i y q;rw[q]at e;exact congrArg aa e
 .rename_i q;rw[q]at e;have a:f.toList.any (·.refKey)=aj:=by rw[Is];intro y i;obtain⟨z,t,r⟩:=m y (Array.mem_toList_iff.mp i);simp[DictEntry.refKey,r]
  have s:¬f.toList.any (·.refKey)=ah:=by rw[a];exact fc
  rw[if_neg s];exact congrArg aa e
theorem HR.look{h:aB}{x d C:ag}{c:Str->Option ai}(I:HR h x d C c):∃b,vA h x (PySem.W.instObj C d) C (aa b)/\∀a,PySem.W.lookIn a b=aa (c a) :=
 let ⟨b,ho,hl⟩:=QF I.ns
 ⟨b,⟨I.obj,rfl,rfl,ho⟩,hl⟩
theorem nK.some_of{v:V}{o:Option ai}(r:nK (aa v) o):∃u,o=aa u/\RelV v u:=by
 cases o with
 |none=>exact(show False from r).elim
 |some u=>exact⟨u,rfl,r⟩
section
variable{P:aQ}{w:aE}{H i:Hp}{h g:aB}{a C b:ag}{fs c:List (Str×V)}
theorem Og(l:dj P w H h)(e:H a=aa (.ins C b fs)):∃j,HR h a b C j/\(∀f,nK (fs.lookup f) (j f))/\PySem.Within j (fs.map (·.1))/\fs.length<=1000/\H b=aa (.own a):=by
 obtain⟨d,z,o,m,j,n,r,q⟩:=(show cq P w H h a (.ins C b fs)from l a _ e)
 exact⟨j,⟨m,n,o⟩,r,q,z,d⟩
end
structure Gw(K:ax)(C:ag):Prop where
 pg:PySem.W.plainGet K C eV=ah
 hd:PySem.W.hasDictIn K C=ah
 po:PySem.W.plainOver K C=ah
 sa:qD K (.ref C) "__setattr__"=aa (aa (.builtin "object.__setattr__"))
theorem Gw.get{K:ax}{C:ag}(c:Gw K C)(f:Str):PySem.W.plainGet K C f=ah:=c.pg
section
variable{X:Cx}{f:List (ag×Obj)}{d:St}{H:Hp}{s:am}{A:aT}{E:ai->am->Prop}{Q:ai->am->Prop}{c:ai}{b:Bool}
inductive jk(K:ax)(H:Hp):V->ai->Prop where
 |non:jk K H .non (.type "NoneType")
 |bl (x:Bool):jk K H (.bl x) (.type "bool")
 |int (i:Int):jk K H (.int i) (.type "int")
 |str (x:Str):jk K H (.str x) (.type "str")
 |flt (x:UInt64):jk K H (.flt x) (.type "float")
 |lst {a:ag}{xs:List V} (e:H a=aa (.lst xs)):jk K H (.ref a) (.type "list")
 |frz {a:ag}{o:Obj}{xs:List V} (e:H a=aa (.frz o (.lst xs))):jk K H (.ref a) (.type "list")
 |tup {a:ag}{xs:List V} (e:H a=aa (.tup xs)):jk K H (.ref a) (.type "tuple")
 |dK {a:ag}{kvs:List (aD×V)} (e:H a=aa (.dK kvs)):jk K H (.ref a) (.type "dict")
 |dT {a:ag}{kvs:List (List aD×V)} (e:H a=aa (.dT kvs)):jk K H (.ref a) (.type "dict")
 |ins {a C dx:ag}{fs:List (Str×V)} (e:H a=aa (.ins C dx fs)) (cl:Gw K C) (ha:qD K (.ref C) "__class__"=aa (aa (.builtin "object.__class__")))
   (hn:Iu K (.builtin "object.__class__") "__get__"=aa (aa (.builtin "getset_descriptor.__get__"))) (wc:PySem.W.takesIn K (.builtin "object.__class__")=aa ah)
   (hm:yZ K C (.type "object")=aa ah):jk K H (.ref a) (.ref C)
theorem M7{x:V}{u t:ai}(I:Inv X f d H s)(g:RelV x u)(ty:jk X.K H x t)(e:eO X.K t c=aa b)(h:∀m,Q (.bool b) {s with toks:=m}):ar (aw X.prog X.w) A (call (.builtin "isinstance") [u,c]) Q E s:=by
 cases ty with
 |non=>cases (show u=Value.none from g);exact lJ PySem.W.kitx_none I.kIn True.intro e (λz=>nomatch z) h
 |bl y=>cases (show u=Value.bool y from g);exact lJ PySem.W.kitx_bool I.kIn True.intro e (λz=>nomatch z) h
 |int i=>obtain⟨t,q⟩:=(show ∃t,u=Value.int i t from g);cases q;exact lJ PySem.W.kitx_int I.kIn True.intro e (λz=>nomatch z) h
 |str y=>obtain⟨t,q⟩:=(show ∃t,u=Value.str y t from g);cases q;exact lJ PySem.W.kitx_str I.kIn True.intro e (λz=>nomatch z) h
 |flt y=>obtain⟨t,q⟩:=(show ∃t,u=Value.float y t from g);cases q;exact lJ PySem.W.kitx_float I.kIn True.intro e (λz=>nomatch z) h
 |@lst a xs ea=>
  cases (show u=Value.ref a from g);obtain⟨_,_,n,_,j⟩:=(show cq X.prog X.w H s.heap a (.lst xs)from I.hok a _ ea)
  exact lJ PySem.W.kitx_list I.kIn ⟨_,j,rfl⟩ e (λz=>nomatch z) h
 |@frz a ob xs ea=>
  cases (show u=Value.ref a from g);obtain⟨_,_,_,n,_,j⟩:=(show cq X.prog X.w H s.heap a (.frz ob (.lst xs))from I.hok a _ ea)
  exact lJ PySem.W.kitx_list I.kIn ⟨_,j,rfl⟩ e (λz=>nomatch z) h
 |@tup a xs ea=>
  cases (show u=Value.ref a from g);obtain⟨_,_,_,p,_⟩:=(show cq X.prog X.w H s.heap a (.tup xs)from I.hok a _ ea)
  obtain⟨o,j,l,_⟩:=p;exact lJ PySem.W.kitx_tuple I.kIn ⟨o,j,l⟩ e (λz=>nomatch z) h
 |@dK a kvs ea=>
  cases (show u=Value.ref a from g);obtain⟨_,_,w,_,p⟩:=(show cq X.prog X.w H s.heap a (.dK kvs)from I.hok a _ ea)
  obtain⟨o,r,v,j,l,_⟩:=p;exact lJ PySem.W.kitx_dict I.kIn ⟨o,j,l.1⟩ e (λz=>nomatch z) h
 |@dT a kvs ea=>
  cases (show u=Value.ref a from g);obtain⟨_,_,xs,_,o,r,v,j,l,_⟩:=(show cq X.prog X.w H s.heap a (.dT kvs)from I.hok a _ ea)
  exact lJ PySem.W.kitx_dict I.kIn ⟨o,j,l.1⟩ e (λz=>nomatch z) h
 |@ins a C dx fs ea cl ha hn wc hm=>
  cases (show u=Value.ref a from g);obtain⟨D,O,_⟩:=Og I.hok ea;obtain⟨B,J,_⟩:=O.look;exact lJ (PySem.W.kitx_own (cl.get _) cl.hd ha hn wc hm) I.kIn J e (λz=>nomatch z) h
end
structure Room(k:Nat)(A:aT):Prop where
 hd:A.handled=ae
 dp:A.depth+3*k+5<vB
 un:A.units+16*k+200<cLine
theorem Room.mono{j k:Nat}{A:aT}(r:Room k A)(h:j<=k):Room j A:=⟨r.hd,by have:=r.dp;lia,by have:=r.un;lia⟩
theorem Room.deeper{k:Nat}{A:aT}(r:Room (k+1) A)(a:Env):Room k (A.deeper a) :=⟨r.hd,by have:=r.dp;show A.depth+1+3*k+5<_;lia,by have:=r.un;show A.units+3+16*k+200<_;lia⟩
theorem Room.depth{k:Nat}{A:aT}(r:Room k A):A.depth<vB:=by have:=r.dp;lia
theorem Room.units{k:Nat}{A:aT}(r:Room k A):A.units+64<cLine:=by have:=r.un;lia
def MP:TA:=λ_ H Q=>Q [] H
def MD(c:TE)(b:TA):TA:=λa H Q=>c a H λx f=>b a f λxs d=>Q (x::xs) d
section
variable{X:Cx}{e:az}{es:List az}{c:TE}{t:TA}{a:Pos}
theorem jU:PA X [] MP:=λ_ _ _ _ H Q I h=>y0 ⟨[],H,I,.nil,h⟩
theorem iH(o:PE X e c)(n:PA X es t)(m:aM (e::es) X.env=(aj,aK e X.env)::aM es X.env:=by rfl):PA X (e::es) (MD c t):=by intro a d s b H Q I h;rw[m];show ar _ _ (spliced ((aj,aK e X.env)::cZ a (aM es X.env))) _ _ s;refine s_ (aL (o d s b H _ I h) λu f ζ=>?_);obtain⟨x,v,q,i,l⟩:=ζ;exact aL (n a d f b v _ q l) λw y ⟨xs,r,p,g,j⟩=>⟨x::xs,r,p,.cons i g,j⟩
def Ov(t:TA):TE:=λd H Q=>t d H λxs b=>xs.length<=a_/\∀p,b p=ae->Q (.ref p) (upd b p (.tup xs))
def Kq(t:TA):TE:=λd H Q=>t d H λxs b=>xs.length<=a_/\∀p,b p=ae->Q (.ref p) (upd b p (.lst xs))
theorem LD{x1}(h:PA X es t):PE X (.Tuple es x1 a) (Ov t):=by intro n s i H Q I l;refine wpAny_Tuple_spliced (aL (h a n s i H _ I l) λj d ⟨xs,g,f,r,z,q⟩=>⟨by rw[<-r.length];exact z,?_⟩);have m:g d.heap.objs.size=ae:=f.hok.fresh (aY _);refine⟨.ref d.heap.objs.size,upd g d.heap.objs.size (.tup xs),f.laid (t':=d.toks) (λb u e=>bn _ e) (aY _) ?_,rfl,q _ m⟩;exact⟨z,j,r,⟨⟨_,cy _ rfl,rfl,_,rfl⟩,_,cy _ rfl,rfl⟩⟩
theorem Sj(h:PA X es t):PE X (.List es a) (Kq t):=by intro n s i H Q I l;refine wpAny_List_spliced (aL (h a n s i H _ I l) λj d ⟨xs,g,f,r,z,q⟩=>⟨by rw[<-r.length];exact z,?_⟩);have m:g d.heap.objs.size=ae:=f.hok.fresh (aY _);refine⟨.ref d.heap.objs.size,upd g d.heap.objs.size (.lst xs),f.laid (t':=d.toks) (λb u e=>bn _ e) (aY _) ?_,rfl,q _ m⟩;exact⟨z,j,0,r,cy _ rfl⟩
end
abbrev Sp:=List V->Hp->VK->XK->Prop
abbrev gu:=List Env->Hp->am->XK->ai->am->Prop
structure r_(P:aQ)(w:aE)(K:ax)(mg:Str->Option ai)(base:aB)(A:aT)(outer:List Env)(s:am)(H:Hp):Prop where
 frames:A.frames=aa outer
 mod:Mod K mg base
 bs:∀b o,base.get? b=aa o->s.heap.get? b=aa o/\H b=ae
 bsz:base.objs.size<=s.heap.objs.size
 funs:s.heap.FunFrames base outer
 frf:∀b∈fM outer,H b=ae
 hok:dj P w H s.heap
 bare:nM s.gens
 tab:wV K H
def CE(a:List Env)(P:aQ)(w:aE)(H:Hp)(s:am)(Q:VK)(u:ai)(b:am):Prop :=
 ∃v c,b.os=s.os/\nM b.gens/\Un (fM a) [] H c s.heap b.heap/\dj P w c b.heap/\RelV v u/\Q v c
def CR(c:gu)(a:List Env)(P:aQ)(w:aE)(H:Hp)(s:am)(Q:VK)(E:XK)(r:Result)(b:am):Prop :=
 match r with
 |.ok (.ret u)=>CE a P w H s Q u b
 |.ok _=>False
 |.error e=>c a H s E e b
structure lp(P:aQ)(w:aE)(K:ax)(mg:Str->Option ai)(base:aB)(CX:gu)(k:Nat)(f:ag)(fd:il)(ps:List Str)(sp:Sp):Prop where
 len:∀vs H Q E,sp vs H Q E->vs.length=ps.length
 run:∀(A:aT) (outer:List Env) (s:am) (H:Hp) (args:Args) (us:List ai) (vs:List V) (Q:VK) (E:XK),Room k A->r_ P w K mg base A outer s H->BindsTo s fd args (ps.zip us)->bv vs us->sp vs H Q E ->
  lK (aw P w) A (.call (.ref f) args) (CR CX outer P w H s Q E) s
section
variable{X:Cx}{f:List (ag×Obj)}{a:St}{H:Hp}{s c:am}
theorem Inv.env0(I:Inv X f a H s):r_ X.prog X.w X.K X.mg X.base X.A X.stack s H :=⟨I.ok.frames,I.ok.mod,I.bs,cQ I.ok.bsz I.sz,I.stack,I.stkFree,I.hok,I.bare,I.tab⟩
theorem Inv.after{Q:VK}{u:ai}(I:Inv X f a H s)(h:CE X.stack X.prog X.w H s Q u c):EP X f a Q u c:=by obtain⟨v,o,m,i,un,l,r,q⟩:=h;obtain⟨n,g,d,t,j⟩:=c;obtain rfl:j=s.os:=m;exact⟨v,o,I.call (h':=n) (g':=g) (d':=d) (t':=t) (ch:=[]) un l i (λb z=>absurd z (by simp)),r,q⟩
end
def L6(d:Sp)(a:List V)(E:XK)(t:TA):TE:=λb H Q=>t b H λc f=>d (c++a) f Q E
def Binds(K:ax)(d:il)(b:List Str)(c:List ai):Prop :=
 ∀(s:am) (a:List ai),K.In s.heap->(a++c).length=b.length->BindsTo s d ⟨a,[]⟩ (b.zip (a++c))
theorem Binds.all{K:ax}{d:il}{b:List Str}(h:∀a:List ai,a.length=b.length->fV d ⟨a,[]⟩=pure (b.zip a)):Binds K d b []:=λs a _ c=>by rw[fW]at c ⊢;exact .of_eq (h a c)
def sv(c:gu)(X:Cx)(E:XK):Prop:=∀(b:List (ag×Obj)) (a:St) (H:Hp) (s:am) (e:ai) (s':am),Inv X b a H s->c X.stack H s E e s'->X.xe e s'
section
variable{X:Cx}{l:gu}{k:Nat}{f C:ag}{j:il}{d:List Str}{i:Sp}{a:List V}{c:List ai}{E:XK}{x m:Str}{p b n:Pos}{e o:az}{g:List az}{v:TE}{t:TA}
theorem TD{A:List (ag×Obj)}{z:St}{H:Hp}{s:am}{Q:VK}{q:List ai}{y:List V}(F:lp X.prog X.w X.K X.mg X.base l k f j d i)(J:Room k X.A)(M:Binds X.K j d c)(L:bv a c)(G:sv l X E)(I:Inv X A z H s) (r:bv y q) (h:i (y++a) H Q E):ar (aw X.prog X.w) X.A (call (.ref f) q) (EP X A z Q) X.xe s:=by
 have B:bv (y++a) (q++c):=r.append L;have K:(q++c).length=d.length:=by rw[<-B.length];exact F.len _ _ _ _ h
 refine tf (nW (F.run X.A X.stack s H ⟨q,[]⟩ (q++c) (y++a) Q E J I.env0 (M s q I.kIn K) B h) λr D w=>?_);cases r with
 |error e=>exact G A z H s e D I w
 |ok N=>
  cases N with
  |ret u=>exact I.after w
  |next=>exact im w
  |brk=>exact im w
  |cont=>exact im w
theorem EW(F:lp X.prog X.w X.K X.mg X.base l k f j d i)(A:Room k X.A)(G:Gl X x)(B:X.mg x=aa (.ref f))(D:qE X.K (.ref f)=ah)(L:Binds X.K j d c)(K:bv a c)(z:sv l X E)(M:PA X (e::g) t) (y:(x==("__debug__":Str))=aj:=by decide) (J:aM (e::g) X.env=(aj,aK e X.env)::aM g X.env:=by rfl) (N:(cZ b (aM g X.env)).any (·.1)=aj:=by rfl):PE X (.Call (.Name x p) (e::g) [] b) (L6 i a E t):=by intro O s w H Q I h;refine tj (sU I G B ?_ y);refine Iv (h₀:=X.base) I.ok.mod.kin D (aL (M b O s w H _ I h) λS T ⟨P,W,u,r,q⟩=>⟨u.kIn,?_⟩) J N;exact TD F A L K z u r q
end
structure cb(N P:List Str)(sc:dy):Prop where
 kind:sc.kind=.function
 co:sc.isCoroutine=aj
 gen:sc.isGenerator=aj
 nd:N.Nodup
 pre:N.take P.length=P
 par:∀x∈P,sc.names.lookup x=aa .local\/sc.names.lookup x=aa .cell
 nofree:∀y∈sc.names,y.2≠.free
theorem GD{a:Str->Option gQ}{x:Str}:∀{binds:List (Str×ai)}{m:Str->Option ai},(∀v,(x,v)∉binds)->bindL a binds m x=m x
 |[],_,_=>rfl
 | (n,v)::r,m,h=>by
  unfold bindL;rw[GD λw b=>h w (k6 _ b)];split
  .have:x≠n:=by rintro rfl;exact h v lI
   simp[this]
  .rfl
theorem HY{a:Str->Option gQ}{x:Str}:∀{binds:List (Str×ai)}{m:Str->Option ai},(∀v,(x,v)∉binds)->bindC a binds m x=m x
 |[],_,_=>rfl
 | (n,v)::r,m,h=>by
  unfold bindC;rw[HY λw b=>h w (k6 _ b)];split
  .rfl
  .have:x≠n:=by rintro rfl;exact h v lI
   simp[this]
theorem EK{a:Str->Option gQ}{x:Str}{v:ai}:∀{P:List Str}{b:List ai}{i:Nat}{m:Str->Option ai},P.Nodup->P[i]?=aa x->b[i]?=aa v->a x=aa .local -> bindL a (P.zip b) m x=aa v
 |[],_,_,_,_,h,_,_=>by simp at h
 |_::_,[],_,_,_,_,h,_=>by simp at h
 |p::P,w::b,0,m,nd,h1,h2,hk=>by simp at h1 h2;subst h1;subst h2;show bindL a ((p,w)::P.zip b) m p=_;unfold bindL;rw[GD λv c=>(kx.mp nd).1 (Ci c).1,if_pos hk];simp
 |p::P,w::b,i+1,m,nd,h1,h2,hk=>by show bindL a ((p,w)::P.zip b) m x=_;unfold bindL;exact EK (i:=i) (kx.mp nd).2 (by simpa using h1) (by simpa using h2) hk
theorem HN{a:Str->Option gQ}{x:Str}{v:ai}:∀{P:List Str}{b:List ai}{i:Nat}{m:Str->Option ai},P.Nodup->P[i]?=aa x->b[i]?=aa v->a x≠aa .local -> bindC a (P.zip b) m x=aa v
 |[],_,_,_,_,h,_,_=>by simp at h
 |_::_,[],_,_,_,_,h,_=>by simp at h
 |p::P,w::b,0,m,nd,h1,h2,hk=>by simp at h1 h2;subst h1;subst h2;show bindC a ((p,w)::P.zip b) m p=_;unfold bindC;rw[HY λv c=>(kx.mp nd).1 (Ci c).1,if_neg hk];simp
 |p::P,w::b,i+1,m,nd,h1,h2,hk=>by show bindC a ((p,w)::P.zip b) m x=_;unfold bindC;exact HN (i:=i) (kx.mp nd).2 (by simpa using h1) (by simpa using h2) hk
def start(N:List Str)(a:List V):St:=a.map aa++bO (N.length-a.length) ae
def iF(g:gu)(P:aQ)(w:aE)(K:ax)(mg:Str->Option ai)(base:aB)(N:List Str)(b:Str)(a:dy)(f:ag)(d:ai)(A:aT)(outer:List Env)(s:am)(H:Hp)(E:XK):Cx where
 prog:=P
 w:=w
 K:=K
 mg:=mg
 base:=base
 A:=A.deeper (jo b a s.heap.objs.size f d)
 N:=N
 s₀:=s
 H₀:=H
 env:=jo b a s.heap.objs.size f d
 outer:=outer
 stack:=jo b a s.heap.objs.size f d::outer
 ex:=[]
 calm:=ah
 fn:=λ_=>ah
 pn:=[]
 xe:=λe s'=>ar (aw P w) (A.deeper (jo b a s.heap.objs.size f d)) (leaving (jo b a s.heap.objs.size f d) e) (λ_ c=>g outer H s E e c) (λh c=>g outer H s E h c) s'
theorem Ex{a:dy}{n:Nat}{x:Str}(h:a.names.lookup x=aa .cell):∃c,(fX n a.names []).lookup x=aa c:=by have q:=Iw a.names n [] (.inl h);exact Cj.mp q
theorem FY{X:gu}{P:aQ}{w:aE}{K:ax}{O:Str->Option ai}{o:aB}{N B:List Str}{j:Str}{d:dy}{f:ag}{L:ai}{A:aT}{g:List Env}{s Q:am}{H:Hp}{E:XK}{M:List ai}{t:List V}(S:cb N B d) (Z:A.handled=ae) (m:r_ P w K O o A g s H) (hl:t.length=B.length) (r:bv t M)(x:InCallC s s.heap.objs.size (bindL (jo j d s.heap.objs.size f L).kindOf (B.zip M) λ_=>ae) (fX (s.heap.objs.size+1) d.names []) (bindC (jo j d s.heap.objs.size f L).kindOf (B.zip M) λ_=>ae) Q):Inv (iF X P w K O o N j d f L A g s H E) [] (start N t) H Q:=by
 have dI:B.length<=N.length:=by have:=congrArg kC S.pre;rw[jZ]at this;lia
 obtain⟨J,tk,rfl,W⟩:=x.done;have C:∀b:ag,b∉(iF X P w K O o N j d f L A g s H E).ex:=λb z=>absurd (show b∈([]:List ag)from z) (by simp);refine⟨⟨m.mod,S.kind,rfl,rfl,aY _,λy z c J l=>?_,λy D=>?_,λy c _ h=>?_,λ_=>Z,Around.frames_deeper m.frames,.inr ⟨rfl,rfl⟩,λb z=>absurd z (C b),m.bs,m.bsz,λb _ _=>C b,λb z=>absurd z (C b),m.funs,m.frf,m.tab⟩,rfl,m.bare,Un.kept W,⟨_,x.toInCall.ns,λi y v J l h3=>?_⟩,λy c h=>⟨_,x.cell y c h⟩,m.hok.fresh (aY _),λy c h=>?_,λp G=>absurd (show p∈([]:List (ag×Obj))from G) (by simp),m.hok.kept W,?_⟩
 .exact name_of_addr x.apart (lL J) (lL l)
 .have D:d.names.lookup y=aa .cell\/d.names.lookup y=aa .free:=D;rcases D with D|D
  .exact Ex D
  .exact absurd rfl (S.nofree _ (lL D))
 .exact mn (x.above y c (lL h))
 .have I:i<t.length:=by
   unfold start at l;by_cases I:i<t.length
   .exact I
   .rw[qF (by simpa using I)]at l;rw[List.getElem?_replicate]at l;split at l <;> cases l
  have ha:t[i]?=aa v:=by
   unfold start at l;rw[jD (by simpa using I),kD]at l;cases e:t[i]? with
   |none=>rw[e]at l;cases l
   |some a=>rw[e]at l;cases l;rfl
  obtain⟨u,T,Y⟩:=r.get ha;have G:B[i]?=aa y:=by rw[<-S.pre,List.getElem?_take_of_lt ∅];exact J
  have F:B.Nodup:=by rw[<-S.pre];exact S.nd.sublist (List.take_sublist _ _)
  refine⟨u,Y,?_⟩;rcases S.par y (y3 G)with k|k
  .exact .inl ⟨k,EK F G T k⟩
  .obtain⟨c,e⟩:=Ex (n:=s.heap.objs.size+1) k;refine .inr ⟨.inl k,c,e,?_⟩;have q:=x.cell y c e;rw[HN F G T (by show d.names.lookup y≠_;rw[k];decide)]at q;exact q
 .exact m.hok.fresh (mn (x.above y c (lL h)))
 .unfold start;show _=N.length;rw[cL,cM,List.length_replicate];lia
theorem JZ{M:gu}{P:aQ}{w:aE}{K:ax}{L:Str->Option ai}{h:aB}{k:Nat}{f:ag}{m d:Str}{g:qG}{i:List ba}{a:dy}{dV kV F pm z ct oc:ai}{an od:Option ag}{X:Array (Option ai)}{N G:List Str}{O:Sp} (lk:K.lookup f=aa ⟨oc,od,.func (iT m d g i a dV kV F pm an z ct),X⟩) (bo:vC K z d=ah) (S:cb N G a)(len:∀l H Q E,O l H Q E->l.length=G.length)(gX:∀(A:aT) (c:List Env) (s:am) (H:Hp) (l:List V) (Q:VK) (E:XK),Room k (A.deeper (jo d a s.heap.objs.size f z))->O l H Q E -> ∃t,lD (iF M P w K L h N d a f z A c s H E) i t/\t {nx:=λ_ p=>Q .non p,rt:=Q} (start N l) H):lp P w K L h M (k+1) f (iT m d g i a dV kV F pm an z ct) G O:=by
 refine⟨len,λA c s H args us l Q E Z D hb r ix=>?_⟩;have hl:=len _ _ _ _ ix;have KX:K.In s.heap:=D.mod.kin.keeps λb o e=>(D.bs b o e).1;have Y:s.heap.NoLimit:=D.mod.nolimit.keeps λb o e=>(D.bs b o e).1;have Db:∀y∈G.zip us,a.names.lookup y.1=aa .local\/(a.names.lookup y.1=aa .cell/\((fX (s.heap.objs.size+1) a.names []).lookup y.1).isSome=ah):=λ⟨n,v⟩ hy=>by
  rcases S.par n (Ci hy).1 with q|q
  .exact .inl q
  .exact .inr ⟨q,Iw _ _ _ (.inl q)⟩
 refine codeAny_call_function Z.depth (KX _ _ lk) rfl S.co S.gen rfl (PySem.W.codeRec_of KX bo) (hb _ _ _ _ ?_);refine wpAny_newFunctionEnv_cells S.kind Db λenv he s1 x=>?_;subst he;refine⟨Y.keeps x.toInCall.keep,codeAny_func ?_⟩;obtain⟨t,ht,hq⟩:=gX A c s H l Q E (Z.deeper _) ix;have I:Inv (iF M P w K L h N d a f z A c s H E) [] (start N l) H s1:=FY S Z.hd D hl r x;refine ez (ht [] s1 (start N l) H _ I hq) (λfl T B=>?_) λe T B=>B;have C:∀{j:St}{p:Hp}{v:V}{u:ai},Inv (iF M P w K L h N d a f z A c s H E) [] j p T->RelV v u->Q v p->CE c P w H s Q u T :=λ{j p v u} J W q=>⟨v,p,J.os,J.bare,J.base,J.hok,W,q⟩
 cases fl with
 |ret u=>obtain⟨v,j,p,J,W,q⟩:=B;exact C J W q
 |next=>obtain⟨j,p,J,q⟩:=B;exact C (v:=V.non) (u:=Value.none) J rfl q
 |brk=>obtain⟨_,_,_,q⟩:=B;exact im q
 |cont=>obtain⟨_,_,_,q⟩:=B;exact im q
section
variable{X:Cx}{x:Str}{p a:Pos}{e:az}{b:List az}{t:TA}{c T:String}{r:List V->Hp->VK->Prop}
def G9(r:List V->Hp->VK->Prop)(t:TA):TE:=λd H Q=>t d H λf g=>r f g Q
theorem o4(y:eM X (.builtin c) r)(v:Gl X x)(u:X.mg x=ae)(o:eF x=aa (.builtin c))(z:PA X (e::b) t)(q:x≠"__name__":=by decide)(n:(x==("__debug__":Str))=aj:=by decide)(w:aM (e::b) X.env=(aj,aK e X.env)::aM b X.env:=by rfl) (A:(cZ a (aM b X.env)).any (·.1)=aj:=by rfl):PE X (.Call (.Name x p) (e::b) [] a) (G9 r t):=by intro f s d H Q I h;refine tj (sL I v u o ?_ q n);exact TK (aL (z a f s d H _ I h) λi j ⟨g,C,B,l,m⟩=>y f j d C g i Q B l m) w A
theorem yq(y:eM X (.type T) r)(v:Gl X x)(u:X.mg x=ae)(o:eF x=aa (.type T))(z:PA X (e::b) t)(q:x≠"__name__":=by decide)(n:(x==("__debug__":Str))=aj:=by decide)(w:aM (e::b) X.env=(aj,aK e X.env)::aM b X.env:=by rfl) (A:(cZ a (aM b X.env)).any (·.1)=aj:=by rfl):PE X (.Call (.Name x p) (e::b) [] a) (G9 r t):=by intro f s d H Q I h;refine tj (sL I v u o ?_ q n);exact Iq (aL (z a f s d H _ I h) λi j ⟨g,C,B,l,m⟩=>y f j d C g i Q B l m) w A
end
end L2
namespace HT
section
open PySem.SeqAt
open PySem.AutoSeq1 (wpAny_loadPart')
open PySem.MeetsSeq PySem.MeetsSeq2 PySem.MeetsSeq3
end
section
variable{a:aQ}{w:aE}{A:aT}{E:ai->am->Prop}{s:am}
theorem cat_tup{t b:ag}{d c:List ai}{Q:ai->am->Prop}(B:IsTup s.heap t d.toArray)(C:IsTup s.heap b c.toArray)(u:d≠[])(F:c=[]->Q (.ref t) s) (D:c≠[]->Q (.ref s.heap.objs.size) {s with heap:=s.heap.push {cls:=.type "tuple",data:=.seq (d++c).toArray}})(l:d.length+c.length<=a_):ar (aw a w) A (iS .Add (.ref t) (.ref b)) Q E s:=by
 obtain⟨⟨cls,y,data,o⟩,j,x,n,v⟩:=id B;obtain⟨⟨z,g,m,f⟩,h,r,p,q⟩:=id C;simp only at x v r q;subst x v r q;have e:d.toArray++c.toArray=(d++c).toArray:=by simp
 by_cases i:c=[]
 .exact concat_meets ⟨_,j,rfl⟩ ⟨_,h,rfl⟩ Ix seq_tuple_add Iy Iz (IA _ _)
   (tuple_addW1 t b d.toArray c.toArray n p y g o f (by simpa using u) (by simp[i])) ⟨j,h,F i⟩
 .refine concat_meets ⟨_,j,rfl⟩ ⟨_,h,rfl⟩ Ix seq_tuple_add Iy Iz (IA _ _)
   (tuple_addW2 t b d.toArray c.toArray n p y g o f (by simpa using u) (by simpa using i) (by rw[cg,cg];exact l)) ⟨j,h,?_⟩
  rw[e];exact D i
def sIx(n d:Nat):Option Int->Nat
 |none=>d
 |some v=>if v<0 then(v+(n:Int)).toNat else min v.toNat n
theorem sIx_nat(n d k:Nat):sIx n d (aa (k:Int))=min k n:=by show(if(k:Int)<0 then((k:Int)+(n:Int)).toNat else min (k:Int).toNat n)=min k n;rw[if_neg ∅,o7]
theorem sIx_le(n d:Nat)(c:d<=n)(o:Option Int):sIx n d o<=n:=by
 cases o with
 |none=>exact c
 |some v=>
  show(if v<0 then(v+(n:Int)).toNat else min v.toNat n)<=n;by_cases b:v<0
  .rw[if_pos b];lia
  .rw[if_neg b];exact Nat.min_le_right _ _
theorem Ej(v:Int)(n d:Nat):(if v<0 then max (v+(n:Int)) 0 else min v (n:Int))=((sIx n d (aa v):Nat):Int):=by
 show(if v<0 then max (v+(n:Int)) 0 else min v (n:Int))=(((if v<0 then(v+(n:Int)).toNat else min v.toNat n):Nat):Int)
 by_cases b:v<0
 .simp only[if_pos b];lia
 .simp only[if_neg b];lia
theorem MM(b c:Option Int)(n:Nat):IB b c 1 (n:Int)=(((sIx n 0 b:Nat):Int),((sIx n n c:Nat):Int)):=by
 have d:¬((1:Int)<0):=∅
 unfold IB;simp only[d,if_false];refine Prod.ext ?_ ?_
 .cases b with
  |none=>rfl
  |some v=>exact Ej v n 0
 .cases c with
  |none=>rfl
  |some v=>exact Ej v n n
theorem Qe(i j:Nat):Ck (i:Int) (j:Int) 1=j-i:=by
 unfold Ck;have b:(1:Int) > 0:=∅
 simp only[b,if_true,Cm];split <;> lia
theorem Hv{v:ai}{o:Option Int}{Q:Option Int->am->Prop}(p:nX v o)(h:Q o s):ar (aw a w) A (Builtin.Slice.slicePartIndex v) Q E s:=by
 cases p with
 |none=>exact slicePart_none h
 |int i t=>exact slicePart_int h
theorem Q5{j:ag}{i g:ai}{b c:Option Int}{n:Nat}{Q:Int×Int×Nat->am->Prop}(o:s.heap.IsSliceOf j i g .none)(m:nX i b)(l:nX g c)(h:Q (((sIx n 0 b:Nat):Int),1,sIx n n c-sIx n 0 b) s):ar (aw a w) A (Builtin.Slice.sliceApplied (.ref j) (pure (n:Int))) Q E s:=by
 obtain⟨q,f,p,d⟩:=id o;unfold Builtin.Slice.sliceApplied Builtin.Slice.sliceFields;refine ap (ap (qH f d (x:=i) rfl (ap (qH f d (x:=g) rfl (ap (qH f d (x:=.none) rfl (aG ?_)))))));refine ap (slicePart_none ?_);show ar _ _ (if((1:Int) == 0)=ah then _ else _) _ _ s;rw[if_neg (by decide)];refine ap (Hv m (ap (Hv l (ap (aG ?_)))));show ar _ _ (match IB b c 1 (n:Int)with | (b,c)=>pure (b,(1:Int),Ck b c 1)) _ _ s;rw[MM b c n];show ar _ _ (pure (((sIx n 0 b:Nat):Int),(1:Int),Ck ((sIx n 0 b:Nat):Int) ((sIx n n c:Nat):Int) 1)) _ _ s;rw[Qe];exact aG h
theorem O4(xs:Array ai)(i k:Nat):((cz k).filterMap λ(m:Nat)=>xs[((i:Int)+(m:Int)*1).toNat]?).toArray=((xs.toList.drop i).take k).toArray:=by
 have e:(λ(m:Nat)=>xs[((i:Int)+(m:Int)*1).toNat]?)=λm=>xs[i+m]?:=by
  funext m;have:((i:Int)+(m:Int)*1).toNat=i+m:=∅
  rw[this]
 rw[e];have:=pick_run xs i k;rw[List.filterMap_map]at this;have b:((λx=>xs[x]?) ∘ λx=>i+x)=λm=>xs[i+m]?:=rfl;rw[b]at this;rw[this]
theorem getItem_tuple_cut{t i:ag}{b:Array ai}{o n:ai}{c d:Option Int}{Q:ai->am->Prop}(g:IsTup s.heap t b)(p:s.heap.IsSliceOf i o n .none)(x:nX o c)(v:nX n d)(z:¬(sIx b.size 0 c=0/\sIx b.size b.size d=b.size))(h:Q (.ref s.heap.objs.size) {s with heap:=s.heap.push {cls:=.type "tuple",data:=.seq ((b.toList.drop (sIx b.size 0 c)).take (sIx b.size b.size d-sIx b.size 0 c)).toArray}})(B:b.size<=a_):ar (aw a w) A (qI (.ref t) (.ref i)) Q E s:=by
 have f:sizeOk (.seq ((b.toList.drop (sIx b.size 0 c)).take (sIx b.size b.size d-sIx b.size 0 c)).toArray):=by show((b.toList.drop (sIx b.size 0 c)).take (sIx b.size b.size d-sIx b.size 0 c)).toArray.size<=a_;rw[cg,jZ,k9,nU];lia
 have G:sIx b.size b.size d<=b.size:=sIx_le _ _ (aY _) d;obtain⟨y,u,r,C⟩:=id p;have l:s.TypeIs (.ref i) "slice":=⟨y,u,r⟩
 unfold qI
 try with_reducible refine jn ?_
 first|refine ap (aG ?_)|skip
 refine ap (wpAny_sequenceKey g.typeIs (by decide) ?_);refine ap (wpAny_callSpecial?_slot (name:=vD "__getitem__") g.typeIs TL (vE TL g.typeIs entry_tuple_getitem ?_ (args_tuple_getitem _ _)));show ar _ _ (Builtin.Tuple.tupleItemsOf (.ref t) >>= _) _ _ s;refine ap (tupleItemsOf_ g ?_);refine ap (wpAny_typeOf l ?_);rw[if_pos (by decide)];refine ap (Q5 p x v ?_);have j:¬((((sIx b.size 0 c:Nat):Int) == 0&&(1:Int) == 1&&(sIx b.size b.size d-sIx b.size 0 c) == b.size)=ah):=by intro q;rw[ge,ge]at q;have F:((sIx b.size 0 c:Nat):Int)=0:=eq_of_beq q.1.1;have D:sIx b.size b.size d-sIx b.size 0 c=b.size:=eq_of_beq q.2;exact z ⟨∅,∅⟩
 show ar _ _ (if(((sIx b.size 0 c:Nat):Int) == 0&&(1:Int) == 1&&(sIx b.size b.size d-sIx b.size 0 c) == b.size)=ah then _ else _) _ _ s;rw[if_neg j,O4]
 first
  |exact ap (m:=Cn _) (nY (aG ⟨_,rfl,aG h⟩) f)
  |exact ap (m:=Cn _) (nY (ap (aG (aG ⟨_,rfl,aG h⟩))) f)
  |exact ap (ap (m:=Cn _) (nY (aG (aG ⟨_,rfl,aG h⟩)) f))
  |exact ap (ap (m:=Cn _) (nY (aG ⟨_,rfl,aG h⟩) f))
end
end HT
namespace L2
abbrev TO:=St->Hp->(Option Int->Hp->Prop)->Prop
def PO(X:Cx)(e:Option az)(t:TO):Prop :=
 ∀(b:List (ag×Obj)) (s:am) (a:St) (H:Hp) (Q:Option Int->Hp->Prop),Inv X b a H s->t a H Q ->
  ar (aw X.prog X.w) X.A (evalPart e X.env) (λu d=>∃o c,Inv X b a c d/\nX u o/\Q o c) X.xe s
def RA:TO:=λ_ H Q=>Q ae H
def Me(t:TE):TO:=λa H Q=>t a H λx b=>∃i,x=.int i/\Q (aa i) b
section
variable{X:Cx}{e:az}{f:TE}{c d:Option az}{g j:TO}{n m:Pos}
theorem Np:PO X ae RA:=by intro b s a H Q I h;rw[evalPart_none];exact aG ⟨ae,H,I,.none,h⟩
theorem Pa(h:PE X e f):PO X (aa e) (Me f):=by intro p s a H Q I o;rw[evalPart_some];refine aL (h p s a H _ I o) λu w ζ=>?_;obtain⟨x,v,r,b,l⟩:=ζ;obtain⟨i,rfl,q⟩:=l;obtain⟨t,rfl⟩:=b;exact⟨aa i,v,r,.int i t,q⟩
def ng(X:Cx)(r:V->Option Int->Option Int->Hp->VK->Prop):Prop :=
 ∀(l:List (ag×Obj)) (s:am) (a:St) (H:Hp) (x:V) (v h b:ai) (c d:Option Int) (i:ag) (Q:VK),Inv X l a H s->RelV x v->s.heap.IsSliceOf i h b .none->nX h c->nX b d->r x c d H Q ->
  ∃T o,typeLookup (.type T) "__getitem__"=pure (aa (.builtin o))/\s.TypeIs v T/\ar (aw X.prog X.w) X.A (qI v (.ref i)) (EP X l a Q) X.xe s
theorem ng.or{r p:V->Option Int->Option Int->Hp->VK->Prop}(h:ng X r)(z:ng X p):ng X (λx c d H Q=>r x c d H Q\/p x c d H Q):=by
 intro y s a H x v i b c d l Q I o w u t q;rcases q with q|q
 .exact h y s a H x v i b c d l Q I o w u t q
 .exact z y s a H x v i b c d l Q I o w u t q
def QB(r:V->Option Int->Option Int->Hp->VK->Prop)(f:TE)(g j:TO):TE:=λa H Q=>f a H λx i=>g a i λl h=>j a h λu b=>r x l u b Q
theorem Oj{r:V->Option Int->Option Int->Hp->VK->Prop}(K:ng X r)(N:PE X e f)(L:PO X c g)(G:PO X d j):PE X (.Subscript e (.Slice c d ae m) n) (QB r f g j):=by intro o s i H Q I h;refine Subscript_ (aL (N o s i H _ I h) λv z ζ=>?_);obtain⟨x,H1,Y,A,D⟩:=ζ;refine wpAny_Slice (aL (L o z i H1 _ Y D) λt y ⟨l,Z,W,F,C⟩=>aL (G o y i Z _ W C) λp a ζ=>?_);obtain⟨u,w,S,E,B⟩:=ζ;rw[evalPart_none];refine aG ?_;have P:Inv X o i w {a with heap:=a.heap.push {cls:=.type "slice",data:=.fields #[t,p,.none]}}:=S.kept (t':=a.toks) λb ob q=>bn _ q;obtain⟨T,id,O,J,M⟩:=K o {a with heap:=a.heap.push {cls:=.type "slice",data:=.fields #[t,p,.none]}} i w x v t p l u a.heap.objs.size Q P A (Heap.IsSliceOf.new ..) F E B;show ar (aw X.prog X.w) X.A (Co e (.Slice c d ae m) v (.ref a.heap.objs.size)) (EP X o i Q) X.xe {a with heap:=a.heap.push {cls:=.type "slice",data:=.fields #[t,p,.none]}};exact tail_any (ops:=[.ref a.heap.objs.size,v]) J O M (by with_unfolding_all rfl)
def oO(xs:List V)(c d:Option Int):List V:=(xs.drop (HT.sIx xs.length 0 c)).take (HT.sIx xs.length xs.length d-HT.sIx xs.length 0 c)
theorem Ef(xs:List V)(c d:Option Int):(oO xs c d).length<=xs.length:=by unfold oO;rw[jZ,k9];lia
def GW(K:ax):V->Option Int->Option Int->Hp->VK->Prop:=λx c d H Q=>∃a xs,x=.ref a/\cW K H a xs /\
 ¬(HT.sIx xs.length 0 c=0/\HT.sIx xs.length xs.length d=xs.length)/\∀p,H p=ae->Q (.ref p) (upd H p (.tup (oO xs c d)))
theorem MX:ng X (GW X.K):=by
 intro J s C H x v E D c d F Q I u B y w h;obtain⟨a,xs,rfl,z,A,q⟩:=h;cases u;obtain⟨i,r,t,p⟩:=I.tuple z;have l:i.toArray.size=xs.length:=by rw[cg];exact r.length.symm
 refine⟨"tuple",_,PyProof.Rows.slot_tuple_getitem.lookup,t.typeIs,?_⟩;refine HT.getItem_tuple_cut t B y w (by rw[l];exact A) ?_ (by rw[l];exact p);rw[l];refine⟨.ref s.heap.objs.size,_,I.laid (t':=s.toks) (o:=.tup (oO xs c d)) (λb G q=>bn _ q) (aY _) ?_,rfl,q _ (I.hok.fresh (aY _))⟩;exact⟨cQ (Ef xs c d) p,_,(r.drop (HT.sIx xs.length 0 c)).take (HT.sIx xs.length xs.length d-HT.sIx xs.length 0 c),Ii.new _ _⟩
def E1(K:ax):R2:=λx y H Q=>∃a b xs h,x=.ref a/\y=.ref b/\cW K H a xs/\cW K H b h/\xs≠[]/\xs.length+h.length<=a_ /\
 (h=[]->Q (.ref a) H)/\(h≠[]->∀p,H p=ae->Q (.ref p) (upd H p (.tup (xs++h))))
theorem bv.nil_iff{xs:List V}{a:List ai}(r:bv xs a):a=[]↔xs=[]:=by
 cases r with
 |nil=>simp
 |cons _ _=>simp
theorem Us:b7 X (iS .Add) (E1 X.K):=by
 intro N s L H x y v u Q I B A h;obtain⟨a,b,xs,t,rfl,rfl,K,J,G,r,D,C⟩:=h;cases B;cases A;obtain⟨F,l,E,_⟩:=I.tuple K;obtain⟨p,i,m,_⟩:=I.tuple J;refine HT.cat_tup E m (λz=>G (l.nil_iff.mp z)) (λz=>⟨.ref a,H,I,rfl,D (i.nil_iff.mp z)⟩) (λz=>?_) (by rw[<-l.length,<-i.length];exact r);refine⟨.ref s.heap.objs.size,_,I.laid (t':=s.toks) (o:=.tup (xs++t)) (λb M q=>bn _ q) (aY _) ?_,rfl,C (λw=>z (i.nil_iff.mpr w)) _ (I.hok.fresh (aY _))⟩;exact⟨by rw[cL];exact r,_,l.append i,Ii.new _ _⟩
end
def kM(n:Nat)(i:Int):Option Nat:=if 0<=i then(if i<n then aa i.toNat else ae)else if -(n:Int)<=i then aa (i+n).toNat else ae
def gw{a:Type}(xs:List a)(i:Int):Option a:=(kM xs.length i).bind λj=>xs[j]?
theorem EZ{n:Nat}{i:Int}{j:Nat}(h:kM n i=aa j):seqIndex? i n=aa j/\j<n/\-(n:Int)<=i/\i<n:=by
 unfold kM at h;by_cases b:0<=i
 .rw[if_pos b]at h;by_cases a:i<n
  .rw[if_pos a]at h;have e:i.toNat=j:=dQ h;exact⟨by rw[seqIndex_of b a,e],∅,∅,a⟩
  .rw[if_neg a]at h;cases h
 .rw[if_neg b]at h;by_cases a:-(n:Int)<=i
  .rw[if_pos a]at h;have e:(i+n).toNat=j:=dQ h;exact⟨by rw[seqIndex_neg ∅ a,e],∅,a,∅⟩
  .rw[if_neg a]at h;cases h
theorem z9{a:Type}{xs:List a}{i:Int}{v:a}(h:gw xs i=aa v):∃j,seqIndex? i xs.length=aa j/\xs[j]?=aa v/\j<xs.length/\-(xs.length:Int)<=i/\i<xs.length:=by
 unfold gw at h;cases e:kM xs.length i with
 |none=>rw[e]at h;cases h
 |some j=>rw[e]at h;obtain⟨f,d,c,b⟩:=EZ e;exact⟨j,f,h,d,c,b⟩
theorem QO{a:Type}{xs:List a}{j:Nat}{v:a}(h:xs[j]?=aa v):gw xs (j:Int)=aa v:=by
 have b:j<xs.length:=(dR.mp h).1;have e:kM xs.length (j:Int)=aa j:=by unfold kM;rw[if_pos ∅,if_pos ∅];simp
 unfold gw;rw[e];exact h
def Gz(b:az):Prop:=∀o i,Cp b aj o i=operate [o,i] (qI o i)
def mS(X:Cx)(r:R2):Prop :=
 ∀(b a:az) (d:List (ag×Obj)) (s:am) (c:St) (H:Hp) (x y:V) (v u:ai) (Q:VK),Inv X d c H s->RelV x v->RelV y u->r x y H Q ->
  Cp a aj v u=operate [v,u] (qI v u)->ar (aw X.prog X.w) X.A (Co b a v u) (EP X d c Q) X.xe s
def sX(X:Cx)(d:String)(r:V->List V->Hp->VK->Prop):Prop :=
 ∀(c:List (ag×Obj)) (s:am) (a:St) (H:Hp) (x:V) (xs:List V) (v:ai) (b:List ai) (Q:VK),Inv X c a H s->RelV x v->bv xs b->r x xs H Q ->
  ar (aw X.prog X.w) X.A (call (.builtin d) (v::b)) (EP X c a Q) X.xe s
section
variable{X:Cx}{a b:az}{F E:TE}{D:Pos}
theorem mS.or{r j:R2}(h:mS X r)(n:mS X j):mS X (λx y H Q=>r x y H Q\/j x y H Q):=by
 intro c d m s f H x y v u Q I i g q l;rcases q with q|q
 .exact h c d m s f H x y v u Q I i g q l
 .exact n c d m s f H x y v u Q I i g q l
theorem Nz{r:R2}(j:mS X r)(m:PE X a F)(l:PE X b E)(i:Gz b):PE X (.Subscript a b D) (xl r F E):=by intro n s c H Q I h;exact Subscript_ (BP m l I h λv u d x y p o g f q=>j a b n d c p x y v u Q o g f q (i _ _))
def GL(K:ax):R2:=λx y H Q=>∃p xs i v,x=.ref p/\y=.int i/\cE K H p xs/\gw xs i=aa v/\Q v H
def Du(K:ax):R2:=λx y H Q=>∃p xs i v,x=.ref p/\y=.int i/\cW K H p xs/\gw xs i=aa v/\Q v H
def DQ:R2:=λx y H Q=>∃z i c,x=.str z/\y=.int i/\z.length<=a_/\gw z.cps.toList i=aa c/\Q (.str ⟨#[c]⟩) H
theorem Uv:mS X (GL X.K):=by
 intro f g J s A H x y v u Q I M L h B;obtain⟨p,xs,i,z,rfl,rfl,N,P,q⟩:=h;cases M;obtain⟨t,rfl⟩:=L;obtain⟨n,r,m,Y⟩:=I.list N;obtain⟨j,d,W,h3,T,S⟩:=z9 P;obtain⟨w,G,l⟩:=r.get W;have O:=r.length;have Z:=p9;have c:EP X J A Q w s:=⟨z,H,I,l,q⟩
 by_cases C:0<=i
 .have o:i.toNat=j:=by
   rw[seqIndex_of C S]at d;exact dQ d
  exact item_listR m.isList C ∅ (by rw[o];simpa using G) c B
 .have o:(i+(n.toArray.size:Int)).toNat=j:=by
   rw[seqIndex_neg ∅ T]at d;rw[cg,<-O];exact dQ d
  exact subscriptTail_builtinR (x:=w) m.isList.typeIs slot_list_getitem.lookup
   (wpAny_getItem_list_neg (Q:=λr K=>r=w/\EP X J A Q r K) m.isList ∅ (by rw[cg] <;> lia) ∅ (by rw[o];simpa using G) ⟨rfl,c⟩) B
theorem UA:mS X (Du X.K):=by
 intro c d n s l H x y v u Q I B A h G;obtain⟨p,xs,i,z,rfl,rfl,J,L,q⟩:=h;cases B;obtain⟨t,rfl⟩:=A;obtain⟨C,r,m,P⟩:=I.tuple J;obtain⟨j,N,M,Y,W,T⟩:=z9 L;obtain⟨w,O,f⟩:=r.get M;have K:=r.length;have S:=p9;have g:EP X n l Q w s:=⟨z,H,I,f,q⟩
 exact subscriptTail_builtinR (x:=w) m.typeIs slot_tuple_getitem.lookup
  (getItem_tuple (j:=j) (Q:=λr o=>r=w/\EP X n l Q r o) m ∅ ∅ (by rw[cg,<-K];exact N) (by simpa using O) ⟨rfl,g⟩) G
theorem Od:mS X DQ:=by
 intro d f N s G H x y v u Q I m l h n;obtain⟨z,i,c,rfl,rfl,K,p,q⟩:=h;obtain⟨t,rfl⟩:=m;obtain⟨J,rfl⟩:=l;obtain⟨j,g,A,M,w,r⟩:=z9 p;have o:z.cps.toList.length=z.length:=by simp[mv]
 rw[o]at g w r;have L:=p9;exact tail_any (vF s z t) slot_str_getitem.lookup (getItem_str (c:=c) (by have C:decide (i < -(2^63:Int))=aj:=decide_eq_false ∅;have B:decide (i ≥ 2^63)=aj:=decide_eq_false ∅;rw[C,B,Bool.or_false]) (by rw[g];simpa using A) ⟨.str ⟨#[c]⟩,H,I.tok _,⟨_,rfl⟩,q⟩) n
def Hg(K:ax):R2:=λx y H Q=>GL K x y H Q\/Du K x y H Q\/DQ x y H Q
theorem iP:mS X (Hg X.K):=Uv.or (UA.or Od)
theorem LW(c:List ai)(n j:Nat)(u:ai):io (·.setIfInBounds j u) {cls:=.type "list",data:=.seq c.toArray n}={cls:=.type "list",data:=.seq (c.set j u).toArray n}:=by simp[io]
theorem Inv.lst{d:List (ag×Obj)}{c:St}{H:Hp}{s:am}{p:ag}{xs:List V}(I:Inv X d c H s)(h:H p=aa (.lst xs)):∃(its:List ai) (n:Nat),bv xs its/\s.heap.get? p=aa {cls:=.type "list",data:=.seq its.toArray n}/\xs.length<=a_:=by obtain⟨z,its,n,r,e⟩:=I.hok p _ h;exact⟨its,n,r,e,z⟩
theorem Inv.lstUpd{m:List (ag×Obj)}{j:St}{H:Hp}{s:am}{p:ag}{xs g:List V}{d c:List ai}{n i:Nat}{f:Obj->Obj}(I:Inv X m j H s)(h:H p=aa (.lst xs))(v:s.heap.get? p=aa {cls:=.type "list",data:=.seq d.toArray n}) (l:f {cls:=.type "list",data:=.seq d.toArray n}={cls:=.type "list",data:=.seq c.toArray i}) (r:bv g c) (o:g.length<=a_) (t:Nat):Inv X m j (upd H p (.lst g)) {s with heap:=s.heap.update p f,toks:=t}:=by
 have e:(s.heap.update p f).get? p=aa {cls:=.type "list",data:=.seq c.toArray i}:=by rw[o8 f v (by rw[l] <;> rfl),l]
 refine I.write (x:=p) (e:=p) (by rw[h];trivial) (.inl rfl) (λb u w q=>(o9 _ _ (dY w)).trans q) ⟨_,e⟩ ?_;exact⟨o,c,i,r,e⟩
def KR:V->V->V->Hp->(Hp->Prop)->Prop:=λo i v H Q=>∃p xs k j,o=.ref p/\i=.int k/\H p=aa (.lst xs)/\kM xs.length k=aa j/\Q (upd H p (.lst (xs.set j v)))
theorem SJ:GQ X KR:=by
 intro L s A H o i v ov M u Q I C G B h;obtain⟨p,xs,k,j,rfl,rfl,m,K,q⟩:=h;cases C;obtain⟨t,rfl⟩:=G;obtain⟨c,n,r,f,J⟩:=I.lst m;obtain⟨d,O,x,w⟩:=EZ K;have g:=r.length;have N:=p9;have z:Inv X L A (upd H p (.lst (xs.set j v))) {s with heap:=s.heap.update p (io (·.setIfInBounds j u))} :=I.lstUpd m f (LW c n j u) (r.set B j) (by rw[gR];exact J) s.toks;by_cases y:0<=k
 .have l:k.toNat=j:=by
   rw[seqIndex_of y w]at d;exact dQ d
  exact PySem.W.ki_setAt f y ∅ (by rw[cg,<-g];exact w) (by rw[l];exact⟨_,z,q⟩)
 .have l:(k+(c.toArray.size:Int)).toNat=j:=by
   rw[seqIndex_neg ∅ x]at d;rw[cg,<-g];exact dQ d
  exact PySem.W.ki_setBack f ∅ (by rw[cg,<-g];exact x) ∅ (by rw[l];exact⟨_,z,q⟩)
theorem Pl(c d:Option Int)(n:Nat):(tm c d ae n).1=((HT.sIx n 0 c:Nat):Int)/\(tm c d ae n).2.1=((HT.sIx n n d:Nat):Int)/\(tm c d ae n).2.2=1:=by
 refine⟨?_,?_,rfl⟩
 .cases c with
  |none=>simp[tm,HT.sIx]
  |some i=>
   simp only[tm,HT.sIx,IC,show(1:Int) > 0 by decide,if_true];by_cases h:i<0
   .simp only[h,if_true] <;> lia
   .simp only[h,if_false] <;> lia
 .cases d with
  |none=>simp[tm,HT.sIx]
  |some i=>
   simp only[tm,HT.sIx,IC,show(1:Int) > 0 by decide,if_true];by_cases h:i<0
   .simp only[h,if_true] <;> lia
   .simp only[h,if_false] <;> lia
theorem KU(c:List ai)(d f:Option Int):slicePick c.toArray d f ae=((c.drop (HT.sIx c.length 0 d)).take (HT.sIx c.length c.length f-HT.sIx c.length 0 d)).toArray:=by obtain⟨i,h,g⟩:=Pl d f c.toArray.size;unfold slicePick;rw[i,h,g];simp only[sliceRange_one,pick_run,cg] <;> rfl
def FG(K:ax):V->Option Int->Option Int->Hp->VK->Prop:=λx c d H Q=>∃a xs,x=.ref a/\cE K H a xs/\∀p,H p=ae->Q (.ref p) (upd H p (.lst (oO xs c d)))
theorem Um:ng X (FG X.K):=by
 intro B s u H x v y w c d z Q I g p j i h;obtain⟨a,xs,rfl,n,q⟩:=h;cases g;obtain⟨l,r,f,m⟩:=I.list n;have t:=r.length;refine⟨"list",_,slot_list_getitem.lookup,f.isList.typeIs,?_⟩;refine wpAny_getItem_list_slice f.isList p j i .none (by simp) ?_ (by rw[cg] <;> lia);rw[KU,<-t];refine⟨.ref s.heap.objs.size,_,I.laid (t':=s.toks) (o:=.lst (oO xs c d)) (λb A q=>bn _ q) (aY _) ?_,rfl,q _ (I.hok.fresh (aY _))⟩;exact⟨cQ (Ef xs c d) m,_,0,(r.drop (HT.sIx xs.length 0 c)).take (HT.sIx xs.length xs.length d-HT.sIx xs.length 0 c),cy _ rfl⟩
def gb:V->Bool
 |.non=>ah
 |.bl _=>ah
 |.int _=>ah
 |.str _=>ah
 |_=>aj
def dJ:V->V->Bool
 |.non,.non=>ah
 |.bl a,.bl b=>a == b
 |.bl a,.int b=>(if a then 1 else 0) == b
 |.int a,.bl b=>a == (if b then 1 else 0)
 |.int a,.int b=>a == b
 |.str a,.str b=>a == b
 |_,_=>aj
theorem FI{A:aT}{s:am}{y x:V}{u v:ai}(f:RelV y u)(c:RelV x v)(h:gb y=ah)(g:gb x=ah):vG A s u v (dJ y x):=by
 cases y with
 |non=>
  cases f;cases x with
  |non=>cases c;exact SeqAt.EqAt.same _
  |bl b=>cases c;exact SeqAt.EqAt.none_bool b
  |int b=>obtain⟨t,rfl⟩:=c;exact SeqAt.EqAt.none_int b t
  |str b=>obtain⟨t,rfl⟩:=c;exact SeqAt.EqAt.none_str b t
  |_=>exact absurd (show aj=ah from g) fc
 |bl a=>
  cases f;cases x with
  |non=>cases c;exact SeqAt.EqAt.bool_none a
  |bl b=>cases c;exact SeqAt.EqAt.bool_bool a b
  |int b=>obtain⟨t,rfl⟩:=c;exact SeqAt.EqAt.bool_int a b t
  |str b=>obtain⟨t,rfl⟩:=c;exact SeqAt.EqAt.bool_str a b t
  |_=>exact absurd (show aj=ah from g) fc
 |int a=>
  obtain⟨d,rfl⟩:=f;cases x with
  |non=>cases c;exact SeqAt.EqAt.int_none a d
  |bl b=>cases c;exact SeqAt.EqAt.int_bool a d b
  |int b=>obtain⟨t,rfl⟩:=c;exact SeqAt.EqAt.int_int a d b t
  |str b=>obtain⟨t,rfl⟩:=c;exact SeqAt.EqAt.int_str a d b t
  |_=>exact absurd (show aj=ah from g) fc
 |str a=>
  obtain⟨d,rfl⟩:=f;cases x with
  |non=>cases c;exact SeqAt.EqAt.str_none a d
  |bl b=>cases c;exact SeqAt.EqAt.str_bool a d b
  |int b=>obtain⟨t,rfl⟩:=c;exact SeqAt.EqAt.str_int a d b t
  |str b=>obtain⟨t,rfl⟩:=c;exact ID a d b t
  |_=>exact absurd (show aj=ah from g) fc
 |_=>exact absurd (show aj=ah from h) fc
def jA(x:V)(u:ai):Bool:=match u with
 |.none=>dJ .non x
 |.bool b=>dJ (.bl b) x
 |.int i _=>dJ (.int i) x
 |.str z _=>dJ (.str z) x
 |_=>aj
theorem ut{x y:V}{u:ai}(r:RelV y u)(f:gb y=ah):jA x u=dJ y x:=by
 cases y with
 |non=>cases r;rfl
 |bl b=>cases r;rfl
 |int i=>obtain⟨t,rfl⟩:=r;rfl
 |str z=>obtain⟨t,rfl⟩:=r;rfl
 |_=>exact absurd (show aj=ah from f) fc
theorem F9{x:V}{xs:List V}{c:List ai}(r:bv xs c)(f:xs.all gb=ah):c.any (jA x)=xs.any λy=>dJ y x:=by
 unfold bv at r
 induction r with
 |nil=>rfl
 |cons r _ g=>rw[tq,ge]at f;rw[qJ,qJ,ut r f.1,g f.2]
theorem ui{A:aT}{s:am}{x:V}{v:ai}(i:RelV x v)(j:gb x=ah){xs:List V}{d:List ai}(r:bv xs d)(f:xs.all gb=ah):∀u∈d,vG A s u v (jA x u):=by
 unfold bv at r
 induction r with
 |nil=>exact λu c=>by cases c
 |cons r _ g=>
  intro h c;rw[tq,ge]at f;rcases bE.mp c with rfl|c
  .rw[ut r f.1];exact FI r i f.1 j
  .exact g f.2 h c
def uG(x:V)(xs:List V):Bool:=xs.any λy=>dJ y x
def AT(K:ax)(c:Bool):R2:=λx y H Q=>∃p xs,y=.ref p/\(cE K H p xs\/cW K H p xs)/\gb x=ah/\xs.all gb=ah/\Q (.bl (if c then !uG x xs else uG x xs)) H
theorem RE:b7 X (eC .In) (AT X.K aj):=by
 intro o s n H x y v u Q I i l h;obtain⟨p,xs,rfl,d,j,fs,q⟩:=h;cases l;rcases d with d|d
 .obtain⟨c,r,f,m⟩:=I.list d;refine SeqAt.in_listAt (jA x) f.isList (λw g=>ui i j r fs w (by simpa using g)) ⟨.bl _,H,I,rfl,?_⟩;rw[show c.toArray.any (jA x)=c.any (jA x) by simp,F9 r fs];exact q
 .obtain⟨c,r,f,m⟩:=I.tuple d;refine SeqAt.in_tupleAt (jA x) f (λw g=>ui i j r fs w (by simpa using g)) ⟨.bl _,H,I,rfl,?_⟩;rw[show c.toArray.any (jA x)=c.any (jA x) by simp,F9 r fs];exact q
theorem eM.or{f:ai}{r i:List V->Hp->VK->Prop}(h:eM X f r)(l:eM X f i):eM X f (λxs H Q=>r xs H Q\/i xs H Q):=by
 intro j s c H xs d Q I g q;rcases q with q|q
 .exact h j s c H xs d Q I g q
 .exact l j s c H xs d Q I g q
theorem HV:eM X (.type "list") (λxs H Q=>∃p f,xs=[.ref p]/\(cE X.K H p f\/cW X.K H p f)/\∀l,H l=ae->Q (.ref l) (upd H l (.lst f))):=by
 intro J s B H xs K Q I r h;obtain⟨p,f,rfl,t,q⟩:=h;obtain⟨u,rfl,C⟩:=vals1 r;cases C;have v:∀(c:List ai),bv f c->f.length<=a_->∀(d:aB) (i:Nat),(∀b A,s.heap.get? b=aa A->d.get? b=aa A) ->
   d.get? s.heap.objs.size=aa {cls:=.type "list",dict:=ae,data:=.seq c.toArray i,slots:=#[]}->EP X J B Q (.ref s.heap.objs.size) {s with heap:=d}:=λc g m d i j e=>
  ⟨.ref s.heap.objs.size,_,I.laid (t':=s.toks) j (aY _) (show cq X.prog X.w _ d _ (.lst f)from⟨m,c,i,g,e⟩),rfl,q _ (I.hok.fresh (aY _))⟩
 rcases t with t|t
 .obtain⟨c,g,w,m⟩:=I.list t;have G:=g.length;obtain⟨o,x,z,n,y⟩:=w.isList;exact call_list_seq p (.inl rfl) x z y (λd i j e=>v c g m d i j e) (by simp only[cg] <;> lia)
 .obtain⟨c,g,w,m⟩:=I.tuple t;have G:=g.length;obtain⟨o,x,z,n,y⟩:=w;exact call_list_seq p (.inr rfl) x z y (λd i j e=>v c g m d i j e) (by simp only[cg] <;> lia)
theorem yy:eM X (.type "tuple") (λxs H Q=>∃p d,xs=[.ref p]/\((cE X.K H p d/\∀l,H l=ae->Q (.ref l) (upd H l (.tup d)))\/(cW X.K H p d/\Q (.ref p) H))):=by
 intro n s j H xs y Q I r h;obtain⟨p,d,rfl,h⟩:=h;obtain⟨u,rfl,v⟩:=vals1 r;cases v;rcases h with⟨hq,q⟩|⟨hq,q⟩
 .obtain⟨c,g,i,m⟩:=I.list hq;have z:=g.length;refine call_tuple_list i.isList (λf w=>?_) (by simp only[cg] <;> lia);have t:Inv X n j H {s with heap:=f}:=I.kept (t':=s.toks) w;have x:Inv X n j (upd H f.objs.size (.tup d)) {s with heap:=f.push {cls:=.type "tuple",data:=.seq c.toArray}} :=t.laid (t':=s.toks) (λb o e=>bn _ e) (aY _) (show cq X.prog X.w _ _ _ (.tup d)from⟨m,c,g,Ii.new _ _⟩);exact⟨.ref f.objs.size,_,x,rfl,q _ (t.hok.fresh (aY _))⟩
 .obtain⟨c,g,i,m⟩:=I.tuple hq;exact call_tuple_same i ⟨.ref p,H,I,rfl,q⟩
def B2(K:ax)(T:String)(x:V)(H:Hp):Prop:=match x with
 |.str _=>T = "str"
 |.int _=>T = "int"
 |.ref p=>(T = "list"/\∃xs,cE K H p xs)\/(T = "tuple"/\∃o,K.lookup p=aa o/\o.cls=.type "tuple"/\o.dict=ae) \/
   (T = "dict"/\((∃c,H p=aa (.dK c))\/∃c,H p=aa (.dT c)))\/(T = "set"/\∃S n,H p=aa (.set S n))
 |_=>False
theorem E6{q:List (ag×Obj)}{l:St}{H:Hp}{s:am}{T:String}{x:V}{v:ai}(I:Inv X q l H s)(r:RelV x v)(ty:B2 X.K T x H):s.TypeIs v T/\∀a,v=.ref a->∃j,s.heap.get? a=aa j/\j.dict=ae:=by
 cases x with
 |str z=>
  obtain⟨t,rfl⟩:=r;cases (show T = "str" from ty);exact⟨vF s z t,λ_ e=>nomatch e⟩
 |int i=>
  obtain⟨t,rfl⟩:=r;cases (show T = "int" from ty);exact⟨typeIs_int s i t,λ_ e=>nomatch e⟩
 |ref p=>
  cases r;rcases ty with⟨rfl,xs,hq⟩|⟨rfl,o,hk,hc,f⟩|⟨rfl,hk⟩|⟨rfl,S,n,hk⟩
  .obtain⟨m,_,h,_⟩:=I.list hq;refine⟨h.isList.typeIs,λa e=>?_⟩;cases e;obtain⟨o,n,e,c,f,_⟩:=h;exact⟨o,e,f⟩
  .refine⟨⟨o,I.kIn p o hk,hc⟩,λa e=>?_⟩;cases e;exact⟨o,I.kIn _ o hk,f⟩
  .have z:∃o,s.heap.get? p=aa o/\o.ExactDict:=by
    rcases hk with⟨kvs,hk⟩|⟨kvs,hk⟩
    .obtain⟨_,_,_,_,o,_,_,e,d,_⟩:=I.hok p _ hk;exact⟨o,e,d⟩
    .obtain⟨_,_,_,_,o,_,_,e,d,_⟩:=I.hok p _ hk;exact⟨o,e,d⟩
   obtain⟨o,e,d⟩:=z;refine⟨⟨o,e,d.1⟩,λa g=>?_⟩;cases g;exact⟨o,e,d.2.1⟩
  .obtain⟨o,_,_,_,e,d,_⟩:=I.hok p _ hk;refine⟨⟨o,e,d.1⟩,λa g=>?_⟩;cases g;exact⟨o,e,d.2.1⟩
 |_=>exact im ty
def QN(K:ax)(T:String)(r:V->List V->Hp->VK->Prop)(to:TE):TE:=λd H Q=>to d H λx c=>B2 K T x c/\r x [] c Q
def L9(K:ax)(T:String)(r:V->List V->Hp->VK->Prop)(to:TE)(t:TA):TE:=λc H Q=>to c H λx d=>B2 K T x d/\t c d λxs f=>r x xs f Q
variable{o e:az}{es:List az}{to:TE}{t:TA}{m:Str}{B d:Pos}{T C:String}{r:V->List V->Hp->VK->Prop}
theorem ER(p:PlainAttrs T)(c:Slot T m C)(q:typeOf (.builtin C)=pure (.type "method_descriptor"))(z:sX X C r)(y:PE X o to)(w:j0 o m X.env (aK o X.env)=aK o X.env:=by rfl) (u:(B.endLine == d.line)=ah:=by rfl):PE X (.Call (.Attribute o m B) [] [] d) (QN X.K T r to):=by intro i s f H Q I h;refine wpAny_Call_method0_late w u (aL (y i s f H _ I h) λv l ζ=>?_);obtain⟨x,J,j,g,ty,n⟩:=ζ;obtain⟨G,A⟩:=E6 j g ty;exact⟨T,C,p,c,q,G,A,Cq rfl (PySem.evalArgs_none (z i l f J x [] v [] Q j g .nil n))⟩
theorem va(J:PlainAttrs T)(c:Slot T m C)(K:typeOf (.builtin C)=pure (.type "method_descriptor"))(P:sX X C r)(O:PE X o to)(S:PA X (e::es) t)(M:j0 o m X.env (aK o X.env)=aK o X.env:=by rfl)(u:((cZ d (aM (e::es) X.env)).all (λx=>!x.1)&&(qK d (qL [] X.env)).all (λx=>x.1.isSome)&&decide ((e::es).length+([]:List jE).length+(if([]:List jE).isEmpty then 0 else 1)<30))=ah:=by rfl)(L:(B.endLine == d.line)=ah:=by rfl) (N:aM (e::es) X.env=(aj,aK e X.env)::aM es X.env:=by rfl) (p:(cZ d (aM es X.env)).any (·.1)=aj:=by rfl):PE X (.Call (.Attribute o m B) (e::es) [] d) (L9 X.K T r to t):=by intro g s f H Q I h;refine wpAny_Call_method_late M u L rfl (aL (O g s f H _ I h) λv y ζ=>?_);obtain⟨x,H1,l,i,ty,G⟩:=ζ;obtain⟨Y,W⟩:=E6 l i ty;refine⟨T,C,J,c,K,Y,W,?_⟩;have j:=S d g y f H1 _ l G;rw[N]at j ⊢;refine Cq (by show(aj||(cZ d (aM es X.env)).any (·.1))=aj;rw[p] <;> rfl) (Cr ?_);exact aL j λq w ⟨n,H2,Z,z,A⟩=>P g w f H2 x n v q Q Z i z A
end
def vr(X:Cx)(d:String)(r:V->List V->Hp->VK->Prop):Prop :=
 ∀(c:List (ag×Obj)) (s:am) (a:St) (H:Hp) (x:V) (xs:List V) (v:ai) (b:List ai) (Q:VK),Inv X c a H s->RelV x v->bv xs b->r x xs H Q ->
  ar (aw X.prog X.w) X.A (call (.builtin d) (v::b)) (EP X c a Q) X.xe s
theorem bv.one{x:V}{a:List ai}(h:bv [x] a):∃u,a=[u]/\RelV x u:=by
 cases h with
 |cons r t=>cases t;exact⟨_,rfl,r⟩
theorem bv.zero:∀{a:List ai},bv [] a->a=[]
 |_,.nil=>rfl
theorem bv.rep{xs:List V}{a:List ai}(h:bv xs a):∀k:Nat,bv (bO k xs).flatten (bO k a).flatten
 |0=>.nil
 |k+1=>by rw[o_,o_,tt,tt];exact bv.append h (bv.rep h k)
theorem foldl_rep(a:List ai):∀(k:Nat) (b:List ai), List.foldl (λd c=>d++c) b.toArray (bO k a.toArray)=(b++(bO k a).flatten).toArray
 |0,b=>by simp
 |k+1,b=>by
  have e:b.toArray++a.toArray=(b++a).toArray:=by simp
  have f:(b++a)++(bO k a).flatten=b++(bO (k+1) a).flatten:=by rw[o_,tt,eG]
  rw[<-f,<-foldl_rep a k (b++a),<-e,o_,k_]
section
variable{X:Cx}{d:List (ag×Obj)}{a:St}{H:Hp}{s:am}{l b:ag}{g c i:List V}
theorem Inv.lset{h its':List ai}{n:Nat}{f:Array ai->Array ai}{j:Nat}(I:Inv X d a H s)(v:H l=aa (.lst g))(e:s.heap.get? l=aa {cls:=.type "list",data:=.seq h.toArray n}) (r:f h.toArray=its'.toArray) (o:bv c its') (m:c.length<=a_):Inv X d a (upd H l (.lst c)) {s with heap:=s.heap.update l (io f),toks:=j}:=by have q:=PySem.IsL.update e f;rw[r]at q;refine I.write (x:=l) (e:=l) (by rw[v];exact trivial) (.inl rfl) (λw u t p=>(o9 s.heap (io f) (dY t)).trans p) ⟨_,q⟩ ?_;exact⟨m,its',_,o,q⟩
theorem Inv.lnew{its:List ai}{t':Nat}(I:Inv X d a H s)(h:bv c its)(f:c.length<=a_):Inv X d a (upd H s.heap.objs.size (.lst c)) {s with heap:=s.heap.push {cls:=.type "list",data:=.seq its.toArray},toks:=t'} :=I.laid (λ_ _ q=>bn _ q) (aY _) ⟨f,its,0,h,cy _ rfl⟩
theorem Inv.fresh(I:Inv X d a H s):H s.heap.objs.size=ae:=I.hok.fresh (aY _)
theorem Inv.lstM(I:Inv X d a H s)(h:H l=aa (.lst g)):g.length<=a_/\∃(f:List ai) (n:Nat),bv g f/\g.length=f.length/\s.heap.get? l=aa {cls:=.type "list",data:=.seq f.toArray n}:=by obtain⟨z,f,n,r,e⟩:=I.hok l _ h;exact⟨z,f,n,r,r.length,e⟩
theorem Q1{n:Nat}(h:n<=a_):IE n=aj:=by unfold IE;exact decide_eq_false ∅
end
section
variable{X:Cx}
def OX:V->List V->Hp->VK->Prop:=λx a H Q=>∃l xs y,x=.ref l/\a=[y]/\H l=aa (.lst xs)/\xs.length<a_/\Q .non (upd H l (.lst (xs++[y])))
theorem Gs:vr X "list.append" OX:=by
 intro o s f H x g v i Q I b c h;obtain⟨l,xs,y,rfl,rfl,a,j,q⟩:=h;cases b;obtain⟨u,rfl,d⟩:=c.one;obtain⟨z,its,n,r,m,e⟩:=I.lstM a;refine tu F.slot_list_append ⟨_,e,rfl⟩ F.entry_list_append (F.args_list_append_2 _ _) (PySem.list_append l its.toArray n u (by rw[cg];lia)) ⟨e,?_⟩;refine⟨.non,_,I.lset (its':=its++[u]) a e (by simp) (r.append (.cons d .nil)) ?_,rfl,q⟩;rw[cL,pc];lia
theorem AZ{a:Type}(xs:List a)(k:Nat):(bO k xs).flatten.length=k*xs.length:=by
 induction k with
 |zero=>simp
 |succ k b=>rw[o_,tt,cL,b,Cs,Nat.add_comm]
end
section
variable{κ:Type}[DecidableEq κ]
def fP(a:List (κ×V))(k:κ):Option V:=(a.find? λb=>decide (b.1=k)).map (·.2)
def h_(a:List (κ×V))(k:κ)(v:V):List (κ×V) :=if(a.any λb=>decide (b.1=k))=ah then a.map (λb=>if b.1=k then(b.1,v)else b)else a++[(k,v)]
theorem sF{p:κ×V}{r:List (κ×V)}{k:κ}(e:p.1=k):fP (p::r) k=aa p.2:=by simp[fP,iU,e]
theorem sj{p:κ×V}{r:List (κ×V)}{k:κ}(e:¬p.1=k):fP (p::r) k=fP r k:=by simp[fP,iU,e]
theorem EM(k:κ):∀a:List (κ×V),(a.any λb=>decide (b.1=k))=(fP a k).isSome
 |[]=>rfl
 |p::r=>by
  rw[qJ];by_cases e:p.1=k
  .simp only[sF e,decide_eq_true e,Bool.true_or,Option.isSome_some]
  .rw[sj e,decide_eq_false e,Bool.false_or];exact EM k r
theorem B0(a:List (κ×V))(k:κ)(v:V):(h_ a k v).length<=a.length+1:=by
 unfold h_;split
 .rw[cM];lia
 .rw[cL,d_,j3];lia
theorem nK.isSome_eq{o:Option V}{u:Option ai}(r:nK o u):o.isSome=u.isSome:=by
 cases o with
 |none=>cases u with
  |none=>rfl
  |some _=>exact(show False from r).elim
 |some _=>cases u with
  |none=>exact(show False from r).elim
  |some _=>rfl
theorem nK.getD{o:Option V}{u:Option ai}{d:V}{a:ai}(r:nK o u)(rd:RelV d a):RelV (o.getD d) (u.getD a):=by
 cases o with
 |none=>cases u with
  |none=>exact rd
  |some _=>exact(show False from r).elim
 |some _=>cases u with
  |none=>exact(show False from r).elim
  |some _=>exact r
theorem KV.val{a:List (κ×V)}{d:List (κ×ai)}(r:KV a d)(k:κ):nK (fP a k) (tw d k):=by
 unfold KV at r
 induction r with
 |nil=>exact True.intro
 |@cons p q ps qs h t ih=>
  obtain⟨f,g⟩:=h;by_cases e:p.1=k
  .have c:q.1=k:=f.symm.trans e;have b:tw (q::qs) k=aa q.2:=by simp[tw,iU,c]
   rw[sF e,b];exact g
  .have c:¬q.1=k:=λz=>e (f.trans z);have b:tw (q::qs) k=tw qs k:=by simp[tw,iU,c]
   rw[sj e,b];exact ih
theorem KV.any{a:List (κ×V)}{c:List (κ×ai)}(r:KV a c)(k:κ):(a.any λb=>decide (b.1=k))=c.any λb=>decide (b.1=k):=by
 unfold KV at r
 induction r with
 |nil=>rfl
 |cons h t d=>rw[qJ,qJ,d,h.1]
theorem KV.repl{b:List (κ×V)}{d:List (κ×ai)}(r:KV b d)(k:κ){y:V}{u:ai}(f:RelV y u):KV (b.map λa=>if a.1=k then(a.1,y)else a) (d.map λa=>if a.1=k then(a.1,u)else a):=by
 unfold KV at r ⊢
 induction r with
 |nil=>exact .nil
 |@cons p q ps qs h t ih=>
  rw[cn,cn];refine .cons ?_ ih;obtain⟨c,g⟩:=h;by_cases e:p.1=k
  .rw[if_pos e,if_pos (c.symm.trans e)];exact⟨c,f⟩
  .rw[if_neg e,if_neg (λz=>e (c.trans z))];exact⟨c,g⟩
theorem KV.put{a:List (κ×V)}{b:List (κ×ai)}(r:KV a b)(k:κ){y:V}{u:ai}(c:RelV y u):KV (h_ a k y) (stored b k u):=by
 unfold h_ stored;rw[r.any k];by_cases e:(b.any λd=>decide (d.1=k))=ah
 .rw[if_pos e,if_pos e];exact r.repl k c
 .rw[if_neg e,if_neg e];exact y8 r ⟨rfl,c⟩
theorem KV.length{a:List (κ×V)}{vs:List (κ×ai)}(r:KV a vs):a.length=vs.length:=Cc r
end
theorem qx{P:aQ}{w:aE}{k:aD}{u:ai}(r:RelV (kV k) u):(gK P w).is k u=ah:=by
 cases k with
 |inl i=>obtain⟨t,e⟩:=(show ∃t,u=Value.int i t from r);subst e;exact J5 P w i t
 |inr x=>obtain⟨t,e⟩:=(show ∃t,u=Value.str x t from r);subst e;exact Mq P w x t
theorem EF{P:aQ}{w:aE}:∀{ks:List aD}{a:List ai},bv (ks.map kV) a->ItemsAre (gK P w) ks a
 |[],_,r=>by rw[vH]at r;cases r;exact .nil
 |k::ks,_,r=>by
  rw[cn]at r;cases r with
  |cons h t=>exact .cons (qx h) (EF t)
abbrev KT(H:Hp):List (List aD×V)->List (List aD×ag×ai)->Prop:=ku λp q=>p.1=q.1/\H q.2.1=aa (.tup (p.1.map kV))/\RelV p.2 q.2.2
theorem KT.val{H:Hp}{a:List (List aD×V)}{xs:List (List aD×ag×ai)}(r:KT H a xs)(k:List aD):nK (fP a k) ((atKey xs k).map (·.2)):=by
 induction r with
 |nil=>exact True.intro
 |@cons p q ps qs h t ih=>
  obtain⟨d,_,f⟩:=h;by_cases e:p.1=k
  .have c:q.1=k:=d.symm.trans e;have b:atKey (q::qs) k=aa q.2:=by simp[atKey,iU,c]
   rw[sF e,b];exact f
  .have c:¬q.1=k:=λz=>e (d.trans z);have b:atKey (q::qs) k=atKey qs k:=by simp[atKey,iU,c]
   rw[sj e,b];exact ih
theorem KT.repl{H:Hp}{a:List (List aD×V)}{xs:List (List aD×ag×ai)}(r:KT H a xs)(k:List aD){y:V}{u:ai}(f:RelV y u):KT H (a.map λc=>if c.1=k then(c.1,y)else c) (xs.map (putAt k u)):=by
 induction r with
 |nil=>exact .nil
 |@cons p q ps qs h t ih=>
  rw[cn,cn];refine .cons ?_ ih;obtain⟨b,d,g⟩:=h;unfold putAt;by_cases e:p.1=k
  .rw[if_pos e,if_pos (b.symm.trans e)];exact⟨b,d,f⟩
  .rw[if_neg e,if_neg (λz=>e (b.trans z))];exact⟨b,d,g⟩
theorem KT.put{H:Hp}{a:List (List aD×V)}{xs:List (List aD×ag×ai)}(r:KT H a xs)(k:List aD){b:ag}{y:V}{u:ai}(f:H b=aa (.tup (k.map kV)))(c:RelV y u):KT H (h_ a k y) (storedH xs k b u):=by
 have e:(a.any λd=>decide (d.1=k))=(atKey xs k).isSome:=by rw[EM,(r.val k).isSome_eq,vI]
 unfold h_ storedH;rw[e];by_cases q:(atKey xs k).isSome=ah
 .rw[if_pos q,if_pos q];exact r.repl k c
 .rw[if_neg q,if_neg q];exact y8 r ⟨rfl,f,c⟩
theorem KT.keeps{H d:Hp}{a:List (List aD×V)}{xs:List (List aD×ag×ai)}(r:KT H a xs)(f:∀b c,H b=aa (.tup c)->d b=aa (.tup c)):KT d a xs :=Paired.mapP r λ_ _ z=>⟨z.1,f _ _ z.2.1,z.2.2⟩
section
variable{P:aQ}{w:aE}{H:Hp}{h:aB}{a:ag}
theorem G2{u:HO}(ok:dj P w H h)(e:Rd H a u):cq P w H h a u:=e.ok ok
theorem o5{b:List (aD×V)}(ok:dj P w H h)(e:Rd H a (.dK b)):b.length<=a_/\(a == jY)=aj/\∃c,KV b c/\h.DictOf (gK P w) a c :=show cq P w H h a (.dK b)from G2 ok e
theorem yb{b:List (aD×V)}(ok:dj P w H h)(e:H a=aa (.dK b)):b.length<=a_/\(a == jY)=aj/\∃c,KV b c/\h.DictOf (gK P w) a c:=o5 ok (.inl e)
theorem sG{ks:List aD}(ok:dj P w H h)(e:H a=aa (.tup (ks.map kV))):(vt (gK P w)).is h ks a:=by
 obtain⟨_,b,r,⟨o,f,d,n,c⟩,_⟩:=(show cq P w H h a (.tup (ks.map kV))from ok a _ e)
 exact⟨o,b.toArray,n,f,d,c,by simpa using EF r⟩
theorem qp{b:List (List aD×V)}(ok:dj P w H h)(e:Rd H a (.dT b)):b.length<=a_/\(a == jY)=aj /\ ∃xs,KT H b xs/\h.DictOfH (vt (gK P w)) a xs:=by
 obtain⟨z,y,xs,r,o,n,s,j,i,g,f,d⟩:=(show cq P w H h a (.dT b)from G2 ok e)
 refine⟨z,y,xs,r,o,n,s,j,i,g,f,λx c=>?_,d⟩;have all:∀{l:List (List aD×V)}{m:List (List aD×ag×ai)},KT H l m->∀x∈m,(vt (gK P w)).is h x.1 x.2.1:=by
  intro l m q
  induction q with
  |nil=>intro x c;exact nomatch c
  |@cons p q ps qs hq t ih=>
   intro x c;rcases bE.mp c with e|c
   .subst e;exact sG ok (by rw[<-hq.1];exact hq.2.1)
   .exact ih x c
 exact all r x c
theorem Ky{b:List (List aD×V)}(ok:dj P w H h)(e:H a=aa (.dT b)):b.length<=a_/\(a == jY)=aj /\ ∃xs,KT H b xs/\h.DictOfH (vt (gK P w)) a xs:=qp ok (.inl e)
end
def ln(H:Hp)(a:ag)(y:V)(r:Option V):Prop :=(∃c k,Rd H a (.dK c)/\y=kV k/\r=fP c k)\/∃c k b,Rd H a (.dT c)/\y=.ref b/\H b=aa (.tup (k.map kV))/\r=fP c k
def Ca(H:Hp)(a:ag)(y v:V)(d:Hp):Prop :=
 (∃c k,H a=aa (.dK c)/\y=kV k/\c.length<a_/\d=upd H a (.dK (h_ c k v))) \/
 ∃c k b,H a=aa (.dT c)/\y=.ref b/\H b=aa (.tup (k.map kV))/\c.length<a_/\d=upd H a (.dT (h_ c k v))
theorem ln.k{H:Hp}{a:ag}{b:List (aD×V)}{k:aD}(e:H a=aa (.dK b)):ln H a (kV k) (fP b k):=.inl ⟨b,k,.inl e,rfl,rfl⟩
theorem Ca.k{H:Hp}{a:ag}{b:List (aD×V)}{k:aD}{v:V}(e:H a=aa (.dK b))(c:b.length<a_):Ca H a (kV k) v (upd H a (.dK (h_ b k v))):=.inl ⟨b,k,e,rfl,c,rfl⟩
section
variable{X:Cx}{f:List (ag×Obj)}{d:St}{H:Hp}{s:am}{a:ag}{y v:V}{u r:ai}{o:Option V}{A:aT}{E:ai->am->Prop}
theorem Inv.big(I:Inv X f d H s):jY<s.heap.objs.size:=by have h:bQ<s.heap.objs.size:=(I.mod.glob.keeps I.bk).lt;exact Ct (by decide) h
theorem N7{Q:ai->am->Prop}(x:A.units+1<cLine)(I:Inv X f d H s)(g:ln H a y (aa v))(t:RelV y u)(h:∀j q,Inv X f d H q->RelV v j->Q j q):ar (aw X.prog X.w) A (qI (.ref a) u) Q E s:=by
 rcases g with⟨kvs,k,e,ey,l⟩|⟨kvs,k,b,e,ey,eb,l⟩
 .subst ey;obtain⟨z,C,w,i,n⟩:=o5 I.hok e;obtain⟨j,m,c⟩:=nK.some_of (v:=v) (o:=tw w k) (by rw[l];exact i.val k);exact wpAny_getItem_of (qx t) n.mapOf m (h j _ (I.tok _) c)
 .subst ey;cases (show u=Value.ref b from t);obtain⟨z,C,xs,i,n⟩:=qp I.hok e;obtain⟨j,m,c⟩:=nK.some_of (v:=v) (o:=(atKey xs k).map (·.2)) (by rw[l];exact i.val k);obtain⟨p,B,D⟩:=mw.mp m;refine wpAny_getItem_heap (y9 x) (sG I.hok eb) n B ?_;rw[D];exact h j _ (I.tok _) c
theorem Ta{Q:ai->am->Prop}(p:A.units+1<cLine)(I:Inv X f d H s)(g:ln H a y o)(n:RelV y u)(h:∀m,Inv X f d H m->Q (.bool o.isSome) m):ar (aw X.prog X.w) A (eC .In u (.ref a)) Q E s:=by
 rcases g with⟨kvs,k,e,ey,l⟩|⟨kvs,k,b,e,ey,eb,l⟩
 .subst ey;obtain⟨z,i,t,c,j⟩:=o5 I.hok e;refine wpAny_in_of (qx n) i j.mapOf ?_;rw[<-(c.val k).isSome_eq,<-l];exact h _ (I.tok _)
 .subst ey;cases (show u=Value.ref b from n);obtain⟨z,i,xs,c,j⟩:=qp I.hok e;refine wpAny_in_heap (y9 p) (sG I.hok eb) i j ?_;have q:=(c.val k).isSome_eq;rw[vI]at q;rw[<-q,<-l];exact h _ (I.tok _)
theorem QY{Q:ai->am->Prop}(p:A.units+1<cLine)(I:Inv X f d H s)(g:ln H a y o)(n:RelV y u)(h:∀m,Inv X f d H m->Q (.bool (!o.isSome)) m):ar (aw X.prog X.w) A (eC .NotIn u (.ref a)) Q E s:=by
 rcases g with⟨kvs,k,e,ey,l⟩|⟨kvs,k,b,e,ey,eb,l⟩
 .subst ey;obtain⟨z,i,t,c,j⟩:=o5 I.hok e;refine wpAny_notIn_of (qx n) i j.mapOf ?_;rw[<-(c.val k).isSome_eq,<-l];exact h _ (I.tok _)
 .subst ey;cases (show u=Value.ref b from n);obtain⟨z,i,xs,c,j⟩:=qp I.hok e;refine wpAny_notIn_heap (y9 p) (sG I.hok eb) i j ?_;have q:=(c.val k).isSome_eq;rw[vI]at q;rw[<-q,<-l];exact h _ (I.tok _)
theorem w_{h':aB}{t':Nat}{ob:HO}(I:Inv X f d H s)(c:uA (H a))(g:k7 a s.heap h')(h:∃q,h'.get? a=aa q)(new:cq X.prog X.w (upd H a ob) h' a ob):Inv X f d (upd H a ob) {s with heap:=h',toks:=t'} :=I.write (x:=a) (e:=a) c (.inl rfl) (λb q i z=>(g.2 b i).trans z) h new
theorem D4{P:aQ}{w:aE}{j:Hp}{h':aB}{b:List (aD×V)}{c:List (aD×ai)}(z:b.length<=a_)(h:(a == jY)=aj)(g:KV b c)(i:h'.DictOf (gK P w) a c):cq P w j h' a (.dK b):=⟨z,h,c,g,i⟩
theorem MC{J:Hp}{Q:Unit->am->Prop}(L:A.units+1<cLine)(I:Inv X f d H s)(g:Ca H a y v J)(C:RelV y u)(D:RelV v r)(h:∀B,Inv X f d J B->Q () B):ar (aw X.prog X.w) A (setItem (.ref a) u r) Q E s:=by
 rcases g with⟨kvs,k,e,ey,l,eH⟩|⟨kvs,k,b,e,ey,eb,l,eH⟩
 .subst ey eH;obtain⟨z,w,K,i,x⟩:=yb I.hok e;have n:K.length<=a_:=by rw[<-i.length];exact z
  have t:(h_ kvs k v).length<=a_:=by have:=B0 kvs k v;lia
  refine wpAny_setItem_pairs (hsz:=n) (qx C) x λF j p=>h _ ?_;have M:∃q,F.get? a=aa q:=let ⟨q,_,_,m,_⟩:=j;⟨q,m⟩
  exact w_ I (by rw[e];exact True.intro) p M (D4 t w (i.put k D) j)
 .subst ey eH;cases (show u=Value.ref b from C);obtain⟨z,w,xs,i,x⟩:=Ky I.hok e;have n:xs.length<=a_:=by rw[<-Cc i];exact z
  have t:(h_ kvs k v).length<=a_:=by have:=B0 kvs k v;lia
  refine wpAny_setItem_heap (hsz:=n) (y9 L) (sG I.hok eb) x λF j p=>h _ ?_;obtain⟨q,T,W,m,S,P,O,_,N⟩:=j;refine w_ I (by rw[e];exact True.intro) p ⟨q,m⟩ ⟨t,w,_,(i.put k eb D).keeps λc Y G=>?_,q,T,W,m,S,P,O,N⟩;rw[bj (DU G e (λz=>nomatch z))];exact G
end
section
variable{X:Cx}{d:List (ag×Obj)}{c:St}{H:Hp}{s:am}{a:ag}{b:List (aD×V)}{k:aD}{u:ai}{A:aT}{E:ai->am->Prop}
theorem RG{Q:ai->am->Prop}(I:Inv X d c H s)(e:Rd H a (.dK b))(h:∀t g,Inv X d c H g->Q (.int b.length t) g):ar (aw X.prog X.w) A (call (.builtin "len") [.ref a]) Q E s:=by obtain⟨z,i,l,f,j⟩:=o5 I.hok e;refine call_len_dict i j (by rw[<-f.length];rw[k8]at z;lia) ?_;rw[<-f.length];exact h _ _ (I.tok _)
end
def uN(i:az):Prop:=∀ov a,Cp i aj ov a=operate [ov,a] (qI ov a)
theorem HD{a:aQ}{w:aE}{A:aT}{E:ai->am->Prop}{s:am}{m:Env}{c b:az}{q:Pos}{T u:String}{Q:ai->am->Prop}(y:typeLookup (.type T) "__getitem__"=pure (aa (.builtin u))) (v:uN b)(h:ar (aw a w) A (aK c m) (λo j=>ar (aw a w) A (aK b m) (λi d=>d.TypeIs o T/\ar (aw a w) A (qI o i) Q E d) E j) E s):ar (aw a w) A (aK (.Subscript c b q) m) Q E s:=by
 refine Subscript_ (ez h (λo j p=>ez p (λi d f=>?_) λ_ _ x=>x) λ_ _ x=>x);obtain⟨t,f⟩:=f;unfold Co;refine ap ?_;rw[getitemInPython_of_ne t.not_modules];refine ap (y_ t y ?_);have l:ar (aw a w) A (Cp b aj o i) (λr g=>ar (aw a w) A (letTemporaryGo c o r >>= λ_=>pure r) Q E g) E d:=by rw[v o i];exact wpAny_operating (ez f (λr g n=>ap (wpAny_letTemporaryGo (aG n))) λ_ _ x=>x)
 first
  |exact aG (ap l)
  |exact ap (aG (ap l))
  |exact ap l
theorem NW{X:Cx}{f:List (ag×Obj)}{d:St}{H:Hp}{s:am}{a:ag}{y:V}{o:Option V}(I:Inv X f d H s)(g:ln H a y o):s.TypeIs (.ref a) "dict":=by
 rcases g with⟨kvs,k,e,_,_⟩|⟨kvs,k,b,e,_,_,_⟩
 .obtain⟨_,_,h,_,c⟩:=o5 I.hok e;exact c.typeIs
 .obtain⟨_,_,xs,_,c⟩:=qp I.hok e;exact c.typeIs
def L_(d ty:TE):TE:=λb H Q=>d b H λx f=>ty b f λy c=>∃a v,x=.ref a/\ln c a y (aa v)/\Q v c
def Sv(ty d:TE):TE:=λb H Q=>ty b H λy f=>d b f λx c=>∃a o,x=.ref a/\ln c a y o/\Q (.bl o.isSome) c
def L3(ty d:TE):TE:=λb H Q=>ty b H λy f=>d b f λx c=>∃a o,x=.ref a/\ln c a y o/\Q (.bl (!o.isSome)) c
def LX(f ty d:TE):TS:=λD b H=>d b H λv i=>f b i λx h=>ty b h λy g=>∃a c,x=.ref a/\Ca g a y v c/\D.nx b c
section
variable{X:Cx}{o i e b:az}{j f m:Pos}{d c l:TE}
theorem JP(C:X.A.units+1<cLine)(E:PE X o d)(F:PE X i c)(D:uN i):PE X (.Subscript o i j) (L_ d c):=by intro q s p H Q I h;refine HD PySem.F.slot_dict_getitem.lookup D (aL (E q s p H _ I h) λu t ⟨x,M,K,z,B⟩=>aL (F q t p M _ K B) λS P ζ=>?_);obtain⟨y,L,r,w,a,v,G,g,A⟩:=ζ;subst G;obtain rfl:u=Value.ref a:=z;exact⟨NW r g,N7 C r g w λN O J n=>⟨v,L,J,n,A⟩⟩
theorem Of(z:X.A.units+1<cLine)(B:PE X i c)(A:PE X o d):PC X .In i o (Sv c d):=by intro p s n H Q I h;refine aL (B p s n H _ I h) λM q ⟨y,J,F,r,w⟩=>aL (A p q n J _ F w) λu L ζ=>?_;obtain⟨x,G,E,t,a,ov,C,g,v⟩:=ζ;subst C;obtain rfl:u=Value.ref a:=t;exact Ta z E g r λK D=>⟨.bl ov.isSome,G,D,rfl,v⟩
theorem Qr(z:X.A.units+1<cLine)(B:PE X i c)(A:PE X o d):PC X .NotIn i o (L3 c d):=by intro p s n H Q I h;refine aL (B p s n H _ I h) λM q ⟨y,J,F,r,w⟩=>aL (A p q n J _ F w) λu L ζ=>?_;obtain⟨x,G,E,t,a,ov,C,g,v⟩:=ζ;subst C;obtain rfl:u=Value.ref a:=t;exact QY z E g r λK D=>⟨.bl (!ov.isSome),G,D,rfl,v⟩
theorem Li(G:X.A.units+1<cLine)(K:PE X o d)(L:PE X i c)(F:PE X b l)(J:kw b (aa (.Subscript o i f)) j.line X.env=pure aj):PS X (.Assign [.Subscript o i f] b j) (LX d c l):=by intro p s n H D I h;refine wpAny_Assign_Subscript (aL (F p s n H _ I h) λr t ⟨v,W,Q,A,E⟩=>aL (K p t n W _ Q E) λu q ⟨x,T,P,z,C⟩=>aL (L p q n T _ P C) λiv Z ⟨y,H3,O,w,a,S,M,g,B⟩=>?_) J;subst M;obtain rfl:u=Value.ref a:=z;exact MC G O g w A λY N=>⟨n,S,N,B⟩
end
theorem Fg{P:aQ}{w:aE}{H:Hp}(h:aB)(a:jY<h.objs.size):cq P w H (h.push {cls:=.type "dict",data:=.dict #[]}) h.objs.size (.dK []) :=⟨j4 _,beq_eq_false_iff_ne.mpr (dY (cY a)),[],.nil,Heap.DictOf.new h⟩
theorem OI{P:aQ}{w:aE}{H:Hp}(h:aB)(a:jY<h.objs.size):cq P w H (h.push {cls:=.type "dict",data:=.dict #[]}) h.objs.size (.dT []) :=⟨j4 _,beq_eq_false_iff_ne.mpr (dY (cY a)),[],.nil,_,#[],0,cy _ rfl,⟨rfl,rfl,rfl⟩,rfl,rfl,List.nodup_nil⟩
def P0:TE:=λ_ H Q=>∀p,H p=ae->Q (.ref p) (upd H p (.dK []))
section
variable{X:Cx}{b:Pos}
theorem Mr:PE X (.Dict [] [] b) P0:=λd s c H Q I h=>wpAny_Dict_empty ⟨.ref s.heap.objs.size,_,I.laid (a:=s.heap.objs.size) (o:=.dK []) (t':=s.toks) (λ_ _ q=>bn _ q) (aY _) (Fg s.heap I.big),rfl,h _ (I.hok.fresh (aY _))⟩
end
def AW:List (TE×TE)->St->Hp->(List (V×V)->Hp->Prop)->Prop
 |[],_,H,Q=>Q [] H
 | (c,b)::r,a,H,Q=>c a H λx h=>b a h λy g=>AW r a g λd f=>Q ((x,y)::d) f
abbrev VV:List (V×V)->List (ai×ai)->Prop:=ku λp q=>RelV p.1 q.1/\RelV p.2 q.2
def yj(X:Cx)(f:Pos)(b:List (Option az))(a:List az)(d:List (TE×TE)):Prop :=
 ∀(h:List (ag×Obj)) (s:am) (c:St) (H:Hp) (Q:List (V×V)->Hp->Prop),Inv X h c H s->AW d c H Q ->
  ar (aw X.prog X.w) X.A (evalPairs (pairTrees b a X.env f)) (λj l=>∃g i,Inv X h c i l/\VV g j/\Q g i) X.xe s
theorem R0{X:Cx}{a:Pos}:yj X a [] [] []:=λc s b H Q I h=>pairTrees_nil_walk ⟨[],H,I,.nil,h⟩
theorem OO{X:Cx}{b:Pos}{k v:az}{ks:List (Option az)}{g:List az}{j i:TE}{a:List (TE×TE)}(A:PE X k j)(w:PE X v i)(z:yj X b ks g a):yj X b (aa k::ks) (v::g) ((j,i)::a):=λf s c H Q I h=>pairTrees_cons_walk (aL (A f s c H _ I h) λu m ⟨x,G,D,o,r⟩=>aL (w f m c G _ D r) λK l ⟨y,F,C,n,q⟩=>aL (z f l c F _ C q) λJ L ⟨t,E,B,d,p⟩=>⟨(x,y)::t,E,B,.cons ⟨o,n⟩ d,p⟩)
def sV(a more:List (aD×V)):List (aD×V):=more.foldl (λc b=>h_ c b.1 b.2) a
theorem KV.merge:∀{more:List (aD×V)}{c:List (aD×ai)}{a:List (aD×V)}{b:List (aD×ai)},KV more c->KV a b->KV (sV a more) (merged b c):=by
 intro more c a b r;unfold KV at r
 induction r generalizing a b with
 |nil=>intro q;exact q
 |@cons p q ps qs h t ih=>
  intro d;have e:KV (h_ a p.1 p.2) (stored b q.1 q.2):=by have:=d.put p.1 h.2;rw[<-h.1];exact this
  exact ih e
theorem G1:∀(more a:List (aD×V)),(sV a more).length<=a.length+more.length
 |[],a=>by show a.length<=a.length+0;lia
 |p::r,a=>by have c:=G1 r (h_ a p.1 p.2);have b:=B0 a p.1 p.2;show(sV (h_ a p.1 p.2) r).length<=_;rw[d_];lia
theorem Ed{P:aQ}{w:aE}:∀{d:List (aD×V)}{g:List (ai×ai)},VV (d.map λi=>(kV i.1,i.2)) g->∃f,Carries (gK P w) g f/\KV d f
 |[],_,r=>by rw[vH]at r;cases r;exact⟨[],True.intro,.nil⟩
 |p::d,_,r=>by
  rw[cn]at r;cases r with
  |@cons a b as bs h t=>obtain⟨f,c,q⟩:=Ed (P:=P) (w:=w) t;obtain⟨b1,b2⟩:=b;exact⟨(p.1,b2)::f,⟨qx h.1,rfl,c⟩,.cons ⟨rfl,h.2⟩ q⟩
def S5(b:List (TE×TE)):TE:=λf H Q=>∀p,H p=ae->AW b f (upd H p (.dK [])) λg d=>d p=aa (.dK [])/\∃a:List (aD×V),g=a.map (λc=>(kV c.1,c.2))/\a.length<=15/\Q (.ref p) (upd d p (.dK (sV [] a)))
theorem K4{X:Cx}{g:Pos}{b:List (Option az)}{d:List az}{f:List (TE×TE)}(h:yj X g b d f)(y:b.all (·.isSome)=ah)(D:b.length=d.length)(J:b≠[])(m:b.length<=15):PE X (.Dict b d g) (S5 f):=by
 intro M s p H Q I q;have C:=I.hok.fresh (aY s.heap.objs.size);have N:=I.laid (a:=s.heap.objs.size) (o:=.dK []) (h':=s.heap.push {cls:=.type "dict",data:=.dict #[]}) (t':=s.toks) (λ_ _ q=>bn _ q) (aY _) (Fg s.heap I.big);refine wpAny_Dict_walk (knd:=gK X.prog X.w) y D J m (aL (h M _ p _ _ N (q _ C)) λO S ζ=>?_);obtain⟨T,Y,n,l,e,i,K,W,x⟩:=ζ;subst K;obtain⟨t,c,u⟩:=Ed (P:=X.prog) (w:=X.w) l;obtain⟨z,F,r,v,L⟩:=yb n.hok e;cases v;refine⟨t,c,L,λh' j B=>⟨.ref s.heap.objs.size,_,?_,rfl,x⟩⟩;have A:(sV [] i).length<=a_:=by have G:=G1 i [];rw[j3]at G;rw[k8];lia
 have E:∃q,h'.get? s.heap.objs.size=aa q:=let ⟨q,_,_,hq,_⟩:=j;⟨q,hq⟩
 exact w_ n (by rw[e];exact True.intro) B E (D4 A F (u.merge .nil) j)
structure M2(X:Cx)(o:az)(m:Str)(apos:Pos)(e f:az)(cpos:Pos):Prop where
 base:j0 o m X.env (aK o X.env)=aK o X.env
 few:((cZ cpos (aM [e,f] X.env)).all (λx=>!x.1)&&(qK cpos (qL [] X.env)).all (λx=>x.1.isSome)&&decide (([e,f]:List az).length+([]:List jE).length+(if([]:List jE).isEmpty then 0 else 1)<30))=ah
 line:(apos.endLine == cpos.line)=ah
 trees:cZ cpos (aM [e,f] X.env)=[(aj,aK e X.env),(aj,aK f X.env)]
def EB(H:Hp)(a:ag):Prop:=(∃b,Rd H a (.dK b))\/∃b,Rd H a (.dT b)
theorem Pf{X:Cx}{l:List (ag×Obj)}{j:St}{H:Hp}{s:am}{a:ag}(I:Inv X l j H s)(d:EB H a):s.TypeIs (.ref a) "dict"/\(∀b,Value.ref a=.ref b->∃c,s.heap.get? b=aa c/\c.dict=ae)/\(a == jY)=aj:=by
 rcases d with⟨kvs,e⟩|⟨kvs,e⟩
 .obtain⟨_,g,m,_,f⟩:=o5 I.hok e;refine⟨f.typeIs,λb q=>?_,g⟩;cases q;obtain⟨c,_,_,i,h,_⟩:=f;exact⟨c,i,h.2.1⟩
 .obtain⟨_,g,xs,_,f⟩:=qp I.hok e;refine⟨f.typeIs,λb q=>?_,g⟩;cases q;obtain⟨c,_,_,i,h,_⟩:=f;exact⟨c,i,h.2.1⟩
section
variable{X:Cx}{f:List (ag×Obj)}{c:St}{H:Hp}{s:am}{a:ag}{y d:V}{u r:ai}{o:Option V}{A:aT}{E:ai->am->Prop}
theorem LP{Q:ai->am->Prop}(t:A.units+1<cLine)(I:Inv X f c H s)(g:ln H a y o)(q:RelV y u)(rd:RelV d r)(h:∀n p,Inv X f c H p->RelV (o.getD d) n->Q n p):ar (aw X.prog X.w) A (call (.builtin "dict.get") [.ref a,u,r]) Q E s:=by
 rcases g with⟨kvs,k,e,ey,l⟩|⟨kvs,k,b,e,ey,eb,l⟩
 .subst ey;obtain⟨z,m,v,i,j⟩:=o5 I.hok e;refine call_meetsIn IF j.typeIs PySem.F.entry_dict_get (PySem.F.args_dict_get_3 _ _ _) (meets_dict_get_default (gK X.prog X.w) a (qx q) m r) ⟨_,j.mapOf,h _ _ (I.tok _) ?_⟩;rw[l];exact(i.val k).getD rd
 .subst ey;cases (show u=Value.ref b from q);obtain⟨z,m,xs,i,j⟩:=qp I.hok e;refine call_meetsIn IF j.typeIs PySem.F.entry_dict_get (PySem.F.args_dict_get_3 _ _ _) (meetsH_dict_get_default (vt (gK X.prog X.w)) a b m r) ⟨y9 t,k,xs,sG I.hok eb,j,h _ _ (I.tok _) ?_⟩;rw[l];exact(i.val k).getD rd
end
def QP(g ty f:TE):TE:=λb H Q=>g b H λx d=>∃a,x=.ref a/\EB d a/\ty b d λy h=>f b h λz c=>∃o,ln c a y o/\Q (o.getD z) c
section
variable{X:Cx}{o e f:az}{c b:Pos}{l i j:TE}
theorem Mw(J:X.A.units+1<cLine)(K:PE X o l)(M:PE X e i)(L:PE X f j)(m:M2 X o "get" c e f b):PE X (.Call (.Attribute o "get" c) [e,f] [] b) (QP l i j):=by intro q s n H Q I h;refine wpAny_Call_method m.base m.few m.line IG IF PySem.F.type_dict_get (aL (K q s n H _ I h) λu A ζ=>?_);obtain⟨x,Y,r,D,a,N,d,G⟩:=ζ;subst N;obtain rfl:u=Value.ref a:=D;obtain⟨v,t,_⟩:=Pf r d;refine⟨v,t,?_⟩;rw[m.trees];refine Cq rfl (Cr (s_ (aL (M q A n Y _ r G) λiv w ⟨y,W,S,C,F⟩=>s_ (aL (L q w n W _ S F) λfv s3 ⟨z,T,P,B,ov,g,E⟩=>y0 ?_))));exact LP J P g C B λZ s4 O p=>⟨_,T,O,p,E⟩
end
end L2
namespace Att
open PySem PySem.W PySem.Calls PyProof.Rows
theorem RI{P:Params}{h:aB}:∀(c:List Int) (d:List ai),WellAll P h d (c.map WData.int)->IntsAre d c:=by
 intro c
 induction c with
 |nil=>
  intro d w;rw[vH]at w;cases w;exact .nil
 |cons n c f=>
  intro d w;rw[cn]at w;cases w with
  |cons a b=>
   cases a;exact .cons _ _ (f _ b)
theorem S9{l:OpenLaw}{n:Nat}(x:l.most=aa n){P:Params}{h:aB}{args:List WData}{c:List ai}(o:l.row.toRowW.claim.pre args=ah) (i:WellAll P h c args):∃a m b,c=[Value.ref a]/\args=[WData.list (b.map WData.int)]/\h.get? a=aa {cls:=.type "list",data:=.seq m.toArray}/\IntsAre m b/\b.length<=n:=by
 have j:WShape.hasAll [] args [.list .int]=ah:=(pre_splitW o).1;have p:l.pre.holds [] {args:=args}=ah:=(pre_splitW o).2;obtain⟨d,r,rfl,A,z⟩:=hasAllW_cons j;obtain rfl:=hasAllW_nil z;obtain⟨xs,rfl,y⟩:=hasW_list A;obtain⟨b,rfl⟩:=items_int y;have B:b.length<=n:=by
  unfold OpenLaw.pre at p;have g:(WTm.not (.lt (.lit (.int (n:Int))) (.len (.arg 0)))).holds [] {args:=[.list (b.map .int)]}=ah:=by have g:=(holds_andW p).1;rw[x]at g;exact g
  have f:=condW_of g (w_not (w_lt w_lit (w_len_list (w_arg rfl))));rw[cM]at f;refine Nat.le_of_not_lt λq=>?_;have u:(n:Int)<((b.length:Nat):Int):=∅
  first
   | (rw[decide_eq_true u]at f;exact absurd f (by decide))
   | (simp at f;lia)
 cases i with
 |cons t s=>
  cases s;cases t with
  |list w v=>exact⟨_,_,b,rfl,rfl,w,RI b _ v,B⟩
theorem O0(l:OpenLaw)(args:List WData):l.row.toRowW.claim.post args (.bool ah) args=ah :=
 postW_of (r:=l.row.toRowW) (X:=(ah == ah))
  (show WShape.has [] (.bool ah) .bool=ah by first|rfl|decide|simp[WShape.has,WShape.arms,WShape.armsAll])
  (show(WTm.eq .res (.lit (.bool ah))).value [] {args:=args,res:=aa (.bool ah),after:=args}=aa (.bool (ah == ah))from w_eq_bool (w_res rfl) w_lit) rfl
theorem attach_call{l:OpenLaw}{n:Nat}{q:aQ}{g:List Str}{XP:(Str->Option ai)->aB->Prop}{C:aE->aB->Prop}{d:DefRec}(K:l.most=aa n) (F:d.params.defaults=[])(call:∀(w:aE) (c b:am) (s v:Str->Option ai) (j:ag) (o:Obj) (u t h:ai) (a:ag) (i:List ai) (p:List Int),Ground q g [] XP w c s v b.heap->C w b.heap -> b.heap.get? j=aa o->o.data=.func (docDef d.name d.params d.body d.scope u t h)->b.heap.CodeRec t d.name->s d.name=aa (.ref j) -> b.heap.get? a=aa {cls:=.type "list",data:=.seq i.toArray}->IntsAre i p->p.length<=n->b.gens=#[] -> lK (aw l.prog w) tz (.call (.ref j) ⟨[.ref a],[]⟩) (λr m=>r=.ok (.ret (.bool ah))/\OldK b.heap m.heap/\m.os=b.os/\nM m.gens) b):WalkO q g XP C l.row.toRowW d [] (λf i=>PySem.call f i):=by intro w c b s v G Y j o u t h dV kV J O T A D N B y as E z H x M;obtain rfl:dV=.none:=Dflts.none A F;obtain rfl:kV=.none:=Dflts.noKw A;obtain⟨a,i,p,rfl,rfl,X,Z,W⟩:=S9 K E x;refine enter_call (nW (call w c b s v j o u t h a i p G Y J (fd_plain O) T D X Z W N) λr m I=>?_);obtain⟨rfl,S,Q,P⟩:=I;exact⟨.inl ⟨.bool ah,.bool ah,[],rfl,λ_=>rfl,.bool ah,O0 l _,λ_=>⟨List.Pairwise.nil,λ_ L=>(nomatch L)⟩⟩,S,Q,P⟩
end Att
namespace L2
theorem zQ{a:List ai}{b:List Int}(h:IntsAre a b):bv (b.map V.int) a:=by
 induction h with
 |nil=>exact .nil
 |cons n t _ g=>exact .cons ⟨t,rfl⟩ g
def BG(H:Hp):Prop:=∀b,H b=ae\/(∃o xs,H b=aa (.frz o (.lst xs)))\/∃q,H b=aa (.tbl q)
def ke(K:ax):Hp:=λb=>match lH K "least_ending" with
 |some (_,P)=>if b=P then aa (.tbl "least_ending.<locals>.<lambda>")else ae
 |none=>ae
theorem qf{K:ax}{b:ag}{u:HO}(h:ke K b=aa u):u=.tbl "least_ending.<locals>.<lambda>"/\∃c,lH K "least_ending"=aa (c,b):=by
 unfold ke at h;split at h
 .rename_i c P e;split at h
  .rename_i a;subst a;cases h;exact⟨rfl,c,e⟩
  .cases h
 .cases h
theorem EG{K:ax}{c P:ag}(h:lH K "least_ending"=aa (c,P)):ke K P=aa (.tbl "least_ending.<locals>.<lambda>"):=by unfold ke;rw[h];exact if_pos rfl
def D8(K:ax)(h:aB):Prop:=∀c P,lH K "least_ending"=aa (c,P)->za K c P=ah/\K.lookup P=ae/\h.get? P=aa {cls:=.none,data:=.fields #[]}
theorem OQ{P:aQ}{w:aE}{K:ax}{J mb:Str->Option ai}{CX:gu}{k:Nat}{fa a:ag}{fd:il}{x:Str}{sp:Sp}{f:am}{E:List ai}{L:List Int}(KX:K.In f.heap) (lR:f.heap.Ns bQ J) (j:f.heap.Ns o6 mb) (qW:∀x:Str,x≠"__name__"->mb x=eF x) (N:f.heap.NoLimit) (hbm:∃D B,J "__builtins__"=aa (.ref D)/\D≠o6/\f.heap.get? D=aa B/\B.cls=.type "module"/\B.dict=aa o6/\B.data=.plain) (A:D8 K f.heap) (hg:f.gens=#[])(t:f.heap.get? a=aa {cls:=.type "list",data:=.seq E.toArray}) (hi:IntsAre E L) (hl:L.length<=a_) (hr:Room k tz)(F:∀p:aB,K.In p->p.Ns bQ J->lp P w K J p CX k fa fd [x] sp) (T5:∀(s:am) (u:ai),BindsTo s fd ⟨[u],[]⟩ [(x,u)])(ix:∀H:Hp,BG H->cE K H a (L.map V.int)->sp [.ref a] H (λv _=>v=.bl ah) λ_ _ _=>False)(hCX:∀H e l,CX [] H f (λ_ _ _=>False) e l->False):lK (aw P w) tz (.call (.ref fa) ⟨[.ref a],[]⟩) (λr l=>r=.ok (.ret (.bool ah))/\OldK f.heap l.heap/\l.os=f.os/\nM l.gens) f:=by
 have rv:=zQ hi;have M:=hi.length;have C:∀H:Hp,BG H->cE K H a (L.map V.int)->dj P w H f.heap->(∀b,H b≠ae->b=a\/∃c,lH K "least_ending"=aa (c,b))->(H a≠ae->K.lookup a=ae)->wV K H ->
   lK (aw P w) tz (.call (.ref fa) ⟨[.ref a],[]⟩) (λr l=>r=.ok (.ret (.bool ah))/\OldK f.heap l.heap/\l.os=f.os/\nM l.gens) f:=by
  intro H hO hS G X hK hTH;have g:∀{b:ag}{o:Obj},f.heap.get? b=aa o->H b=ae->(ni f.heap H).get? b=aa o:=λe n=>NZ e n;have noA:∀{b:ag}{o:Obj}{Q:Array DictEntry}{S:Nat},f.heap.get? b=aa o->o.data=.dict Q S->H b=ae:=λ{b o Q S} e d=>by
   cases q:H b with
   |none=>rfl
   |some u=>
    rcases X b (by rw[q];simp)with i|⟨c,i⟩
    .subst i;rw[t]at e;cases e;have d':Data.seq E.toArray _=Data.dict Q S:=d;cases d'
    .rw[(A c b i).2.2]at e;cases e;cases d
  have y:∀{b:ag}{m:Str->Option ai},f.heap.Ns b m->(ni f.heap H).Ns b m:=λ{b m} ⟨o,Q,S,e,d,r⟩=>⟨o,Q,S,g e (noA e d),d,r⟩
  have O:K.In (ni f.heap H):=λb o e=>g (KX b o e) (by
   cases q:H b with
   |none=>rfl
   |some u=>
    rcases X b (by rw[q];simp)with i|⟨c,i⟩
    .subst i;rw[hK (by rw[q];simp)]at e;cases e
    .rw[(A c b i).2.1]at e;cases e)
  have hM:Mod K J (ni f.heap H):=⟨O,y lR,⟨mb,y j,qW⟩,(let ⟨mc,h1,h2⟩:=N;⟨mc,y h1,h2⟩),by
   obtain⟨D,B,b1,b2,W,b4,b5,b6⟩:=hbm;refine⟨D,B,b1,b2,g W ?_,b4,b5,b6⟩;cases q:H D with
   |none=>rfl
   |some u=>
    rcases X D (by rw[q];simp)with i|⟨c,i⟩
    .subst i;rw[t]at W;cases W;simp at b4
    .rw[(A c D i).2.2]at W;cases W;simp at b4⟩
  have e0:r_ P w K J (ni f.heap H) tz [] f H:=⟨rfl,hM,λb o e=>TF e,mx (JM _ _),trivial,λb j=>absurd (show b∈([]:List ag)from j) (by simp),G,.of_eq hg,hTH⟩
  refine nW ((F _ O (y lR)).run tz [] f H ⟨[.ref a],[]⟩ [.ref a] [.ref a] _ _ hr e0 (T5 f (.ref a)) (.cons rfl .nil) (ix H hO hS)) λr l h=>?_;cases r with
  |error e=>exact(hCX H e l h).elim
  |ok fl=>
   cases fl with
   |next=>exact im h
   |brk=>exact im h
   |cont=>exact im h
   |ret u=>
    obtain⟨v,H',os,T,un,Jw,r',q⟩:=h;have q':v=.bl ah:=q;subst q';obtain rfl:u=Value.bool ah:=r';refine⟨rfl,⟨λb o e=>?_,λb o e=>un.there b o e (by simp)⟩,os,T⟩;cases q:H b with
    |none=>exact .inl (un.keep b o e q (by intro z;exact absurd (show b∈([]:List ag)from z) (by simp)) (by simp))
    |some u=>
     rcases hO b with z|⟨B,xs,z⟩|⟨qn,z⟩
     .rw[q]at z;cases z
     .have z2:=un.frzs b B _ z;obtain⟨I,_⟩:=G b _ z;obtain⟨e2,_⟩:=Jw b _ z2;rw[e]at I;cases I;exact .inl e2
     .rcases X b (by rw[q];simp)with i|⟨c,i⟩
      .subst i;obtain⟨ps,I,_⟩:=G b _ z;rw[t]at I;cases I
      .obtain⟨k1,k2,k3⟩:=A c b i;rw[k3]at e;cases e;obtain⟨oc,Y,_,_,_,_,_,_,_,f1,f2,f3,f4,_⟩:=PySem.W.codeHd_of_K KX k1;obtain⟨ps,I,_⟩:=Jw b _ (un.tbls b _ z);exact .inr (.inl ⟨⟨c,oc,Y,f1,f2,f3,f4⟩,rfl,#[],ps,rfl,by rw[I];simp⟩)
 cases hk:K.lookup a with
 |some o=>
  have e:=KX a o hk;rw[t]at e;cases e;have tH:∀b u,ke K b=aa u->cq P w (ke K) f.heap b u:=λb u z=>by
   obtain⟨rfl,c,e⟩:=qf z;exact⟨#[],(A c b e).2.2,trivial,λZ cv h=>by cases h⟩
  refine C (ke K) (λb=>?_) (.inr ⟨_,E.toArray,_,hk,rfl,rfl,rfl,by rw[cg,M];exact hl,by simpa using rv⟩) tH (λb z=>?_) (λz=>?_) λx hx c P e=>?_
  .cases q:ke K b with
   |none=>exact .inl rfl
   |some u=>exact .inr (.inr ⟨_,congrArg aa (qf q).1⟩)
  .cases q:ke K b with
   |none=>exact absurd q z
   |some u=>exact .inr (qf q).2
  .cases q:ke K a with
   |none=>exact absurd q z
   |some u=>
    obtain⟨_,c,i⟩:=qf q;rw[(A c a i).2.2]at t;cases t
  .obtain rfl:x = "least_ending":=by simpa[vj]using hx
   exact EG e
 |none=>
  have ta:∀c P,lH K "least_ending"=aa (c,P)->P≠a:=λc P e z=>by subst z;rw[(A c P e).2.2]at t;cases t
  refine C (λb=>if b=a then aa (.frz {cls:=.type "list",data:=.seq E.toArray} (.lst (L.map V.int)))else ke K b) (λb=>?_) (.inl (.inr ⟨{cls:=.type "list",data:=.seq E.toArray},if_pos rfl⟩)) (λb u z=>?_) (λb z=>?_) (λ_=>hk) λx hx c P e=>?_
  .by_cases j:b=a
   .exact .inr (.inl ⟨_,_,if_pos j⟩)
   .cases q:ke K b with
    |none=>exact .inl ((if_neg j).trans q)
    |some u=>exact .inr (.inr ⟨_,(if_neg j).trans (q.trans (congrArg aa (qf q).1))⟩)
  .by_cases j:b=a
   .have z':=(if_pos j).symm.trans z;cases z';subst j;exact⟨t,by rw[cM];exact hl,E,_,rv,t⟩
   .obtain⟨rfl,c,e⟩:=qf ((if_neg j).symm.trans z);exact⟨#[],(A c b e).2.2,trivial,λZ cv h=>by cases h⟩
  .by_cases j:b=a
   .exact .inl j
   .cases q:ke K b with
    |none=>exact absurd ((if_neg j).trans q) z
    |some u=>exact .inr (qf q).2
  .obtain rfl:x = "least_ending":=by simpa[vj]using hx
   exact(if_neg (ta c P e)).trans (EG e)
theorem UI{l:Cu}{n k:Nat}{q:aQ}{c:List Str}{XP:(Str->Option ai)->aB->Prop}{C:aE->aB->Prop}{d:DefRec}{K:Params->ax}{CX:aE->gu}{sp:aE->Sp}{x:Str}(N:l.most=aa n) (E:n<=a_) (J:d.params.defaults=[]) (M:Room k tz)(A:∀(w:aE) (h:aB),C w h->(K w.params).In h/\D8 (K w.params) h)(F:∀(w:aE) (g:Str->Option ai) (m:ag) (h:aB),(K w.params).In h->h.Ns bQ g->g d.name=aa (.ref m) -> ∃t:il,(∀(s:am) (u:ai),BindsTo s t ⟨[u],[]⟩ [(x,u)]) /\ ∀b:aB,(K w.params).In b->b.Ns bQ g->lp l.prog w (K w.params) g b (CX w) k m t [x] (sp w))(L:∀(w:aE) (H:Hp) (a:ag) (j:List Int),j.length<=n->BG H->cE (K w.params) H a (j.map V.int)->sp w [.ref a] H (λv _=>v=.bl ah) λ_ _ _=>False)(r:∀(w:aE) (H:Hp) (s:am) (e:ai) (p:am),CX w [] H s (λ_ _ _=>False) e p->False):PySem.W.WalkO q c XP C l.row.toRowW d [] (λf y=>PySem.call f y):=by refine Att.attach_call N J λw z i g mb m o pm cd W a y j G Y ho hd bo I X Z B O=>?_;have D:=(A w _ Y).1;obtain⟨t,P,T⟩:=F w g m _ D G.T.g I;exact OQ D G.T.g G.T.b G.T.builtins G.T.nolimit G.T.bmain (A w _ Y).2 O X Z (cQ B E) M T P (λH S Q=>L w H a j B S Q) λH e p=>r w H i e p
def jT(s:ba):qG:=match s with
 |.FunctionDef _ a _ _ _ _ _ _ _ _=>a
 |_=>{posonlyargs:=[],args:=[],vararg:=ae,kwonlyargs:=[],kw_defaults:=[],kwarg:=ae,defaults:=[]}
def fR(s:ba):List ba:=match s with
 |.FunctionDef _ _ b _ _ _ _ _ _ _=>b
 |_=>[]
def aZ(s:ba):dy:=match s with
 |.FunctionDef _ _ _ _ _ _ a _ _ _=>a
 |_=>{kind:=.function,names:=[],isGenerator:=aj,isCoroutine:=aj}
abbrev AB:gu:=λ_ _ _ _ _ _=>False
abbrev E0:XK:=λ_ _ _=>False
structure pY(K:ax)(x qual:Str)(st:ba)(f:ag)(fd:il):Prop where
 ex:∃(oc:ai) (od:Option ag) (kV doc pm:ai) (an:Option ag) (aI ct:ai) (osl:Array (Option ai)),
  fd=iT x qual (jT st) (fR st) (aZ st) .none kV doc pm an aI ct/\K.lookup f=aa ⟨oc,od,.func fd,osl⟩/\vC K aI qual=ah
 kp:qE K (.ref f)=ah
section
variable{P:aQ}{w:aE}{K:ax}{b:Str->Option ai}{a:aB}
theorem pY.binds{x c:Str}{g:ba}{f:ag}{p:il}{j:List Str}(F:pY K x c g f p)(h:∀(kV d l:ai) (n:Option ag) (o m:ai) (i:List ai),i.length=j.length->fV (iT x c (jT g) (fR g) (aZ g) .none kV d l n o m) ⟨i,[]⟩=pure (j.zip i)):Binds K p j []:=by obtain⟨oc,r,kV,d,l,n,o,m,q,rfl,s,t⟩:=F.ex;exact .all (h kV d l n o m)
theorem G7{x d:Str}{g:ba}{f:ag}{oc:ai}{p o:Option ag}{i:Array (Option ai)}{kV h m j n:ai}(l:K.lookup f=aa ⟨oc,p,.func (iT x d (jT g) (fR g) (aZ g) .none kV h m o j n),i⟩)(c:vC K j d=ah) (k:qE K (.ref f)=ah):pY K x d g f (iT x d (jT g) (fR g) (aZ g) .none kV h m o j n):=⟨⟨oc,p,kV,h,m,o,j,n,i,rfl,l,c⟩,k⟩
end
theorem QG{n:Nat}(h:n<=1000):n<a_:=vJ h (by decide)
section
variable{X:Cx}
theorem pv(i:Nat){x:Str}{a:Pos}(d:X.N[i]?=aa x:=by rfl)(b:ef X.env.scope x:=by first|exact Or.inl rfl|exact Or.inr (Or.inl rfl)|exact Or.inr (Or.inr rfl))(c:(x==("__debug__":Str))=aj:=by decide)(f:(x==("__classdict__":Str))=aj:=by decide):PE X (.Name x a) (yI i):=fj d b c f
theorem Mj:eM X (.builtin "len") (λxs H Q=>∃a b,xs=[V.ref a]/\H a=aa (.dK b)/\Q (.int b.length) H):=by
 intro l s g H xs i Q I r h;obtain⟨a,b,rfl,d,q⟩:=h;obtain⟨u,rfl,c⟩:=vals1 r;cases c;exact RG I (.inl d) λt j f=>⟨.int b.length,H,f,⟨t,rfl⟩,q⟩
end
theorem pV{A B:Prop}(h:B):if aj=ah then A else B:=by rw[if_neg fc];exact h
theorem qh{A B:Prop}(h:A):if ah=ah then A else B:=by rw[if_pos rfl];exact h
def Same(H a:Hp):Prop:=∀b o,H b=aa o->a b=aa o
theorem Same.refl(H:Hp):Same H H:=λ_ _ h=>h
theorem Same.trans{H f d:Hp}(a:Same H f)(b:Same f d):Same H d:=λc o h=>b c o (a c o h)
theorem Same.free{H a:Hp}(e:Same H a){l:ag}(h:a l=Option.none):H l=Option.none:=by
 cases q:H l with
 |none=>rfl
 |some o=>
  rw[e l o q]at h;cases h
end L2
set_option maxHeartbeats 4000000
namespace L2
def iE(a:Env):List (Str×gQ)->List (Str×ag)->List (Str×ag)
 |[],b=>b
 | (n,k)::r,b=>if k == .free then iE a r ((n,(a.cells.lookup n).getD 0)::b)else iE a r b
theorem R3{d:Env}{y:Str}{c:ag}(b:List (Str×gQ))(f:List (Str×ag))(l:∀x∈b,x.2=.free->∃c,d.cells.lookup x.1=aa c)(h:(iE d b f).lookup y=aa c):f.lookup y=aa c\/d.cells.lookup y=aa c:=by
 induction b generalizing f with
 |nil=>exact .inl h
 |cons a r g=>
  obtain⟨n,k⟩:=a;unfold iE at h;have j:∀x∈r,x.2=.free->∃c,d.cells.lookup x.1=aa c:=λx m=>l x (k6 _ m);split at h
  .rename_i o;obtain⟨s,i⟩:=l (n,k) (lI ..) (by simpa using o);rcases g _ j h with q|q
   .rw[lc]at q;split at q
    .rename_i p;have e:y=n:=by simpa using p
     subst e;rw[i]at q;exact .inr (by rw[i];exact q)
    .exact .inl q
   .exact .inr q
  .exact g _ j h
theorem G0{a:Type}{n:Str}{v:a}{l:List (Str×a)}:((n,v)::l).lookup n=aa v:=by rw[lc];simp
theorem Gq{a:Type}{n y:Str}{v:a}{l:List (Str×a)}(h:∃c,l.lookup y=aa c):∃c,((n,v)::l).lookup y=aa c:=by
 rw[lc];split
 .exact⟨_,rfl⟩
 .exact h
theorem Bj{d:Env}{y:Str}:∀(a:List (Str×gQ)) (b:List (Str×ag)),(∃c,b.lookup y=aa c)->∃c,(iE d a b).lookup y=aa c
 |[],b,h=>h
 | (n,k)::r,b,h=>by
  unfold iE;split
  .exact Bj r _ (Gq h)
  .exact Bj r _ h
theorem zL{g:Env}{y:Str}:∀(a:List (Str×gQ)) (i:List (Str×ag)),(∃x∈a,x.1=y/\x.2=.free)->∃c,(iE g a i).lookup y=aa c
 |[],i,⟨_,h,_⟩=>by simp at h
 | (n,k)::r,i,⟨x,b,f,d⟩=>by
  unfold iE;rcases bE.mp b with e|b
  .subst e;simp only at f d;subst f d;simp only[beq_self_eq_true,if_true];exact Bj r _ ⟨_,G0⟩
  .split
   .exact zL r _ ⟨x,b,f,d⟩
   .exact zL r _ ⟨x,b,f,d⟩
theorem BE{b:Env}:∀(a:List (Str×gQ)) (g:List (Str×ag)),(∀x∈a,x.2=.free->∃c,b.cells.lookup x.1=aa c) -> (forIn (m:=Sem) a g λx r=>match x with | (d,f)=>if(f == NameKind.free)=ah then do let c <-cellOf b d;pure (ForInStep.yield ((d,c)::r))else pure (ForInStep.yield r))=pure (iE b a g)
 |[],g,_=>rfl
 | (n,k)::r,g,h=>by
  have j:∀x∈r,x.2=.free->∃c,b.cells.lookup x.1=aa c:=λx o=>h x (k6 _ o);rw[List.forIn_cons];unfold iE;by_cases i:(k == NameKind.free)=ah
  .obtain⟨c,l⟩:=h (n,k) (lI ..) (by simpa using i);simp only[i,if_true];have e:cellOf b n=pure c:=by unfold cellOf;rw[l]
   rw[e];simp only[pure_bind];rw[BE r _ j,l];rfl
  .simp only[i,if_false,pure_bind];exact BE r _ j
theorem Sq{a:dy}{b:Env}(h:∀x∈a.names,x.2=.free->∃c,b.cells.lookup x.1=aa c):zb a b=pure (iE b a.names []):=by unfold zb;have q:=BE a.names [] h;simp only[bind_pure_comp]at q ⊢;rw[q];rfl
theorem yL{n c:Nat}(b:n+1<=c)(a:c<n):False:=∅
theorem zW:∀(c:List (Str×gQ)) (n:Nat) (a b:List (Str×ag)),fX n c (a++b)=fX n c a++b
 |[],_,_,_=>rfl
 | (x,k)::r,n,a,b=>by
  unfold fX;split
  .exact zW r (n+1) ((x,n)::a) b
  .exact zW r n a b
theorem xk{y:Str}{c:ag}:∀(b:List (Str×gQ)) (n:Nat) (a:List (Str×ag)),(y,c)∈fX n b a->(y,c)∈a\/(y,.cell)∈b
 |[],_,_,h=>.inl h
 | (x,k)::r,n,a,h=>by
  unfold fX at h;split at h
  .rename_i d;rcases xk r _ _ h with z|z
   .rcases bE.mp z with z|z
    .cases z;have e:k=.cell:=by simpa using d
     subst e;exact .inr (lI ..)
    .exact .inl z
   .exact .inr (k6 _ z)
  .rcases xk r _ _ h with z|z
   .exact .inl z
   .exact .inr (k6 _ z)
theorem BV{y:Str}:∀(b:List (Str×gQ)) (n:Nat) (a:List (Str×ag)),(∃c,a.lookup y=aa c)->∃c,(fX n b a).lookup y=aa c
 |[],_,_,h=>h
 | (x,k)::r,n,a,h=>by
  unfold fX;split
  .exact BV r _ _ (Gq h)
  .exact BV r _ _ h
theorem yX{y:Str}:∀(b:List (Str×gQ)) (n:Nat) (a:List (Str×ag)),(y,.cell)∈b->∃c,(fX n b a).lookup y=aa c
 | (x,k)::r,n,a,h=>by
  unfold fX;rcases bE.mp h with e|h
  .cases e;exact BV r _ _ ⟨_,G0⟩
  .split
   .exact yX r _ _ h
   .exact yX r _ _ h
def lZ(X:Cx)(a:dy)(C:ag):List (Str×ag):=fX (C+1) a.names (iE X.env a.names [])
theorem Bb(X:Cx)(a:dy)(C:ag):lZ X a C=fX (C+1) a.names []++iE X.env a.names []:=zW a.names (C+1) [] _
theorem Ot{M:Model}{A:aT}{E:ai->am->Prop}{s:am}{a:dy}{b:ag}{j:List (Str×ag)}{c:Str}{f:Env}{Q:Env->am->Prop}(l:Q (newEnv a s.heap.objs.size b (fX (s.heap.objs.size+1) a.names j) c ae .none (aa f) o6) {s with heap:=pushCells (s.heap.push {cls:=.type "dict",data:=.dict #[]}) a.names}):ar M A (newFunctionEnv a b j [] c ae .none (aa f)) Q E s:=by
 simp only[newFunctionEnv,Option.isSome_some,if_true];refine ap (wpAny_alloc ?_);refine ap (wpAny_layCells _ (λi d h=>by cases g:d == NameKind.cell <;> simp[g]) _ _ _ _ ?_);rw[show({s with heap:=s.heap.push {cls:=.type "dict",data:=.dict #[]}}:am).heap.objs.size=s.heap.objs.size+1 from zc ..];refine ap ?_;rw[List.forIn_nil];exact aG (aG l)
theorem E_{s:am}{a:List (Str×gQ)}{y:Str}{c:ag}(h:(y,c)∈fX (s.heap.objs.size+1) a []):(pushCells (s.heap.push {cls:=.type "dict",data:=.dict #[]}) a).IsCell c ae/\s.heap.objs.size+1<=c/\∀z,(z,c)∈fX (s.heap.objs.size+1) a []->y=z:=by have ok:=cellsFrom_ok a (s.heap.push {cls:=.type "dict",data:=.dict #[]}) (s.heap.objs.size+1) [] ⟨λ_ _ d=>(nomatch d),List.Pairwise.nil⟩ (by rw[zc];exact aY _);rw[zc]at ok;exact⟨(ok.empty y c h).1,(ok.empty y c h).2,λz b=>name_of_addr ok.apart h b⟩
def cx(X:Cx)(a:dy)(b:List Str)(C:ag)(s₀:am)(H₀:Hp)(ex:List ag)(pn:List (ag×Obj)):Cx where
 prog:=X.prog
 w:=X.w
 K:=X.K
 mg:=X.mg
 base:=X.base
 A:=X.A
 N:=b
 s₀:=s₀
 H₀:=H₀
 env:=compEnvC a (lZ X a C) C X.env
 outer:=X.stack
 stack:=X.stack
 ex:=ex
 fn:=λy=>a.names.lookup y == aa .cell
 calm:=X.calm
 pn:=X.pn++pn
 xe:=λ_ _=>False
def gJ(b:St)(a:List Nat):St:=a.map λi=>(b[i]?).join
structure jx(X:Cx)(scope:dy)(x:Str)(N':List Str)(cap:List Nat):Prop where
 kind:scope.kind=.function
 cells:∀y∈scope.names,y.2=.cell->scope.names.lookup y.1=aa .cell
 names:∀y∈scope.names,y.2=.local->scope.names.lookup y.1=aa .local
 loc:scope.names.lookup x=aa .local\/scope.names.lookup x=aa .cell
 free:∀y∈scope.names,y.2=.free->X.env.kindOf y.1=aa .cell\/X.env.kindOf y.1=aa .free
 nd:N'.Nodup
 hd:N'.head?=aa x
 len:N'.length=cap.length+1
 caps:∀i j y,N'[i+1]?=aa y->cap[i]?=aa j->(X.N[j]?=aa y/\scope.names.lookup y=aa .free)\/(X.N.length<=j/\scope.names.lookup y=aa .local)
theorem O_{a:List (Str×gQ)}{y:Str}{k:gQ}(h:a.lookup y=aa k):∃x∈a,x.1=y/\x.2=k:=⟨(y,k),lL h,rfl,rfl⟩
theorem AQ{a:Env}{x:Str}:∀{b:List (Str×gQ)}{k:gQ}, (b.map λ(n,k)=>if(k == NameKind.free&&a.scope.kind == .function&&a.kindOf n == aa .cell)then(n,NameKind.cell)else(n,k)).lookup x=aa k -> ∃f,b.lookup x=aa f/\(k=f\/(f=.free/\k=.cell))
 |[],_,h=>by simp at h
 | (n,c)::r,k,h=>by
  change Cv x ((if(c == NameKind.free&&a.scope.kind == .function&&a.kindOf n == aa .cell)=ah then(n,NameKind.cell)else(n,c))::_)=_ at h;rw[lc];by_cases d:(c == NameKind.free&&a.scope.kind == .function&&a.kindOf n == aa .cell)=ah
  .rw[if_pos d,lc]at h;split at h
   .rename_i g;cases h;have:c=.free:=by simp at d;exact d.1.1
    exact⟨c,rfl,.inr ⟨this,rfl⟩⟩
   .exact AQ h
  .rw[if_neg d,lc]at h;split at h
   .rename_i g;cases h;exact⟨c,rfl,.inl rfl⟩
   .exact AQ h
theorem BX{a:Env}{x:Str}:∀{b:List (Str×gQ)},b.lookup x=aa .free -> let q:=(b.map λ(n,k)=>if(k == NameKind.free&&a.scope.kind == .function&&a.kindOf n == aa .cell)then(n,NameKind.cell)else(n,k)).lookup x
  q=aa .cell\/q=aa .free
 |[],h=>by simp at h
 | (n,c)::r,h=>by
  show Cv x ((if(c == NameKind.free&&a.scope.kind == .function&&a.kindOf n == aa .cell)=ah then(n,NameKind.cell)else(n,c))::_)=_\/Cv x ((if(c == NameKind.free&&a.scope.kind == .function&&a.kindOf n == aa .cell)=ah then(n,NameKind.cell)else(n,c))::_)=_;rw[lc]at h;by_cases f:(c == NameKind.free&&a.scope.kind == .function&&a.kindOf n == aa .cell)=ah
  .rw[if_pos f,lc];cases d:x == n with
   |true=>exact .inl rfl
   |false=>rw[d]at h;exact BX h
  .rw[if_neg f,lc];cases d:x == n with
   |true=>rw[d]at h;cases h;exact .inr rfl
   |false=>rw[d]at h;exact BX h
theorem AS{a:Env}{x:Str}:∀{b:List (Str×gQ)},b.lookup x=aa .cell -> (b.map λ(n,k)=>if(k == NameKind.free&&a.scope.kind == .function&&a.kindOf n == aa .cell)then(n,NameKind.cell)else(n,k)).lookup x=aa .cell
 |[],h=>by simp at h
 | (n,d)::r,h=>by
  show Cv x ((if(d == NameKind.free&&a.scope.kind == .function&&a.kindOf n == aa .cell)=ah then(n,NameKind.cell)else(n,d))::_)=_;rw[lc]at h;by_cases f:(d == NameKind.free&&a.scope.kind == .function&&a.kindOf n == aa .cell)=ah
  .rw[if_pos f,lc];cases c:x == n with
   |true=>rfl
   |false=>rw[c]at h;exact AS h
  .rw[if_neg f,lc];cases c:x == n with
   |true=>rw[c]at h;cases h;rfl
   |false=>rw[c]at h;exact AS h
section
variable{X:Cx}{w:List (ag×Obj)}{t:St}{H:Hp}{s:am}{f:dy}{x:Str}{A:List Str}{g:List Nat}
theorem Inv.freeHas(I:Inv X w t H s)(B:jx X f x A g):∀y∈f.names,y.2=.free->∃c,X.env.cells.lookup y.1=aa c:=λy a e=>I.ok.has y.1 (B.free y a e)
theorem Inv.clIn(I:Inv X w t H s)(B:jx X f x A g){y:Str}{c:ag}(h:(iE X.env f.names []).lookup y=aa c):X.env.cells.lookup y=aa c:=by
 rcases R3 f.names [] (I.freeHas B) h with q|q
 .simp at q
 .exact q
theorem Inv.cbIn(I:Inv X w t H s)(B:jx X f x A g){C:ag}{y:Str}{c:ag}(h:(lZ X f C).lookup y=aa c):((y,c)∈fX (C+1) f.names []/\f.names.lookup y=aa .cell)\/((iE X.env f.names []).lookup y=aa c/\X.env.cells.lookup y=aa c):=by
 rw[Bb,IH]at h;cases e:(fX (C+1) f.names []).lookup y with
 |none=>rw[e]at h;exact .inr ⟨h,I.clIn B h⟩
 |some a=>
  rw[e]at h;cases h;have m:=lL e;rcases xk _ _ _ m with z|z
  .cases z
  .exact .inl ⟨m,B.cells _ z rfl⟩
theorem Inv.cbOld(I:Inv X w t H s)(B:jx X f x A g){C:ag}{y:Str}{c:ag}(h:(iE X.env f.names []).lookup y=aa c)(a:f.names.lookup y=aa .free):(lZ X f C).lookup y=aa c:=by
 rw[Bb,IH];cases e:(fX (C+1) f.names []).lookup y with
 |none=>exact h
 |some b=>
  rcases xk _ _ _ (lL e)with z|z
  .cases z
  .have:=B.cells _ z rfl;rw[a]at this;cases this
theorem Inv.block{fp:List ag}{D:aB}{m:Str->Option ai}{t':Nat}(hh:D=pushCells (s.heap.push {cls:=.type "dict",data:=.dict #[]}) f.names)(I:Inv X w t H s)(B:jx X f x A g)(T:∀b∈fp,lG X w H b)(Z:∀b∈fp,∃o,s.heap.get? b=aa o)(lR:D.Ns s.heap.objs.size m)(E:∀b o,s.heap.get? b=aa o->D.get? b=aa o):Inv (cx X f A s.heap.objs.size s H fp w) [] (ae::gJ t g) H {s with heap:=D,toks:=t'}:=by
 have M:∀x c,X.env.cells.lookup x=aa c->c<s.heap.objs.size:=λx c e=>(I.cell x c e).elim λv q=>q.lt;have C:∀{y:Str}{c:ag},(y,c)∈fX (s.heap.objs.size+1) f.names []->D.IsCell c ae/\s.heap.objs.size+1<=c/\∀z,(z,c)∈fX (s.heap.objs.size+1) f.names []->y=z:=λh=>by rw[hh];exact E_ h
 have lk:∀y k,(compEnvC f (lZ X f s.heap.objs.size) s.heap.objs.size X.env).kindOf y=aa k->∃N,f.names.lookup y=aa N/\(k=N\/(N=.free/\k=.cell)):=λy k h=>AQ h;have G:∀y,f.names.lookup y=aa .free->∃c,(iE X.env f.names []).lookup y=aa c:=λy h=>zL f.names [] (O_ h);have nfs:∀b∈fM X.stack,b≠s.heap.objs.size:=λb F e=>by
  rcases bE.mp (I.stkSub b F)with z|z
  .exact absurd I.lt (by rw[<-z,e];exact fA _)
  .exact I.nofs (mx e.symm) z
 refine⟨⟨I.ok.mod,B.kind,I.ok.glob,I.ok.blt,aY _,λy z c h1 h2=>?_,λy P=>?_,λy c h js=>?_,I.ok.hd,I.ok.frames,.inl rfl,λb F=>?_,λb o e=>I.bs b o e,cQ I.ok.bsz I.sz,λb o e F=>?_,λb F hf=>?_,I.stack,(λb F=>I.stkFree b F),I.tab⟩,rfl,I.bare,Un.kept E,⟨m,lR,λi y v e1 Q e3=>?_⟩,λy c h=>?_,I.hok.fresh (aY _),λy c h=>?_,λp hp=>?_,I.hok.kept E,?_⟩
 .-- inj
  rcases I.cbIn B h1 with⟨a1,a2⟩|⟨a1,a2⟩ <;> rcases I.cbIn B h2 with⟨b1,b2⟩|⟨b1,b2⟩
  .exact(C a1).2.2 z b1
  .exact(yL (C a1).2.1 (M _ _ b2)).elim
  .exact(yL (C b1).2.1 (M _ _ a2)).elim
  .exact I.ok.inj y z c a2 b2
 .-- has
  show ∃c,(lZ X f s.heap.objs.size).lookup y=aa c;have mK:f.names.lookup y=aa .free->∃c,(lZ X f s.heap.objs.size).lookup y=aa c:=λq=>(G y q).imp λc hc=>I.cbOld B hc q;rcases P with P|P
  .obtain⟨N,q,z|⟨z,_⟩⟩:=lk y _ P
   .subst z;exact yX _ _ _ (lL q)
   .subst z;exact mK q
  .obtain⟨N,q,z|⟨_,z⟩⟩:=lk y _ P
   .subst z;exact mK q
   .cases z
 .-- cab
  have hk:f.names.lookup y=aa .cell:=by simpa using(show(f.names.lookup y == aa .cell)=ah from h)
  show s.heap.objs.size<=c;rcases I.cbIn B js with⟨a1,a2⟩|⟨a1,a2⟩
  .have:=(C a1).2.1;lia
  .obtain⟨c',O⟩:=yX (n:=s.heap.objs.size+1) (a:=[]) _ (lL hk);have e:(lZ X f s.heap.objs.size).lookup y=aa c':=by rw[Bb,IH,O];rfl
   have Q:(lZ X f s.heap.objs.size).lookup y=aa c:=js;rw[e]at Q;cases Q;have:=(C (lL O)).2.1;lia
 .-- exf
  obtain⟨f0,f1,f2,f3,f4,f5⟩:=T b F;obtain⟨o,K⟩:=Z b F;refine⟨λe=>absurd (bK K) (by rw[e];exact fA _),λy c h=>?_⟩;rcases I.cbIn B h with⟨a1,a2⟩|⟨a1,a2⟩
  .rintro rfl;exact yL (C a1).2.1 (bK K)
  .exact f4 y c a2
 .-- noex
  obtain⟨f0,f1,f2,f3,f4,f5⟩:=T b F;rcases f3 with z|z
  .exact I.ok.noex b o e z
  .exact absurd (fU (bK e) (cQ I.ok.bsz z)) (fA _)
 .-- exfs
  obtain⟨f0,f1,f2,f3,f4,f5⟩:=T b F;rcases bE.mp (I.stkSub b hf)with z|z
  .exact f1 z
  .exact f2 z
 .-- loc
  cases i with
  |zero=>simp at Q
  |succ i=>
   have J:(gJ t g)[i]?=aa (aa v):=by simpa using Q
   unfold gJ at J;rw[kD]at J;cases Y:g[i]? with
   |none=>rw[Y]at J;cases J
   |some j=>
    rw[Y]at J;have S:(t[j]?).join=aa v:=dQ J;have e5:t[j]?=aa (aa v):=by
     cases hq:t[j]? with
     |none=>rw[hq]at S;cases S
     |some o=>rw[hq]at S;exact congrArg aa S
    obtain⟨b1,b2⟩:=(B.caps i j y e1 Y).elim id λz=>by have:=(dR.mp e5).1;rw[I.len]at this;exact absurd this (Nat.not_lt.mpr z.1)
    obtain⟨mm,hn,hl⟩:=I.loc;have vY:=B.free _ (lL b2) rfl;have W:ef X.env.scope y:=by
     rcases vY with z|z
     .exact .inr (.inl z)
     .exact .inr (.inr z)
    obtain⟨u,r,l⟩:=hl j y v b1 e5 W;refine⟨u,r,.inr ⟨BX b2,?_⟩⟩;rcases l with⟨l,_⟩|⟨_,c,hc,zz⟩
    .rcases vY with z|z
     .rw[l]at z;cases z
     .rw[l]at z;cases z
    .obtain⟨c',O⟩:=G y b2;have e6:=I.clIn B O;rw[hc]at e6;cases e6;obtain⟨L,K,hd⟩:=zz;exact⟨c,I.cbOld B O b2,L,E c L K,hd⟩
 .rcases I.cbIn B h with⟨a1,a2⟩|⟨a1,a2⟩
  .exact⟨ae,(C a1).1⟩
  .obtain⟨v,L,K,hd⟩:=I.cell y c a2;exact⟨v,L,E c L K,hd⟩
 .rcases I.cbIn B h with⟨a1,a2⟩|⟨a1,a2⟩
  .exact I.hok.fresh (cQ (vK _) (C a1).2.1)
  .exact I.freeC y c a2
 .have fF:p∈X.pn++w:=by simpa[cx]using hp
  obtain⟨e,n,ne,nf,d⟩:=I.pin p fF;refine⟨E _ _ e,n,cY (bK e),λhf=>?_,d⟩;rcases bE.mp (I.stkSub p.1 hf)with z|z
  .exact ne z
  .exact nf z
 .show(ae::gJ t g).length=A.length;rw[B.len];simp[gJ]
end
def qi(X:Cx)(b:List az)(t:TT):Prop :=
 ∀(d:List (ag×Obj)) (s:am) (a:St) (H:Hp) (Q:Bool->Hp->Prop),Inv X d a H s->t a H Q ->
  ar (aw X.prog X.w) X.A (forIn b ah λc r=>if r=ah then do let ok <-nN c X.env (aK c X.env);pure (ForInStep.yield ok)else pure (ForInStep.yield r)) (TP X d a Q) X.xe s
theorem Mu{P:aQ}{w:aE}{A:aT}{R:Result->am->Prop}{s:am}{m q i:az}{l:List az}{g:dy}{p:Pos}{t B:ai}{d:Env}(J:Nat->am->Prop)(n:∀k o,J k o->ar (aw P w) A (pyNext t) (λr z=>match r with
   |none=>R (.ok .next) z
   |some v=>ar (aw P w) A (Cf q t v) (λ_ F=>ar (aw P w) A (qC q d v) (λ_ E=>ar (aw P w) A (forIn l ah λc r=>if r=ah then do let ok <-nN c d (aK c d);pure (ForInStep.yield ok)else pure (ForInStep.yield r)) (λb u=>if b=ah then ar (aw P w) A (aK m d) (λy D=>ar (aw P w) A (call (.builtin "list.append") [B,y]) (λ_ C=>∃j,j<k/\J j C) (λ_ _=>False) D) (λ_ _=>False) u else ∃j,j<k/\J j u) (λ_ _=>False) E) (λ_ _=>False) F) (λ_ _=>False) z) (λ_ _=>False) o) (k:Nat) (h:J k s) :
  lK (aw P w) A (.compLoop (.ListComp m [⟨q,i,l,0⟩] g p) 0 t B d) R s:=by
 refine codeAny_loop rfl J (λj o I=>?_) k h;show ar _ A (Sem.onRaise (compTurn (.ListComp m [⟨q,i,l,0⟩] g p) 0 t B d) (λx=>do noteFrame x d;theTreesLotGoes x)) _ _ o;refine wpAny_noted ?_;rw[compTurn_list];have no:∀(O:ai->am->Prop) (a:ai) (b:am),False->O a b:=λ_ _ _ f=>f.elim;refine ap (wpAny_standAt (ap (ez (n j o I) (λr z H=>?_) (no _))));cases r with
 |none=>exact aG H
 |some v=>
  refine ap (ez H (λ_ F N=>ap (ez N (λ_ E M=>ap (ez M (λb u G=>?_) (no _))) (no _))) (no _));cases b with
  |true=>exact ap (ap (ez G (λy D L=>ap (ez L (λ_ C K=>aG (aG ⟨rfl,K⟩)) (no _))) (no _)))
  |false=>exact aG ⟨rfl,G⟩
def LY:TT:=λ_ H Q=>Q ah H
theorem Na{X:Cx}:qi X [] LY:=λ_ _ _ H _ I h=>wpAny_tests_nil ⟨H,I,h⟩
theorem Ic{X:Cx}{c:az}{t:TT}(h:PT X c t):qi X [c] t:=λd s a H Q I b=>wpAny_tests_one (h d s a H Q I b)
def B5(q:TI)(h:V->Hp->St->Prop)(k:Nat)(r:TT)(s:TE)(d:List Nat):TE:=λg H Q=>q g H λJ p=>∀l,p l=ae->∃W:Nat->Nat->List V->Hp->Prop,(∃m,W 0 m [] (upd p l (.lst [])))/\∀i m a H,W i m a H ->
 (J.stop i H/\Q (.ref l) H)\/(J.go i H/\∀v j,J.yld i H v j->∃f,f.length=k+1/\h v j f/\r (f++(gJ g d).drop k) j λb o=>if b=ah then s (f++(gJ g d).drop k) o λy n=>n l=aa (.lst a)/\a.length<a_/\∃c,c<m/\W (i+1) c (a++[y]) (upd n l (.lst (a++[y]))) else ∃c,c<m/\W (i+1) c a o)
def Ib:V->Hp->St->Prop:=λv _ a=>a=[aa v]
abbrev B3(b:TI)(c:TT)(d:TE)(a:List Nat):TE:=B5 b Ib 0 c d a
section
variable{X:Cx}{m:List (ag×Obj)}{t:St}{H:Hp}{s:am}{g:dy}{x:Str}{j:List Str}{l:List Nat}
theorem Inv.unblock{r:List ag}{p:Hp}{w:St}{s':am}{h:aB}(I:Inv X m t H s)(C:∀b∈r,lG X m H b)(a:Inv (cx X g j s.heap.objs.size s H r m) [] w p s') (sb:k7 s.heap.objs.size s'.heap h):Inv X m t p {s' with heap:=h}:=by
 have k:∀b o,b≠s.heap.objs.size->s'.heap.get? b=aa o->h.get? b=aa o:=λb o f e=>(sb.2 b f).trans e;have y:∀b o,s.heap.get? b=aa o->b≠s.heap.objs.size:=λb o e=>cY (bK e);have un:Un (fM X.stack) r H p s.heap h:=by
  refine⟨λb o e n f d=>k b o (y b o e) (a.base.keep b o e n f d),λb o e n f d=>?_,λb o e n d=>a.base.free b o e n d,λb o e d=>?_,a.base.tups,a.base.frzs,a.base.tbls⟩
  .obtain⟨D,q⟩:=a.base.slot b o e n f d;exact⟨D,k b _ (y b o e) q⟩
  .obtain⟨B,q⟩:=a.base.there b o e d;exact⟨B,k b B (y b o e) q⟩
 have A:dj X.prog X.w p h:=λb u e=>by
  have i:p s.heap.objs.size=ae:=a.free;refine(a.hok b u e).stay (λc v E q=>k c v ?_ q) (λ_ q=>q) λ_ _ q=>q;rintro rfl;rcases E with z|z
  .rw[<-z,i]at e;cases e
  .rw[i]at z;cases z
 refine I.call' (s':={s' with heap:=h}) (ch:=r) a.os un A a.bare λb f=>?_;obtain⟨J,G,f2,f3,f4,F⟩:=C b f;exact⟨f3,G,f4,F⟩
theorem Hb{elt F tg:az}{pos pos':Pos}{ifs:List az}{wi:TI}{tgf:V->Hp->St->Prop}{k:Nat}{ts:TT}{te:TE}{use:Option (ai->Sem Unit)}{Q:ai->am->Prop}{Qp:VK}(B:jx X g x j l)(hk:k<=l.length)(hc:X.calm=ah)(hi:PI X tg F wi)(cN:∀C E G ex pn,PG (cx X g j C E G ex pn) tg λv N H Q=>∃S,S.length=k+1/\N.length=j.length/\tgf v H S/\Q (S++N.drop (k+1)) H)(ht:∀C E G ex pn,qi (cx X g j C E G ex pn) ifs ts) (he:∀C E G ex pn,PE (cx X g j C E G ex pn) elt te) (hs:∀x,nV F X.env x=pure x) (I:Inv X m t H s) (h:B5 wi tgf k ts te l t H Qp)(fin:∀{w s6:am}{O H5:Hp}{K σ5 a f},Inv X m t O w->(∀b∈K,lG X m O b)->Inv (cx X g j w.heap.objs.size w O K m) [] σ5 H5 s6->Qp (.ref a) H5->compPost (aw X.prog X.w) X.A X.xe use Q (.ref a) w.heap.objs.size (.ok f) s6):ar (aw X.prog X.w) X.A (comprehension (.ListComp elt [⟨tg,F,ifs,0⟩] g pos) g X.env pos' (newList []) aj (aK F X.env) use) Q X.xe s:=by
 refine wpAny_comprehension_free (use:=use) rfl hs (Sq (I.freeHas B)) B.kind B.names (aL (hi m s t H _ I h) λv s1 h1=>aL h1 λitv D h2=>?_);obtain⟨it,K,tn,J,H2,e,I2,T,bf,f2,h2⟩:=h2;subst e;refine nY ?_;have I3:Inv X m t (upd H2 D.heap.objs.size (.lst [])) {D with heap:=D.heap.push {cls:=.type "list",data:=.seq ([]:List ai).toArray},toks:=D.toks}:=I2.lnew (its:=[]) (t':=D.toks) .nil (j4 _);obtain⟨W,⟨m0,w0⟩,turn⟩:=h2 D.heap.objs.size I2.fresh;generalize mM:({D with heap:=D.heap.push {cls:=.type "list",data:=.seq ([]:List ai).toArray},toks:=D.toks}:am)=w at I3;have hs3':({D with heap:=D.heap.push {cls:=.type "list",data:=.seq ([]:List ai).toArray}}:am)=w:=mM;generalize hH3:upd H2 D.heap.objs.size (.lst [])=O at I3 w0;have nl:∀b∈K,b≠D.heap.objs.size:=λb A e=>by obtain⟨o,ho,_⟩:=T.obj _ _ bf b A;exact absurd (bK ho) (by rw[e];exact fA _)
 have k3:∀b o,D.heap.get? b=aa o->w.heap.get? b=aa o:=λb o e=>by rw[<-mM];exact bn _ e
 have f3:∀b∈K,lG X m O b:=λb A=>⟨by rw[<-hH3,bj (nl b A)];exact(f2 b A).1,(f2 b A).2⟩
 have bF:tn 0 w.heap:=T.keep _ _ _ bf λb _ o e=>k3 b o e;have fo3:∀b∈K,∃o,w.heap.get? b=aa o:=λb A=>(T.obj _ _ bF b A).imp λo q=>q.1;refine Ot ?_;generalize hh:pushCells (w.heap.push {cls:=.type "dict",data:=.dict #[]}) g.names=h₁;have old:∀b o,w.heap.get? b=aa o->h₁.get? b=aa o:=λb o e=>hh ▸ pushCells_keeps _ _ b o (bn _ e);have lR:h₁.Ns w.heap.objs.size (λ_=>ae):=hh ▸ (Heap.Ns.new w.heap (.type "dict")).keeps (pushCells_keeps _ _);have I4:=Inv.block (t':=w.toks) hh.symm I3 B f3 fo3 lR old;have bS:tn 0 h₁:=T.keep _ _ _ bF λb _ o e=>old b o e;have L:∀{H':Hp},(∀b∈K,H' b=ae)->∀b∈K,lG (cx X g j w.heap.objs.size w O K m) [] H' b:=λhn b A=>by
  obtain⟨f0,f1,f2',f3',f4,f5⟩:=f3 b A;refine⟨hn b A,λe=>?_,λhf=>?_,.inl A,λy c h=>?_,λp hp=>f5 p (by simpa[cx]using hp)⟩
  .obtain⟨o,ho⟩:=fo3 b A;exact absurd (bK ho) (by rw[show b=w.heap.objs.size from e];exact fA _)
  .rcases bE.mp (I3.stkSub b hf)with z|z
   .exact f1 z
   .exact f2' z
  .rcases I3.cbIn B h with⟨a1,a2⟩|⟨a1,a2⟩
   .rintro rfl;obtain⟨o,ho⟩:=fo3 _ A;exact yL (E_ a1).2.1 (bK ho)
   .exact f4 y c a2
 have Y:lK (aw X.prog X.w) X.A (.compLoop (.ListComp elt [⟨tg,F,ifs,0⟩] g pos) 0 (.ref it) (.ref D.heap.objs.size) (compEnvC g (lZ X g w.heap.objs.size) w.heap.objs.size X.env))
   (compPost (aw X.prog X.w) X.A X.xe use Q (.ref D.heap.objs.size) w.heap.objs.size) {w with heap:=h₁,toks:=w.toks}:=by
  refine Mu (λn s'=>∃i P N H',(∃pre:St,pre.length=k+1/\N=pre++(gJ t l).drop k)/\Inv (cx X g j w.heap.objs.size w O K m) [] N H' s'/\tn i s'.heap/\(∀b∈K,H' b=ae)/\W i n P H') ?_ m0
   ⟨0,[],_,O,⟨(ae::gJ t l).take (k+1),by simp[gJ];lia,by rw[<-II (a:=ae)];exact(my _ _).symm⟩,I4,bS,λb A=>(f3 b A).1,w0⟩
  rintro n s5 ⟨i,P,σ5,H5,⟨pre,v6,rfl⟩,I5,cm,fr5,w5⟩;rcases turn i n P H5 w5 with⟨stop,q⟩|⟨go,step⟩
  .refine ez (T.done (cx X g j w.heap.objs.size w O K m) rfl rfl rfl hc i [] s5 _ H5 (λ_ _=>False) I5 (L fr5) cm stop) (λr s6 ⟨hr,I6⟩=>?_) (λ_ _ f=>f.elim);subst hr;exact fin I3 f3 I6 q
  .refine ez (T.item (cx X g j w.heap.objs.size w O K m) rfl rfl rfl hc i [] s5 _ H5 (λ_ _=>False) I5 (L fr5) cm go) (λr s6 ⟨u,hr,h6⟩=>?_) (λ_ _ f=>f.elim);subst hr;refine ez h6 (λ_ s7 ⟨v,H7,I7,r7,y7,Z,fr7⟩=>?_) (λ_ _ f=>f.elim);have I7':=I7.pinned (L fr7) (T.obj _ _ Z);have back:∀{M:St}{H8:Hp}{s8:am},Inv (cx X g j w.heap.objs.size w O K m) ([]++u7 K s7.heap) M H8 s8->tn (i+1) s8.heap/\(∀b∈K,H8 b=ae):=λ{M H8 s8} I8=>⟨T.keep _ _ _ Z λb A o e=>(I8.pin (b,o) (iR _ (iR _ (yk A e)))).1,λb A=>by obtain⟨o,e,d⟩:=T.obj _ _ Z b A;exact(I8.pin (b,o) (iR _ (iR _ (yk A e)))).2.1⟩
   obtain⟨S,dS,htg,step⟩:=step v H7 y7;refine aL (cN _ _ _ _ _ _ s7 _ H7 v u (λM H8=>M=S++(gJ t l).drop k/\H8=H7) I7' r7 ⟨S,dS,I7'.len,htg,by rw[vL ∅,List.drop_eq_nil_of_le ∅];rfl,rfl⟩) λ_ s8 ζ=>?_;obtain⟨M,H8,I8,e8,e8'⟩:=ζ;subst e8 e8';refine aL (ht _ _ _ _ _ _ s8 _ _ _ I8 step) λb s9 ζ=>?_;obtain⟨H9,I9,q9⟩:=ζ;cases b with
   |false=>
    obtain⟨m',hm,w9⟩:=(show ∃m',m'<n/\W (i+1) m' P H9 from q9)
    exact⟨m',hm,i+1,P,_,H9,⟨S,dS,rfl⟩,I9.unpinned,(back I9).1,(back I9).2,w9⟩
   |true=>refine aL (he _ _ _ _ _ _ s9 _ H9 _ I9 q9) λu10 s10 ζ=>?_;obtain⟨y,H10,I10,r10,hl10,hz10,m',hm,w10⟩:=ζ;refine aL (Gs _ s10 _ H10 (.ref D.heap.objs.size) [y] _ [u10] (λz H11=>H11=upd H10 D.heap.objs.size (.lst (P++[y]))) I10 rfl (.cons r10 .nil) ⟨_,P,y,rfl,rfl,hl10,hz10,rfl⟩) λ_ s11 ζ=>?_;obtain⟨_,H11,I11,_,e11⟩:=ζ;subst e11;exact⟨m',hm,i+1,P++[y],_,_,⟨S,dS,rfl⟩,I11.unpinned,(back I11).1,(back I11).2,w10⟩
 exact codeAny_compStart_list Y (T.self _ 0 _ _ _ bS Y)
theorem D5{w:Pos}(B:jx X g x j l):∀C b c i f,PG (cx X g j C b c i f) (.Name x w) λv d H Q=>∃n,n.length=0+1/\d.length=j.length/\Ib v H n/\Q (n++d.drop (0+1)) H:=by
 intro C b c i f m s d H v u Q I r h;obtain⟨n,_,z,y,q⟩:=h;cases (show n=[aa v] from y);have A:Loc (cx X g j C b c i f).env.scope x:=B.loc.elim (λh=>.inl (lookup_relabel_local h)) (λh=>.inr (AS h));have o:(cx X g j C b c i f).fn x=ah\/(cx X g j C b c i f).env.scope.names.lookup x=aa .local:=B.loc.elim (λh=>.inr (lookup_relabel_local h)) (λh=>.inl (by show(g.names.lookup x == aa .cell)=ah;rw[h];rfl));have p:(cx X g j C b c i f).N[0]?=aa x:=by show j[0]?=aa x;rw[<-List.head?_eq_getElem?];exact B.hd
 refine Ih B.nd p A o m s d H v u Q I r ?_;show Q (d.set 0 (aa v)) H;cases d with
 |nil=>rw[j3,B.len]at z;lia
 |cons a r=>exact q
theorem FU{f b:az}{p pos:Pos}{d:List az}{wi:TI}{ts:TT}{te:TE}(B:jx X g x j l)(A:X.calm=ah)(y:PI X (.Name x p) b wi)(v:∀C a c o i,qi (cx X g j C a c o i) d ts) (z:∀C a c o i,PE (cx X g j C a c o i) f te) (w:∀x,nV b X.env x=pure x:=by intro _;rfl):PE X (.ListComp f [⟨.Name x p,b,d,0⟩] g pos) (B3 wi ts te l):=by intro m s t H Q I h;rw[eval_ListComp];exact Hb (use:=ae) B (j4 _) A y (D5 B) v z w I h λD f3 r q=>by obtain⟨u,n,_⟩:=r.loc;exact⟨u,n,λE sb=>⟨.ref _,_,D.unblock f3 r sb,rfl,q⟩⟩
end
def Walk(J:It)(xs:List V)(R:Hp->Prop):Prop :=
 ∀H,R H->∀i,(∀x,xs[i]?=aa x->J.go i H/\∀y a,J.yld i H y a->a=H/\y=x)/\(i=xs.length->J.stop i H)
theorem OZ{K:ax}{a:ag}{xs:List V}:Walk (z_ K a) xs (λH=>cE K H a xs):=λH h i=>⟨λx b=>⟨⟨xs,x,h,b⟩,λy d z=>⟨z.1,by have:=z.2 xs h;rw[b]at this;exact(dQ this).symm⟩⟩,λc=>⟨xs,h,mx c.symm⟩⟩
theorem Kn{K:ax}{a:ag}{xs:List V}:Walk (Bm K a) xs (λH=>cW K H a xs):=λH h i=>⟨λx b=>⟨⟨xs,x,h,b⟩,λy d z=>⟨z.1,by have:=z.2 xs h;rw[b]at this;exact(dQ this).symm⟩⟩,λc=>⟨xs,h,mx c.symm⟩⟩
def sh(a:Int)(n:Nat):List V:=(cz n).map λi=>V.int (a+(i:Nat))
theorem Aq(a:Int)(n:Nat):(sh a n).length=n:=by simp[sh]
theorem Nh{b:Int}{n:Nat}:Walk (xQ b n) (sh b n) (λ_=>True):=λH _ i=>by
 refine⟨λx a=>?_,λc=>by rw[Aq]at c;exact mx c.symm⟩;have d:i<n:=by have:=(dR.mp a).1;rw[Aq]at this;exact this
 refine⟨d,λy g z=>⟨z.1,?_⟩⟩;unfold sh at a;rw[kD,IJ d]at a;have f:V.int (b+(i:Nat))=x:=dQ a;rw[z.2,<-f]
def sg(c:Nat):V:=.str ⟨#[c]⟩
def vm(z:Str):It:=⟨λi _=>i<z.cps.size,λi H x a=>a=H/\∃c,z.cps[i]?=aa c/\x=sg c,λi _=>i=z.cps.size⟩
theorem PX{z:Str}:Walk (vm z) (z.cps.toList.map sg) (λ_=>True):=λH _ i=>by
 refine⟨λx a=>?_,λd=>by show i=z.cps.size;simpa using d⟩;rw[kD]at a;cases e:z.cps.toList[i]? with
 |none=>rw[e]at a;cases a
 |some c=>
  rw[e]at a;have f:i<z.cps.size:=by have:=(dR.mp e).1;simpa using this
  refine⟨f,λy h w=>⟨w.1,?_⟩⟩;obtain⟨g,b,rfl⟩:=w.2;have:z.cps[i]?=aa c:=by simpa using e
  rw[this]at b;cases b;exact(dQ a)
section
variable{X:Cx}{a:az}
theorem Ra{P:aQ}{w:aE}{K:ax}{z:Str}{d:ag}{f:Nat->aB->Prop} (O:∀i h,f i h->∃o n r,h.get? d=aa o/\o.cls=.type n/\o.data=.fields r /\ ["enumerate","zip","dict_itemiterator","dict_reverseitemiterator","odict_iterator","itertools.zip_longest","itertools.pairwise"].contains n=aj)(T7:∀(A:aT) (i:Nat) (s:am) (Q:ai->am->Prop) (E:ai->am->Prop),f i s.heap->Q (.ref d) s->ar (aw P w) A (mq (.ref d)) Q E s)(B:∀A:aT,A.handled=ae->Walks P w A d [d] [d] z.cps.size (SignAt z) f):p7 P w K a (vm z) [d] d f where
 mem:=by simp
 obj:=λi h g b j=>by
  have e:b=d:=by simpa using j
  subst e;obtain⟨o,n,r,G,_,F,_⟩:=O i h g;exact⟨o,G,λv q=>by rw[F]at q;cases q⟩
 keep:=λi h m g k=>by exact(B ({}:aT) rfl).frame i h m g k
 item:=by intro X C t D y i S s N H E I p g x;subst C t D;obtain⟨M,L,f2,f3,f4,J⟩:=p d (by simp);refine(B X.A (I.ok.hd y)).item i s _ _ x g λv m l Y T k=>?_;have I1:Inv X S N H {s with heap:=m,toks:=l}:=I.turned (t':=l) (λb o j e=>k b o (by simpa using j) e) M L f3 f4 J;obtain⟨o,n,r,G,h2,F,Z⟩:=O _ _ T;obtain⟨c,u,e1,rfl⟩:=Y;exact⟨_,rfl,rM (s:={s with heap:=m,toks:=l}) G h2 F Z ⟨sg c,H,I1,⟨u,rfl⟩,⟨rfl,c,e1,rfl⟩,T,λb j=>(p b j).1⟩⟩
 done:=by intro X C t D y i S s N H E I p g x;subst C t D;obtain⟨M,L,f2,f3,f4,J⟩:=p d (by simp);have W:i=z.cps.size:=x;subst W;exact(B X.A (I.ok.hd y)).done s _ _ g λm l k=>⟨rfl,I.turned (t':=l) (λb o j e=>k b o (by simpa using j) e) M L f3 f4 J⟩
 self:=T7
theorem Qz{J:It}{xs:List V}{R:Hp->Prop}{g:TG}{l:TS}{D:lu}{b:St}{H:Hp}(A:Walk J xs R)(c:Nat->St->Hp->Prop)(B:c 0 b H)(v:∀i b H,i<=xs.length->c i b H->R H)(u:∀i x b H,xs[i]?=aa x->c i b H->g x b H λf j=>l {D with nx:=c (i+1),ct:=c (i+1),bk:=D.nx} f j) (z:∀b H,c xs.length b H->D.nx b H):∃W:Nat->Nat->St->Hp->Prop,(∃m,W 0 m b H)/\∀i m b H,W i m b H -> (J.stop i H/\D.nx b H)\/(J.go i H/\∃N:St->Hp->Prop,(∀h d,N h d->∃n,n<m/\W (i+1) n h d)/\∀x d,J.yld i H x d->g x b d λf j=>l {D with nx:=N,ct:=N,bk:=D.nx} f j):=by
 refine⟨λi m b H=>m=xs.length-i/\i<=xs.length/\c i b H,⟨xs.length,by simp,j4 _,B⟩,?_⟩;rintro i m b H ⟨rfl,w,p⟩;have q:=A H (v i b H w p) i;by_cases r:i<xs.length
 .have o:xs[i]?=aa xs[i]:=by simp[r]
  obtain⟨C,s⟩:=q.1 xs[i] o;refine .inr ⟨C,c (i+1),λh d t=>⟨xs.length-(i+1),∅,rfl,r,t⟩,λx d y=>?_⟩;obtain⟨rfl,rfl⟩:=s x d y;exact u i _ b _ o p
 .have e:i=xs.length:=∅
  subst e;exact .inl ⟨q.2 rfl,z b H p⟩
theorem SK{b:Type}(l:List b)(f:b->Bool)(d:Nat->Bool)(c:∀i x,l[i]?=aa x->d i=f x):(cz l.length).all d=l.all f:=by
 induction l generalizing d with
 |nil=>rfl
 |cons x r g=>rw[d_,vM,tq,Cw,tq,c 0 x rfl];congr 1;exact g _ λi y h=>c (i+1) y (by simpa using h)
theorem Tb{bs:List Bool}{b:List ai}(r:bv (bs.map V.bl) b){i:Nat}{v:ai}(h:b.toArray[i]?=aa v):v=.bool (bs.getD i aj):=by
 have d:=r.length;rw[cM]at d;have g:i<b.length:=by have:=(qM.mp h).1;simpa using this
 have e:(bs.map V.bl)[i]?=aa (.bl (bs.getD i aj)):=by rw[kD,eW ∅];simp[List.getD,eW (show i<bs.length by lia)]
 obtain⟨u,c,f⟩:=r.get e;have:b[i]?=aa v:=by simpa using h
 rw[this]at c;cases c;exact f
theorem zN{A:aT}(h:A.handled=ae):A.in1.handled=ae:=h
theorem Hr(j:X.calm=ah):eM X (.builtin "all") (λxs H Q=>∃(p:ag) (bs:List Bool),xs=[.ref p]/\cE X.K H p (bs.map V.bl)/\Q (.bl (bs.all id)) H):=by
 intro L s n H xs N Q I r h;obtain⟨p,bs,rfl,D,q⟩:=h;obtain⟨u,rfl,w⟩:=vals1 r;cases w;obtain⟨d,l,f,P⟩:=I.list D;have m:=l.length;rw[cM]at m;refine call_all_walk (Cy f.isList ?_);have K:p≠s.heap.objs.size:=by obtain⟨o,g,_⟩:=f.isList;exact cY (bK g)
 refine⟨s.heap.objs.size,_,_,_,_,_,λi=>bs.getD i aj,rfl,Walks.list (zN (I.ok.hd j)) s.heap.objs.size p K d.toArray,⟨⟨_,cy _ rfl,rfl,rfl⟩,?_⟩,λi v O T W C J=>?_,λS t k=>?_⟩
 .obtain⟨o,g,j,F⟩:=f.isList;exact⟨o,bn _ g,j,F⟩
 .rw[Tb l C];exact nQ J
 .have e:(cz d.toArray.size).all (λi=>bs.getD i aj)=bs.all id:=by
   rw[cg,<-m];exact SK bs id _ λi x B=>by simp[List.getD,B]
  rw[e];have M:Inv X L n H {s with heap:=s.heap.push {cls:=.type "list_iterator",data:=.fields #[.ref p,.int 0 0]},toks:=s.toks}:=I.kept (t':=s.toks) λb o e=>bn _ e;exact⟨.bl _,H,Inv.turned (t':=t) M (it:=s.heap.objs.size) (λb o G e=>k b o (by simpa using G) e) I.fresh (mo I.lt) (.inr I.sz) (λx c e z=>by obtain⟨v,y⟩:=I.cell x c e;exact absurd y.lt (by rw[z];exact fA _)) (λA E z=>absurd (bK (I.pin A E).1) (by rw[z];exact fA _)),rfl,q⟩
end
section
variable{X:Cx}
def l7(z:Str)(a b:Option Int):Str:=⟨((z.cps.toList.drop (HT.sIx z.length 0 a)).take (HT.sIx z.length z.length b-HT.sIx z.length 0 a)).toArray⟩
theorem Qx(a b:Nat):sliceRange (a:Int) (b:Int) 1=(cz (b-a)).map λk=>a+k:=by
 unfold sliceRange;have e:(if(1:Int) > 0 then(if(a:Int)<(b:Int)then((b:Int)-a+1-1) / 1 else 0)else(if(a:Int) > b then((a:Int)-b-1-1) / (-1)else 0)).toNat=b-a:=by
  rw[if_pos (by decide)];split
  .rw[Cm];lia
  .have:b-a=0:=∅
   rw[this];rfl
 show(cz (if(1:Int) > 0 then(if(a:Int)<(b:Int)then((b:Int)-a+1-1) / 1 else 0)else(if(a:Int) > b then((a:Int)-b-1-1) / (-1)else 0)).toNat).map _=_;rw[e];refine gC λk _=>?_;lia
theorem Lb(a b:Option Int)(n:Nat):IK a b 1 n=(cz (HT.sIx n n b-HT.sIx n 0 a)).map λk=>HT.sIx n 0 a+k:=by
 rw[<-Qx];have p:(1:Int) > 0:=by decide
 cases a <;> cases b <;> (unfold IK HT.sIx;simp only[p,if_true];congr 1 <;> (try split) <;> lia)
theorem Fd{b:Type}(l:List b)(a k:Nat):((cz k).map λj=>a+j).filterMap (λi=>l[i]?)=(l.drop a).take k:=by
 induction k with
 |zero=>simp
 |succ k c=>
  rw[tD,tE,List.filterMap_append,c,List.take_succ];congr 1;simp[qA];cases l[a+k]? <;> rfl
theorem MF(z:Str)(t:Tok)(l u:Option (Int×Tok)):∃m,sliceMade z t l u ae=m/\(m=.val (.str z t)/\l7 z (l.map (·.1)) (u.map (·.1))=z\/m=.str (l7 z (l.map (·.1)) (u.map (·.1)))):=by
 refine⟨_,rfl,?_⟩;unfold sliceMade slicePicked;have e:=Lb (l.map (·.1)) (u.map (·.1)) z.length;simp only[Option.map_none,IC];rw[e];have d:=Fd z.cps.toList (HT.sIx z.length 0 (l.map (·.1))) (HT.sIx z.length z.length (u.map (·.1))-HT.sIx z.length 0 (l.map (·.1)));have b:(((cz (HT.sIx z.length z.length (u.map (·.1))-HT.sIx z.length 0 (l.map (·.1)))).map λk=>HT.sIx z.length 0 (l.map (·.1))+k).filterMap (z.cps[·]?)).toArray=(l7 z (l.map (·.1)) (u.map (·.1))).cps:=by unfold l7;rw[<-d];simp
 split
 .rename_i h;left;refine⟨rfl,?_⟩;simp only[beq_self_eq_true,Bool.true_and,cM,zd,beq_iff_eq]at h;have g:HT.sIx z.length z.length (u.map (·.1))<=z.length:=HT.sIx_le _ _ (aY _) _;have f:z.cps.toList.length=z.length:=by simp[mv]
  have a:HT.sIx z.length 0 (l.map (·.1))=0\/z.length=0:=∅
  unfold l7;rw[h];rcases a with a|a
  .rw[a,pe,ip ∅]
  .have:z.cps.toList=[]:=lf ∅;rw[this];cases z;rename_i c;simp at this;subst this;simp
 .right;rw[show(⟨(((cz (HT.sIx z.length z.length (u.map (·.1))-HT.sIx z.length 0 (l.map (·.1)))).map λk=>HT.sIx z.length 0 (l.map (·.1))+k).filterMap (z.cps[·]?)).toArray⟩:Str)=l7 z (l.map (·.1)) (u.map (·.1))from by rw[b]]
def Gg:V->Option Int->Option Int->Hp->VK->Prop:=λx a b H Q=>∃z,x=.str z/\z.length<=a_/\Q (.str (l7 z a b)) H
theorem Sg(z:Str)(a b:Option Int):(l7 z a b).length<=z.length:=by unfold l7 mv;simp;lia
theorem part_of{v:ai}{o:Option Int}(p:nX v o):∃q:Option (Int×Tok),v=ze q/\q.map (·.1)=o:=by
 cases p with
 |none=>exact⟨ae,rfl,rfl⟩
 |int i t=>exact⟨aa (i,t),rfl,rfl⟩
theorem Uj:ng X Gg:=by
 intro y s n H x v p o r w a Q I b g d c h;obtain⟨z,rfl,f,q⟩:=h;obtain⟨t,rfl⟩:=b;obtain⟨l,rfl,rfl⟩:=part_of d;obtain⟨u,rfl,rfl⟩:=part_of c;refine⟨"str",_,F.slot_str_getitem.lookup,vF s z t,?_⟩;obtain⟨m,j,i⟩:=MF z t l u;refine getItem_meets (vF s z t) (by decide) TM F.entry_str_getitem (F.args_str_getitem_2 _ _) (meets_str_getitem_slice z t a l u ae (by decide)) ⟨g,?_⟩;rw[j];rcases i with⟨rfl,e⟩|rfl
 .exact⟨.str z,H,I,⟨t,rfl⟩,by rw[e]at q;exact q⟩
 .exact⟨cQ (Sg z _ _) f,⟨.str _,H,I.tok _,⟨_,rfl⟩,q⟩⟩
def ja(K:ax)(H:Hp)(d:Nat)(x y:V)(k:Bool):Prop :=
 ∀(X:Cx),X.K=K->∀(b:List (ag×Obj)) (a:St) (s:am) (u v:ai) (A:aT),Inv X b a H s->RelV x u->RelV y v->A.units+d<cLine->vG A s u v k
theorem Lg{K:ax}{H:Hp}{d:Nat}{x y:V}(f:gb x=ah)(c:gb y=ah):ja K H d x y (dJ x y):=λ_ _ _ _ _ _ _ _ _ b a _=>FI b a f c
def gy(e:Nat->Bool)(n m:Nat):Bool:=(cz (min n m)).all e&&n == m
theorem HZ{A:aT}:A.in1.units=A.units+1:=rfl
theorem AY{H:Hp}{d:Nat}{a b:ag}{xs c:List V}{e:Nat->Bool}{D:List (ag×Obj)}{o:St}{s:am}{A:aT}(I:Inv X D o H s)(L:cE X.K H a xs)(K:cE X.K H b c)(J:∀(j:Nat) x y,xs[j]?=aa x->c[j]?=aa y->ja X.K H d x y (e j)) (Q:A.units+(d+1)<cLine):SeqAt.RcAt A s (.ref a) (.ref b) (gy e xs.length c.length)/\SeqAt.RcNeAt A s (.ref a) (.ref b) (!gy e xs.length c.length):=by
 obtain⟨g,q,n,_⟩:=I.list L;obtain⟨i,p,f,_⟩:=I.list K;have G:=q.length;have P:=p.length;have w:∀j (B:j<g.toArray.size) (z:j<i.toArray.size),vG A.in1 s g.toArray[j] i.toArray[j] (e j):=λj B z=>by
  have M:j<g.length:=by simpa using B
  have N:j<i.length:=by simpa using z
  have l:xs[j]?=aa xs[j]:=eW ∅;have C:c[j]?=aa c[j]:=eW ∅;obtain⟨u,t,F⟩:=q.get l;obtain⟨v,r,E⟩:=p.get C;have O:g[j]=u:=by rw[eW M]at t;exact dQ t
  have f2:i[j]=v:=by rw[eW N]at r;exact dQ r
  have:=J j xs[j] c[j] l C X rfl D o s u v A.in1 I F E (by rw[HZ];lia);simpa[O,f2]using this
 by_cases h:xs.length=c.length
 .have m:g.toArray.size=i.toArray.size:=by simp;lia
  have l:gy e xs.length c.length=(cz g.toArray.size).all e:=by unfold gy;rw[h,Nat.min_self,beq_self_eq_true,Bool.and_true,cg,<-G,h]
  rw[l];exact⟨.lists n.isList f.isList m ∅ w,.lists n.isList f.isList m ∅ w⟩
 .have l:gy e xs.length c.length=aj:=by
   unfold gy;rw[beq_false_of_ne h,Bool.and_false]
  have m:(g.toArray.size != i.toArray.size)=ah:=by simp;lia
  rw[l];exact⟨.lists_lengths n.isList f.isList m ∅,.lists_lengths n.isList f.isList m ∅⟩
theorem BY{H:Hp}{d:Nat}{a b:ag}{xs c:List V}{e:Nat->Bool}{B:List (ag×Obj)}{l:St}{s:am}{A:aT}(I:Inv X B l H s)(K:cW X.K H a xs)(J:cW X.K H b c)(G:∀(j:Nat) x y,xs[j]?=aa x->c[j]?=aa y->ja X.K H d x y (e j)) (O:A.units+(d+1)<cLine):SeqAt.RcAt A s (.ref a) (.ref b) (gy e xs.length c.length)/\SeqAt.RcNeAt A s (.ref a) (.ref b) (!gy e xs.length c.length):=by
 obtain⟨g,n,q,_⟩:=I.tuple K;obtain⟨f,m,h,_⟩:=I.tuple J;have E:=n.length;have F:=m.length;have r:∀j (w:j<g.toArray.size) (t:j<f.toArray.size),vG A.in1 s g.toArray[j] f.toArray[j] (e j):=λj w t=>by
  have L:j<g.length:=by simpa using w
  have M:j<f.length:=by simpa using t
  have i:xs[j]?=aa xs[j]:=eW ∅;have z:c[j]?=aa c[j]:=eW ∅;obtain⟨u,p,D⟩:=n.get i;obtain⟨v,o,C⟩:=m.get z;have N:g[j]=u:=by rw[eW L]at p;exact dQ p
  have f2:f[j]=v:=by rw[eW M]at o;exact dQ o
  have:=G j xs[j] c[j] i z X rfl B l s u v A.in1 I D C (by rw[HZ];lia);simpa[N,f2]using this
 have i:gy e xs.length c.length=((cz (min g.toArray.size f.toArray.size)).all e&&g.toArray.size == f.toArray.size):=by unfold gy;rw[cg,cg,<-E,<-F]
 rw[i];exact⟨.tuples q h ∅ r,.tuples q h ∅ r⟩
theorem JW{K:ax}{H:Hp}{d:Nat}{a b:ag}{xs c:List V}{e:Nat->Bool}(m:cE K H a xs)(l:cE K H b c)(o:a≠b)(i:∀(j:Nat) x y,xs[j]?=aa x->c[j]?=aa y->ja K H d x y (e j)):ja K H (d+1) (.ref a) (.ref b) (gy e xs.length c.length):=λX n q p s u v A I g f h=>by
 subst n;cases g;cases f;exact .of_refs o (AY I m l i h).1
theorem Mc{K:ax}{H:Hp}{d:Nat}{a b:ag}{xs c:List V}{e:Nat->Bool}(m:cW K H a xs)(l:cW K H b c)(o:a≠b)(i:∀(j:Nat) x y,xs[j]?=aa x->c[j]?=aa y->ja K H d x y (e j)):ja K H (d+1) (.ref a) (.ref b) (gy e xs.length c.length):=λX n q p s u v A I g f h=>by
 subst n;cases g;cases f;exact .of_refs o (BY I m l i h).1
theorem Ea{K:ax}{H:Hp}{d:Nat}{a:ag}:ja K H d (.ref a) (.ref a) ah:=λX h i f s u v A I c b g=>by
 cases c;cases b;exact .same _
def uu(K:ax)(f:Bool):R2:=λx y H Q=>∃a b xs c d e,x=.ref a/\y=.ref b/\((cE K H a xs/\cE K H b c)\/(cW K H a xs/\cW K H b c))/\d<=8 /\
 (∀(j:Nat) x y,xs[j]?=aa x->c[j]?=aa y->ja K H d x y (e j))/\Q (.bl (if f then !gy e xs.length c.length else gy e xs.length c.length)) H
theorem Kf(m:X.A.units+64<cLine):b7 X (eC .Eq) (uu X.K aj):=by
 intro o s j H x y v u Q I g f h;obtain⟨a,b,xs,l,d,e,rfl,rfl,i,n,c,q⟩:=h;cases g;cases f;rcases i with⟨h1,h2⟩|⟨h1,h2⟩
 .exact(AY I h1 h2 c ∅).1 _ _ _ _ ⟨.bl _,H,I,rfl,q⟩
 .exact(BY I h1 h2 c ∅).1 _ _ _ _ ⟨.bl _,H,I,rfl,q⟩
theorem Qi(m:X.A.units+64<cLine):b7 X (eC .NotEq) (uu X.K ah):=by
 intro o s j H x y v u Q I g f h;obtain⟨a,b,xs,l,d,e,rfl,rfl,i,n,c,q⟩:=h;cases g;cases f;rcases i with⟨h1,h2⟩|⟨h1,h2⟩
 .exact(AY I h1 h2 c ∅).2 _ _ _ _ ⟨.bl _,H,I,rfl,q⟩
 .exact(BY I h1 h2 c ∅).2 _ _ _ _ ⟨.bl _,H,I,rfl,q⟩
def MW(K:ax):V->List V->Hp->VK->Prop:=λx a H Q=>∃(p:ag) (xs:List V) (y:V),x=.ref p/\a=[y]/\H p=aa (.lst xs)/\gb y=ah/\xs.all gb=ah/\Q (.int ((xs.countP λz=>dJ z y:Nat):Int)) H
theorem RB{y:V}{xs:List V}{a:List ai}(r:bv xs a)(f:xs.all gb=ah):a.countP (jA y)=xs.countP λz=>dJ z y:=by
 unfold bv at r
 induction r with
 |nil=>rfl
 |cons r _ g=>rw[tq,ge]at f;rw[List.countP_cons,List.countP_cons,ut r f.1,g f.2]
theorem Ms:vr X "list.count" (MW X.K):=by
 intro A s l H x m v o Q I c d h;obtain⟨p,xs,y,rfl,rfl,i,j,b,q⟩:=h;cases c;obtain⟨u,rfl,f⟩:=d.one;obtain⟨z,a,n,r,t,e⟩:=I.lstM i;refine tu F.slot_list_count ⟨_,e,rfl⟩ F.entry_list_count (F.args_list_count_2 _ _) (SeqAt.list_countAt p a.toArray n ae #[] u (jA y)) ⟨e,λw g=>ui f j r b w (by simpa using g),?_⟩;exact⟨.int _,H,I.tok _,⟨_,by rw[IL,RB r b]⟩,q⟩
def ON:V->List V->Hp->VK->Prop:=λx a H Q=>∃(p:ag) (xs:List V) (y:V) (j:Nat),x=.ref p/\a=[y]/\H p=aa (.lst xs)/\gb y=ah/\xs.all gb=ah/\j<xs.length /\
 (∀z,xs[j]?=aa z->dJ z y=ah)/\(∀(i:Nat) z,i<j->xs[i]?=aa z->dJ z y=aj)/\Q (.int j) H
theorem PJ:vr X "list.index" ON:=by
 intro af s P H x S v T Q I t A h;obtain⟨p,xs,y,j,rfl,rfl,J,M,l,Z,L,K,q⟩:=h;cases t;obtain⟨u,rfl,B⟩:=A.one;obtain⟨z,a,n,r,Y,e⟩:=I.lstM J;have W:=p9;have c:∀(i:Nat) (g:i<a.toArray.size),∃w,xs[i]?=aa w/\jA y a.toArray[i]=dJ w y:=λi g=>by
  have D:i<a.length:=by simpa using g
  have o:xs[i]?=aa xs[i]:=eW ∅;obtain⟨w,b,C⟩:=r.get o;have O:a[i]=w:=by rw[eW D]at b;exact dQ b
  refine⟨_,o,?_⟩;have N:gb xs[i]=ah:=qN.mp l _ (Cz _);rw[<-ut C N];simp[O]
 refine tu F.slot_list_index ⟨_,e,rfl⟩ F.entry_list_index (F.args_list_index_2 _ _) (SeqAt.list_indexAt p a.toArray n ae #[] u (jA y) j (by simp;lia) ∅ ?_ ?_) ⟨e,λw E=>ui B M r l w (by simpa using E),?_⟩
 .obtain⟨w,b,d⟩:=c j (by simp;lia);rw[d];exact L w b
 .intro m G f;obtain⟨w,b,d⟩:=c m G;rw[d];exact K m w f b
 .exact⟨.int _,H,I.tok _,⟨_,rfl⟩,q⟩
end
abbrev Tx:=List Nat
def tS(l:Tx):Str:=⟨l.toArray⟩
def tV(l:Tx):V:=.str (tS l)
def dG(a:List Tx):List V:=a.map tV
theorem oX(l:Tx):(tS l).cps.toList=l:=by simp[tS]
theorem lq(l:Tx):(tS l).length=l.length:=by simp[tS,mv]
theorem Os(z:Str):tS z.cps.toList=z:=by cases z;simp[tS]
theorem p6{a b:Tx}(h:tS a=tS b):a=b:=by rw[<-oX a,h,oX]
theorem yv(a:List Tx):(dG a).length=a.length:=cM _
def df(a b:Tx):Bool:=decide (a<=b)
def aR(ls:List Tx):List Tx:=ls.mergeSort df
theorem Fw(a b c:Tx)(f:df a b=ah)(d:df b c=ah):df a c=ah:=by simp only[df,decide_eq_true_eq]at *;exact List.le_trans f d
theorem ME(a b:Tx):(df a b||df b a)=ah:=by simp only[df,zf,decide_eq_true_eq];exact List.le_total a b
theorem Qq{a b:Tx}(d:df a b=ah)(c:df b a=ah):a=b:=by simp only[df,decide_eq_true_eq]at *;exact List.le_antisymm d c
theorem eY(ls:List Tx):(aR ls).Perm ls:=List.mergeSort_perm _ _
theorem oZ(ls:List Tx):(aR ls).Pairwise (λa b=>df a b=ah):=List.pairwise_mergeSort Fw ME _
theorem Bw(ls:List Tx):(aR ls).length=ls.length:=(eY ls).length_eq
theorem u5{c d:List Tx}(g:d.Perm c)(f:d.Pairwise (λa b=>df a b=ah)):d=aR c :=List.Perm.eq_of_pairwise (le:=λa b=>df a b=ah) (λ_ _ _ _ i h=>Qq i h) f (oZ c) (g.trans (eY c).symm)
theorem yu{ls:List Tx}(c:ls.Pairwise (λa b=>df a b=ah)):aR ls=ls:=(u5 (tF ls) c).symm
theorem z6{a b:List Tx}(c:a.Perm b):aR a=aR b:=u5 ((eY a).trans c) (oZ a)
theorem Ft:∀(p:Str) (l:List Str),risingS p l=ah->(p::l).Pairwise (λa b=>df a.cps.toList b.cps.toList=ah)
 |p,[],_=>List.pairwise_singleton _ _
 |p,x::r,h=>by
  have d:(!ltCps x.cps.toList p.cps.toList&&risingS x r)=ah:=h;rw[ge,ltCps_eq]at d;have q:=Ft x r d.2;have f:df p.cps.toList x.cps.toList=ah:=by simp only[df,decide_eq_true_eq];intro g;simp[g]at d
  refine List.pairwise_cons.mpr ⟨λy c=>?_,q⟩;rcases bE.mp c with rfl|c
  .exact f
  .exact Fw _ _ _ f (List.rel_of_pairwise_cons q c)
theorem SO{c:List Str}(h:sortedS c=ah):(c.map λz=>z.cps.toList).Pairwise (λa b=>df a b=ah):=by
 rw[List.pairwise_map];cases c with
 |nil=>exact List.Pairwise.nil
 |cons x r=>exact Ft x r h
theorem zM{a:List Tx}{b:List ai}(r:bv (dG a) b):eP b (a.map tS):=by
 induction a generalizing b with
 |nil=>cases r;exact .nil
 |cons l a g=>
  cases r with
  |cons e r=>obtain⟨t,rfl⟩:=e;exact .cons _ t (g r)
theorem Ph{b:List Str}{a:List ai}(h:eP a b):bv (dG (b.map λz=>z.cps.toList)) a:=by
 induction h with
 |nil=>exact .nil
 |cons y t _ g=>exact .cons ⟨t,by rw[Os]⟩ g
section
variable{X:Cx}
theorem NJ(z:Tx)(n:Nat):Txt.mul (tS z) (n:Int)=tS (bO n z).flatten:=by
 unfold Txt.mul;cases n with
 |zero=>simp[tS,eV]
 |succ n=>
  rw[if_neg ∅];split
  .rename_i h;simp only[zf,beq_iff_eq]at h;rcases h with h|h
   .have:n=0:=∅
    subst this;simp
   .rw[lq]at h;have:z=[]:=lf h;subst this;simp
  .unfold tS;congr 1;have b:∀(k:Nat) (a:Array Nat),(bO k z.toArray).foldl (·++·) a=a++(bO k z).flatten.toArray:=by
    intro k
    induction k with
    |zero=>intro a;simp
    |succ k c=>intro a;rw[o_,k_,c,o_,tt];simp[Array.append_assoc]
   have e:=b (n+1) #[];simp only[o7];simpa using e
theorem Pr:b7 X (iS .Mult) (λx y H Q=>∃(z:Tx) (n:Nat),x=tV z/\y=.int n/\n<=100/\z.length<=100/\Q (tV (bO n z).flatten) H):=by
 intro w s j H x y v u Q I c b h;obtain⟨z,n,rfl,rfl,f,d,q⟩:=h;obtain⟨t,rfl⟩:=c;obtain⟨m,rfl⟩:=b;refine SB.mul ?_ λl k=>?_
 .have o:z.length*n<=10000:=cQ (zg d f) (by decide);refine⟨by rw[Bool.or_eq_false_iff];constructor <;> (apply decide_eq_false;lia),λi _=>?_,λi _=>?_⟩
  .rw[lq];intro g;have r:(2^63-1:Int) / n ≥ (2^63-1) / 100:=by
    have a:(0:Int)<n:=∅
    apply (Int.le_ediv_iff_mul_le a).mpr;have:((2^63-1:Int) / 100)*n<=((2^63-1) / 100)*100:=Int.mul_le_mul_of_nonneg_left ∅ (by decide);refine Int.le_trans this (by decide)
   have p:((2^63-1:Int) / 100) > 1000:=by decide
   lia
  .rw[lq,o7];unfold Builtin.Str.tooLong;apply decide_eq_false;have:10000<a_:=by rw[k8];decide
   lia
 .rw[NJ];exact⟨tV _,H,I.tok _,⟨_,rfl⟩,q⟩
end
theorem NP(t:kE)(j:Nat):(t.put j).1.led=t.led/\(t.put j).1.plain=t.plain:=⟨rfl,rfl⟩
theorem J1(t:kE)(n:Nat):(t.orStandIn n).led=t.led/\((t.orStandIn n).plain=t.plain\/(t.orStandIn n).plain=aj):=by
 unfold SetTable.orStandIn;split
 .exact⟨rfl,.inl rfl⟩
 .exact⟨rfl,.inr rfl⟩
theorem K9(t:kE)(c:Array (Int×ai))(h:Int)(x:ai):(layNew t c h x).2.1.led=t.led/\((layNew t c h x).2.1.plain=t.plain\/(layNew t c h x).2.1.plain=aj):=by
 unfold layNew;split
 .rename_i a b _;have f:=NP t a;have d:=J1 (t.put a).1 (SetTable.insertAt c (t.put a).2 (h,x)).size;exact⟨d.1.trans f.1,by rw[<-f.2];exact d.2⟩
 .exact⟨rfl,.inr rfl⟩
theorem O9(t:kE)(c:Array (Int×ai))(a:Nat)(d:t.plain=aj):(tG t c a).2.1.led=t.led/\(tG t c a).2.1.plain=aj:=by
 unfold tG;split
 .rename_i t' b e;have q:t'.led=t.led/\t'.plain=t.plain:=by
   unfold SetTable.relaid SetTable.laid at e;cases q:SetTable.layClean (SetTable.sizeAbove a-1) (c.map (·.1))with
   |none=>rw[q]at e;cases e
   |some f=>rw[q]at e;cases e;exact⟨rfl,rfl⟩
  dsimp only;split
  .exact⟨q.1,q.2.trans d⟩
  .exact⟨rfl,rfl⟩
 .exact⟨rfl,rfl⟩
def cP(w:aE):Bool:=w.params.followText "set-order"
structure jC(P:aQ)(w:aE)(h:aB)(a:ag)(ks:List Str):Prop where
 ex:∃(es:Array (Int×ai)) (ep:Nat) (t:kE) (ss:List Str),h.get? a=aa {cls:=.type "set",dict:=ae,data:=.set es ep t}/\eP (es.toList.map (·.2)) ss/\ss.Perm ks/\ElemsOf (jq P w) es.toList /\
  es.size<4090/\t.fits es.size=ah/\t.led=(!cP w)/\(ks≠[]->t.plain=aj)
theorem jC.at{P:aQ}{w:aE}{h h':aB}{a:ag}{ks:List Str}(S:jC P w h a ks)(k:∀o,h.get? a=aa o->h'.get? a=aa o):jC P w h' a ks:=by obtain⟨es,b,t,ss,e,r⟩:=S.ex;exact⟨es,b,t,ss,k _ e,r⟩
theorem GS:∀{a:List ai}{b:List Str},eP a b->∀x,x∈b↔∃t,Value.str x t∈a
 |_,_,.nil,x=>by simp
 |_,_,.cons y t h,x=>by
  rw[bE,GS h x];constructor
  .rintro(rfl|⟨t',q⟩)
   .exact⟨t,lI ..⟩
   .exact⟨t',k6 _ q⟩
  .rintro⟨t',q⟩;rcases bE.mp q with q|q
   .cases q;exact .inl rfl
   .exact .inr ⟨t',q⟩
theorem Au:∀{a b:List ai},a.Perm b->∀{c:List Str},eP b c->∃d,eP a d/\d.Perm c:=by intro a b p c h;refine⟨a.map strOf,strsAre_map a λv f=>h.all v (p.mem_iff.mp f),?_⟩;have:=p.map strOf;rwa[h.strs]at this
section
variable{P:aQ}{w:aE}{A:aT}{E:ai->am->Prop}{s:am}
def km(ks:List Str)(x:Str):List Str:=if x∈ks then ks else ks++[x]
theorem jC.put{h:aB}{a:ag}{c es':Array (Int×ai)}{b:Nat}{t t':kE}(e:h.get? a=aa {cls:=.type "set",dict:=ae,data:=.set c b t}):(h.update a (Obj.putSet es' t')).get? a=aa {cls:=.type "set",dict:=ae,data:=.set es' (b+1) t'}:=by have:=o8 (Obj.putSet es' t') e (by rw[putSet_of es' t' rfl];rfl);rw[putSet_of es' t' rfl]at this;exact this
theorem Eu{a:ag}{ks:List Str}{x:Str}{g:Tok}{Q:Bool->am->Prop}(S:jC P w s.heap a ks)(hn:ks.length<4000)(h:∀l b,k7 a s.heap l->jC P w l a (km ks x)->Q b {s with heap:=l}):ar (aw P w) A (setAddHashed a (.str x g) ((jq P w).hash x)) Q E s:=by
 obtain⟨m,ep,t,ss,W,X,hp,C,hsz,hf,qS,dI⟩:=S.ex;have v:∀y t',(jq P w).is x (.str y t')=decide (y=x):=λy t'=>by
  show nL x (.str y t')=_;rw[mr];simp[nL]
  try exact eq_comm
 have fD:(jq P w).is x (.str x g)=ah:=by rw[v];simp
 have hb:m.size<scanBound:=Ct hsz (by decide);unfold setAddHashed setAddHashedIn;refine jn (ap (tI W rfl hf ?_));dsimp only;rw[byScan_of (knd:=jq P w) (x:=.str x g) rfl hb C];simp only[if_true];unfold setAddByScan;refine ap (ap (nZ (ap (wpAny_setScan_of fD W rfl hf C ?_))));have p:x∈ks↔∃e∈m.toList,(jq P w).is x e.2=ah:=by
  rw[<-hp.mem_iff,GS X x];constructor
  .rintro⟨t',q⟩;obtain⟨e,H,ee⟩:=cJ.mp q;exact⟨e,H,by rw[ee,v];simp⟩
  .rintro⟨e,H,q⟩;obtain⟨y,t',ey⟩:=X.all e.2 (cJ.mpr ⟨e,H,rfl⟩);rw[ey,v]at q;have:y=x:=of_decide_eq_true q;subst this;exact⟨t',cJ.mpr ⟨e,H,ey⟩⟩
 have klen:ks.length=m.size:=by
  have Z:=hp.length_eq;have Y:ss.length=m.size:=by rw[<-X.strs];simp
  lia
 cases hr:List.findIdx? (λe=>(jq P w).is x e.2) m.toList with
 |some j=>dsimp only;obtain⟨hj,hpj,_⟩:=IM.mp hr;have T:x∈ks:=p.mpr ⟨_,Cz hj,hpj⟩;refine aG (aG ?_);exact h s.heap _ (Heap.SameBut.refl a s.heap) (by unfold km;rw[if_pos T];exact S)
 |none=>
  dsimp only;have T:¬x∈ks:=λhm=>by obtain⟨e,H,q⟩:=p.mp hm;have:=List.findIdx?_eq_none_iff.mp hr e H;rw[q]at this;exact Bool.noConfusion this
  have J:∀(b:Bool) {i:am}{Q':Unit->am->Prop},Q' () i->ar (aw P w) A (match b with|ah=>rule "set.scan.the-table-gave-way" |aj=>pure ()) Q' E i :=
   λb i Q' hq=>by cases b <;> first|exact aG hq|exact nZ hq
  have F:=layNew_perm t m ((jq P w).hash x) (.str x g);have M:=layNew_fits t m ((jq P w).hash x) (.str x g);have z:=K9 t m ((jq P w).hash x) (.str x g);generalize hL:layNew t m ((jq P w).hash x) (.str x g)=L at F M z ⊢;obtain⟨c,t1,f,gave⟩:=L;dsimp only at F M z ⊢;rw[vN]at F;have u:ElemsOf (jq P w) c.toList:=(C.push fD rfl).perm F;have hsz1:c.size=m.size+1:=by have:=F.length_eq;simpa using this
  have hS1:∃G,eP (c.toList.map (·.2)) G/\G.Perm (km ks x):=by
   have p1:=F.map (λe:Int×ai=>e.2);rw[tE]at p1;have q1:eP (m.toList.map (·.2)++[Value.str x g]) (ss++[x]):=by
    have gen:∀{vs:List ai}{zs:List Str},eP vs zs->eP (vs++[Value.str x g]) (zs++[x]):=by
     intro vs zs hh
     induction hh with
     |nil=>exact .cons x g .nil
     |cons y t _ ih=>exact .cons y t ih
    exact gen X
   obtain⟨G,O,N⟩:=Au p1 q1;refine⟨G,O,N.trans ?_⟩;unfold km;rw[if_neg T];exact hp.append_right _
  obtain⟨G,O,N⟩:=hS1;have bT:km ks x≠[]:=by unfold km;rw[if_neg T];simp
  have o:∀d:kE,d.fits c.size=ah->d.led=(!cP w)->d.plain=aj->ar (aw P w) A (do
    storeSet a c d
    if(!f&&d.tooFull)=ah then do
      (match (tG d c (tJ c.size)).2.2 with|ah=>rule "set.scan.the-table-gave-way" |aj=>pure ())
      storeSet a (tG d c (tJ c.size)).1 (tG d c (tJ c.size)).2.1
      pure (aa ah)
     else pure (aa ah)) (λr s'=>∃l,r=aa ah/\s'={s with heap:=l}/\k7 a s.heap l/\jC P w l a (km ks x)) E s:=by
   intro d hf2 jI fE;refine ap (wpAny_storeSet_of W rfl ?_ (fits_of_scanBound (Ct (show c.size<4090 by lia) (by decide))));have o1:=jC.put (es':=c) (t':=d) W;have jJ:=qO s.heap a (Obj.putSet c d);split
   .have K:=relayAll_perm d c (tJ c.size);have B:=relayAll_fits d c (tJ c.size);have n:=O9 d c (tJ c.size) fE;generalize hRl:tG d c (tJ c.size)=Rl at K B n ⊢;obtain⟨D,t3,gave2⟩:=Rl;dsimp only at K B n ⊢;have hsz2:D.size=c.size:=by have:=K.length_eq;simpa using this
    refine ap (J _ ?_);refine ap (wpAny_storeSet_of o1 rfl ?_ (fits_of_scanBound (Ct (show D.size<4090 by lia) (by decide))));obtain⟨ss2,u1,u2⟩:=Au (K.map (λe:Int×ai=>e.2)) O;refine aG ⟨_,rfl,rfl,jJ.trans (qO _ a _),⟨D,_,t3,ss2,jC.put o1,u1,u2.trans N,u.perm K,∅,B,n.1.trans jI,λ_=>n.2⟩⟩
   .exact aG ⟨_,rfl,rfl,jJ,⟨c,_,d,G,o1,O,N,u,∅,hf2,jI,λ_=>fE⟩⟩
  have Jt:t1.led=(!cP w):=z.1.trans qS;refine ap (J _ ?_);split
  .refine ap ?_;rw[hashByValue_scannable 8 (x:=.str x g) rfl];refine aG ?_;have hk:plainKind (.str x g)=aj:=rfl;rw[hk];simp only[mz,if_false];refine aL (o {t1 with plain:=aj} (SetTable.fits_plain_off M) Jt rfl) λr s' ζ=>?_;obtain⟨l,Z,Y,e3,e4⟩:=ζ;subst Z Y;exact aG (h l _ e3 e4)
  .rename_i I;refine ap (aG ?_);simp only[if_true];refine aL (o t1 M Jt (by simpa using I)) λr s' ζ=>?_;obtain⟨l,Z,Y,e3,e4⟩:=ζ;subst Z Y;exact aG (h l _ e3 e4)
end
def met(val:Nat->Str)(i:Nat):List Str:=((cz i).map val).foldl km []
theorem Bt(val:Nat->Str)(i:Nat):met val (i+1)=km (met val i) (val i):=by unfold met;rw[tD,tE,List.foldl_append];rfl
theorem AK(val:Nat->Str){i:Nat}:∀{j:Nat},i<=j->(met val i).length<=(met val j).length
 |0,h=>by rw[show i=0 by lia];exact aY _
 |j+1,h=>by
  by_cases e:i=j+1
  .subst e;exact aY _
  .refine cQ (AK val (j:=j) ∅) ?_;rw[Bt];unfold km;split
   .exact aY _
   .simp
section
variable{P:aQ}{w:aE}{A:aT}{R:Result->am->Prop}{I:ag}{c a:List ag}{G:Array GenState->Array GenState->Prop}{n:Nat}{d:Nat->ai->Prop}{St:Nat->am->Prop}
theorem Fi(W:WalksS P w A.in1 I c a G n d St)(S:ag)(C:S∉c){J:Nat->aB->Prop}(H:∀i h j,J i h->(∀b o,b∉a->h.get? b=aa o->j.get? b=aa o)->J i j)(X:∀(i:Nat) (v:ai) (s:am) (E:ai->am->Prop) (Q:Bool->am->Prop),i<n->d i v->J i s.heap->(∀j r b,s.toks<=r->k7 S s.heap j->J (i+1) j->Q b {s with heap:=j,toks:=r})->ar (aw P w) A.in1 (setAdd S v) Q E s):∀(k i:Nat) (s:am),n-i=k->i<=n->St i s->J i s.heap -> (∀f,Moved (S::a) G s f->J n f.heap->R (.ok (.ret .none)) f)->lK (aw P w) A (.builtin "set.update.loop" ⟨[.ref S,.ref I],[]⟩) R s:=by
 have O:S∉a:=λh=>C (W.sub _ h);have D:∀b∈a,b∈S::a:=λb g=>k6 _ g;intro k
 induction k with
 |zero=>
  intro i s M N y u x;obtain rfl:i=n:=∅
  refine n5 TN ?_;rw[qP IN _];show ar _ A.in1 (pyNext (.ref I) >>= _) _ _ s;refine ap (W.done s _ _ y λf p=>?_);show ar _ A.in1 (ret Value.none) _ _ f;exact aG (x f (p.mono D) (H _ _ _ u λb o g e=>p.heap b o g e))
 |succ k L=>
  intro i s M N y u x;have z:i<n:=∅
  refine n5 TN ?_;rw[qP IN _];show ar _ A.in1 (pyNext (.ref I) >>= _) _ _ s;refine ap (W.item i s _ _ z y λv f T l p=>?_);show ar _ A.in1 (nR [v] (setAdd S v) >>= _) _ _ f;refine ap (jn (X i v f _ _ z T (H _ _ _ u λb o g e=>p.heap b o g e) λj r b B F K=>?_));refine aG ⟨qQ IN _,L (i+1) _ ∅ z (W.frame _ f _ _ l B λb g o e=>?_) K λt m q=>?_⟩
  .rw[F.2 b (λh:b=S=>C (by rw[<-h];exact g))];exact e
  .refine x t (Moved.trans W.gtrans ((p.mono D).then_heap B λb o g e=>?_) m) q;rw[F.2 b (λh:b=S=>g (by rw[h];exact lI))];exact e
end
section
variable{P:aQ}{w:aE}{A:aT}{E:ai->am->Prop}{s:am}
theorem FC(a:ai){Q:ai->am->Prop} (h:jC P w (s.heap.push {cls:=.type "set",dict:=ae,data:=.set #[] 0 (.fresh 0 0 (!cP w))}) s.heap.objs.size [] -> Q (.ref s.heap.objs.size) {s with heap:=s.heap.push {cls:=.type "set",dict:=ae,data:=.set #[] 0 (.fresh 0 0 (!cP w))}}):lK (aw P w) A (.call (.builtin "set.__new__") ⟨[.type "set",a],[]⟩) (wants Q E) s:=by
 refine codeAny_of_tree ?_;show ar _ A.in1 (do IP "set.__new__" ⟨[.type "set",a],[]⟩;again (.builtin "set.__new__" ⟨[.type "set",a],[]⟩)) _ _ s;refine ap (zh (PySem.F.newCall_set_1 a) (aG ⟨qQ F.plain_set_new _,n5 F.entry_set_new ?_⟩));rw[qP F.plain_set_new _];unfold Builtin.«set.__new__» Builtin.Frozenset.newClass;have i:=sub_set_self;obtain⟨j,g,d,c,f⟩:=s;dsimp only
 wp_walk
 refine tK (aG ?_);dsimp only;simp only[newObj];refine ap (wpAny_alloc (aG ?_));refine aG (h ⟨#[],0,_,[],cy _ rfl,.nil,tF _,λe b=>by simp at b,by decide,rfl,rfl,λh=>absurd rfl h⟩)
end
end L2
set_option maxHeartbeats 8000000
namespace L2
theorem JY:entryFor table "set.__iter__"=aa Builtin.«frozenset.__iter__»:=entryFor_alias (id':="frozenset.__iter__") (by kernel_rfl) rfl (by decide +kernel) (by kernel_rfl)
theorem E3:Slot "set_iterator" "__next__" "set_iterator.__next__" :=
 .of (owner:="set_iterator") (n:="__next__") (by rw[typeLookup_type,builtinLookup_eq_fast];kernel_rfl) (by decide +kernel) (by decide +kernel) (by decide +kernel) (by first|exact .inl (by decide +kernel)|exact .inr (by decide +kernel)) (by rw[isSubtype_type];kernel_rfl)
theorem NB:entryFor table "set_iterator.__next__"=aa Builtin.«set_iterator.__next__»:=entryFor_of_fast (by kernel_rfl)
theorem OH(a:ai):argsOk "set_iterator.__next__" ⟨[a],[]⟩:=by unfold argsOk;kernel_rfl
theorem Ds:Slot "set_iterator" "__iter__" "set_iterator.__iter__" :=
 .of (owner:="set_iterator") (n:="__iter__") (by rw[typeLookup_type,builtinLookup_eq_fast];kernel_rfl) (by decide +kernel) (by decide +kernel) (by decide +kernel) (by first|exact .inl (by decide +kernel)|exact .inr (by decide +kernel)) (by rw[isSubtype_type];kernel_rfl)
theorem OF:entryFor table "set_iterator.__iter__"=aa Builtin.«dict_keyiterator.__iter__»:=entryFor_alias (id':="dict_keyiterator.__iter__") (by kernel_rfl) rfl (by decide +kernel) (by kernel_rfl)
theorem JH(a:ai):argsOk "set_iterator.__iter__" ⟨[a],[]⟩:=by unfold argsOk;kernel_rfl
def jw(first:ai)(i:Nat)(a:ag)(n b:Nat):Obj:={cls:=.type "set_iterator",data:=.fields #[first,.int i 0,.ref a,.int n 0,.int b 0]}
section
variable{P:aQ}{w:aE}{A:aT}{E:ai->am->Prop}{s:am}
theorem wQ{I a:ag}{first:ai}{i n d:Nat}{Q:ai->am->Prop}(h:s.heap.get? I=aa (jw first i a n d))(c:Q (.ref I) s):ar (aw P w) A (mq (.ref I)) Q E s:=by
 have b:s.TypeIs (.ref I) "set_iterator":=⟨_,h,rfl⟩
 refine wpAny_pyIter_slot b Ds (vE Ds b OF ?_ (JH _));show ar _ _ (ret (.ref I)) _ _ s;exact aG ⟨_,rfl,"set_iterator",_,b,E3.lookup,c⟩
theorem p_{I a:ag}{first:ai}{i:Nat}{f:Array (Int×ai)}{g:Nat}{t:kE}{Q:Option ai->am->Prop}(n:s.heap.get? a=aa {cls:=.type "set",dict:=ae,data:=.set f g t})(m:t.fits f.size=ah)(l:s.heap.get? I=aa (jw first i a f.size g))(h:ar (aw P w) A.in1 (if let .int slot _:=first then do
    match <-n6 a slot.toNat (i:Int).toNat (g:Int).toNat with
    |some (x,next)=>do
     n8 (.ref I) 0 (d9 next)
     n8 (.ref I) 1 (d9 ((i:Int)+1))
     ret x
    |none=>do n8 (.ref I) 2 .none;raiseNew (<-newExc (.type "StopIteration") [])
   else do
    let aa places <-seqItems? first|unsupported "internal:set_iterator"
    match places[(i:Int).toNat]? with
    |some (.int d _)=>do
     let x <-setNextDrawn a d.toNat (g:Int).toNat
     n8 (.ref I) 1 (d9 ((i:Int)+1))
     ret x
    |some _=>unsupported "internal:set_iterator"
    |none=>do n8 (.ref I) 0 (d9 0);n8 (.ref I) 2 .none;raiseNew (<-newExc (.type "StopIteration") []))
   (λc b=>∃r,c=.done (.ret r)/\Q (aa r) b) (λe b=>ar (aw P w) A (do if <-zi e (.type "StopIteration")then pure ae else throw e) Q E b) s) :
  ar (aw P w) A (pyNext (.ref I)) Q E s:=by
 have j:s.TypeIs (.ref I) "set_iterator":=⟨_,l,rfl⟩
 unfold pyNext;refine ap (wpAny_attempt (wpAny_callSpecial?_slot (name:=vD "__next__") j E3 (vE E3 j NB ?_ (OH _))));unfold Builtin.«set_iterator.__next__» slotArgs;refine ap (aG ?_);refine ap (wpAny_fieldsOf l rfl ?_);show ar _ _ (setEntries a >>= _) _ _ s;refine ap (wpAny_setEntries_of n rfl m ?_);have u:(((f.size:Nat):Int) != ((f.size:Nat):Int))=aj:=by simp
 rw[u];simp only[mz,if_false];refine ez ?_ (λc b q=>?_) (λe b q=>q) (Q:=λc b=>∃r,c=.done (.ret r)/\Q (aa r) b) (E:=λe b=>ar (aw P w) A (do if <-zi e (.type "StopIteration")then pure ae else throw e) Q E b)
 .exact h
 .obtain⟨r,p,o⟩:=q;exact⟨r,p,aG o⟩
end
theorem BQ{a:Type}:∀{l:List a}{i:Nat} (h:i<l.length),(l[i]::l.eraseIdx i).Perm l
 |[],i,h=>by simp at h
 |x::r,0,h=>by simp
 |x::r,i+1,h=>by have q:=BQ (l:=r) (i:=i) (by simpa using h);simp only[List.getElem_cons_succ,List.eraseIdx_cons_succ];exact(List.Perm.swap x _ _).trans (List.Perm.cons x q)
theorem Fx{f:Type}(next:Nat->Nat):∀(c k:Nat) (a:List f) (b:Array f),c=a.length->(pickOrder.go next c k a b).toList.Perm (b.toList++a)
 |0,k,a,b,h=>by have:a=[]:=lf h.symm;subst this;simp[pickOrder.go]
 |c+1,k,a,b,h=>by
  have d:next k % a.length<a.length:=Nat.mod_lt _ ∅
  unfold pickOrder.go;rw[eW d];dsimp only;have g:=Fx next c (k+1) (a.eraseIdx (next k % a.length)) (b.push a[next k % a.length]) (by rw[List.length_eraseIdx,if_pos d];lia)
  refine g.trans ?_;rw[vN,eG];exact zj _ (BQ d)
theorem Fh{a:Type}(next:Nat->Nat)(xs:Array a):(vO next xs).toList.Perm xs.toList:=by
 have:=Fx next xs.size 0 xs.toList #[] (by simp)
 simpa[vO]using this
section
variable{P:aQ}{w:aE}{A:aT}{E:ai->am->Prop}{s:am}
theorem Qd{a:Source}{n:Nat}{Q:Nat->am->Prop}(b:n≠0)(h:∀k d,k<n->Q k {s with drawn:=d}):ar (aw P w) A (choose a n) Q E s:=λc p hΓ=>by unfold choose;rw[Sem.wp_choose];refine⟨b,?_⟩;exact h _ _ (Nat.mod_lt _ (Nat.pos_of_ne_zero b))
theorem Fm{c:Type}:∀(n:Nat) (xs:List c) (s:am) (Q:List c->am->Prop),n=xs.length->(∀a d,a.Perm xs->Q a {s with drawn:=d})->ar (aw P w) A (drawOrder n xs) Q E s
 |0,[],s,Q,_,h=>by unfold drawOrder;exact aG (h [] s.drawn (tF _))
 |0,x::xs,s,Q,hn,h=>by simp at hn
 |n+1,[],s,Q,hn,h=>by simp at hn
 |n+1,x::xs,s,Q,hn,h=>by unfold drawOrder;refine ap (Qd (by simp) λk d b=>?_);rw[eW b];dsimp only;refine ap (Fm n ((x::xs).eraseIdx k) _ _ (by rw[List.length_eraseIdx,if_pos b];lia) λa g f=>?_);refine aG (h _ g ?_);exact(List.Perm.cons _ f).trans (BQ b)
theorem wZ{Q:Option ai->am->Prop}{R:Fin->am->Prop}(f:A.handled=ae)(g:∀c,(∀b o,s.heap.get? b=aa o->c.get? b=aa o)->Q ae {s with heap:=c}):ar (aw P w) A.in1 (do raiseNew (<-newExc (.type "StopIteration") [])) R (λe d=>ar (aw P w) A (do if <-zi e (.type "StopIteration")then pure ae else throw e) Q E d) s:=by
 refine ap ?_;simp only[newExc,newTuple];refine ap (nY ?_ (by size_fits));refine ap (m:=firstArgMember _ _) (zh (a:=Value.none) (by first|rfl | (simp only[firstArgMember];rfl)) ?_);refine nY ?_ (by size_fits);simp only[raiseNew];refine ap (wpAny_handled ?_);rw[show A.in1.handled=ae from f];refine ap (aG (wpAny_throw ?_));refine ap (IQ (T:="StopIteration") (b:=ah) ⟨_,cy _ rfl,rfl⟩ isSubtype_stop ?_);exact aG (g _ λb o e=>bn _ (bn _ e))
theorem Bo{I a:ag}{first d:ai}{i n f:Nat}{Q:Unit->am->Prop}(c:s.heap.get? I=aa (jw first i a n f))(h:∀b,k7 I s.heap b->b.get? I=aa (jw d i a n f)->Q () {s with heap:=b}):ar (aw P w) A (n8 (.ref I) 0 d) Q E s:=by refine tL c rfl (by simp[jw]) (h _ (qO ..) ?_);rw[o8 _ c (by rfl)];rfl
theorem Av{I a:ag}{first:ai}{i n d:Nat}{Q:Unit->am->Prop}(c:s.heap.get? I=aa (jw first i a n d))(h:∀b,k7 I s.heap b->b.get? I=aa (jw first (i+1) a n d)->Q () {s with heap:=b}):ar (aw P w) A (n8 (.ref I) 1 (d9 ((i:Int)+1))) Q E s:=by refine tL c rfl (by simp[jw]) (h _ (qO ..) ?_);rw[o8 _ c (by rfl)];rfl
theorem xF{I a:ag}{first:ai}{i n d:Nat}{Q:Unit->am->Prop}(c:s.heap.get? I=aa (jw first i a n d))(h:∀b,k7 I s.heap b->(∃o,b.get? I=aa o)->Q () {s with heap:=b}):ar (aw P w) A (n8 (.ref I) 2 .none) Q E s:=by refine tL c rfl (by simp[jw]) (h _ (qO ..) ⟨_,o8 _ c (by rfl)⟩)
abbrev qj(a:Array (Int×ai))(b:Nat)(t:kE):Obj:={cls:=.type "set",dict:=ae,data:=.set a b t}
theorem Pz{I a:ag}{d:Array (Int×ai)}{g:Nat}{t:kE}(y:a≠I)(n:t.fits d.size=ah)(f:cP w=ah)(C:A.handled=ae):Walks P w A I [I,a] [I] d.size (λi v=>((vO (w.params.setOrder a g) d).toList.map (·.2))[i]?=aa v) (λi h=>h.get? I=aa (jw (d9 0) i a d.size g)/\h.get? a=aa (qj d g t)):=by
 have hsz:(vO (w.params.setOrder a g) d).size=d.size:=by have:=(Fh (w.params.setOrder a g) d).length_eq;simpa using this
 have j:∀(s:am) (i:Nat) (Q:Option (ai×Nat)->am->Prop) (E:ai->am->Prop),s.heap.get? a=aa (qj d g t) ->
   Q (((vO (w.params.setOrder a g) d)[i]?).map λe=>(e.2,0)) s->ar (aw P w) A.in1 (n6 a (0:Int).toNat (i:Int).toNat (g:Int).toNat) Q E s:=λs i Q E u B=>by
  unfold n6;refine ap (tI u rfl n ?_);unfold zk;refine ap (ap (tK (aG ?_)));show ar _ _ (if cP w=ah then _ else _) _ _ s;rw[if_pos f];simp only[o7,bne_self_eq_false,mz,if_false];unfold setWalk;refine ap (ap (tI u rfl n ?_));unfold zk;refine ap (ap (tK (aG ?_)));show ar _ _ (if cP w=ah then _ else _) _ _ s;rw[if_pos f];refine ap (tK (aG (aG ?_)));exact B
 refine⟨λb f=>by simp at f;simp[f],λi h H c k=>⟨k I (by simp) _ c.1,k a (by simp) _ c.2⟩,λi s Q E G c l=>?_,λs Q E c l=>?_,λi s Q E c l=>wQ c.1 l⟩
 .refine p_ c.2 n c.1 ?_;refine ap (j s i _ _ c.2 ?_);have x:i<(vO (w.params.setOrder a g) d).size:=∅
  rw[zm x];dsimp only[pf];refine ap (Bo c.1 λq m F=>?_);refine ap (Av (s:={s with heap:=q}) F λp r D=>?_);refine aG ⟨_,rfl,l _ p s.toks ?_ ⟨D,?_⟩ λb o f e=>?_⟩
  .rw[kD];simp[zm x]
  .exact(r.2 a y).trans ((m.2 a y).trans c.2)
  .exact(r.2 b (by simpa using f)).trans ((m.2 b (by simpa using f)).trans e)
 .refine p_ c.2 n c.1 ?_;refine ap (j s d.size _ _ c.2 ?_);rw[Array.getElem?_eq_none ∅];dsimp only[Option.map_none];refine ap (xF c.1 λq m _=>?_);exact wZ (s:={s with heap:=q}) C λp z=>l p s.toks λb o f e=>z b o ((m.2 b (by simpa using f)).trans e)
theorem Tl{I a T:ag}{f:Array (Int×ai)}{J:Nat}{t:kE}{c:List Nat}(bT:a≠I)(Z:T≠I)(C:t.fits f.size=ah)(G:c.Perm (cz f.size))(Y:A.handled=ae):Walks P w A I [I,a,T] [I] f.size (λi v=>(c.filterMap λj=>(f[j]?).map (·.2))[i]?=aa v) (λi h=>h.get? I=aa (jw (.ref T) i a f.size J)/\h.get? a=aa (qj f J t)/\h.get? T=aa {cls:=.type "tuple",data:=.seq (c.map λ(k:Nat)=>d9 k).toArray}):=by
 have L:c.length=f.size:=by simpa using G.length_eq
 have p:∀j∈c,j<f.size:=λj B=>by simpa using G.mem_iff.mp B
 have fm:∀(l:List Nat),(∀j∈l,j<f.size)->∀(i j:Nat),l[i]?=aa j->∃e:Int×ai,f[j]?=aa e/\(l.filterMap λj=>(f[j]?).map (·.2))[i]?=aa e.2:=by
  intro l
  induction l with
  |nil=>intro _ i j h;simp at h
  |cons x r O=>
   intro H i j h;have S:x<f.size:=H x (lI ..);have F:f[x]?=aa f[x]:=zm S;cases i with
   |zero=>simp at h;subst h;exact⟨_,F,by rw[qA,F];rfl⟩
   |succ i=>obtain⟨e,z,y⟩:=O (λj B=>H j (k6 _ B)) i j (by simpa using h);exact⟨e,z,by rw[qA,F];simpa using y⟩
 have g:∀(s:am) (Q:Option (Array ai)->am->Prop) (E:ai->am->Prop),s.heap.get? T=aa {cls:=.type "tuple",data:=.seq (c.map λ(k:Nat)=>d9 k).toArray}->Q (aa (c.map λ(k:Nat)=>d9 k).toArray) s->ar (aw P w) A.in1 (seqItems? (.ref T)) Q E s:=λs Q E W X=>by exact zn W rfl X
 refine⟨λb m=>by simp at m;simp[m],λi h h' d k=>⟨k I (by simp) _ d.1,k a (by simp) _ d.2.1,k T (by simp) _ d.2.2⟩,λi s Q E hi d q=>?_,λs Q E d q=>?_,λi s Q E d q=>wQ d.1 q⟩
 .refine p_ d.2.1 C d.1 ?_;refine ap (g s _ _ d.2.2 ?_);have K:i<c.length:=∅
  have u:((c.map λ(k:Nat)=>d9 k).toArray)[(i:Int).toNat]?=aa (d9 (c[i]:Nat)):=by simp[K]
  dsimp only;rw[u];obtain⟨e,z,y⟩:=fm c p i c[i] (eW K);show ar _ _ (setNextDrawn a _ _ >>= _) _ _ s;refine ap ?_;unfold setNextDrawn;refine ap (tI d.2.1 rfl C ?_);simp only[o7,bne_self_eq_false,mz,if_false];rw[z];refine aG ?_;refine ap (Av d.1 λD n e2=>?_);refine aG ⟨_,rfl,q _ D s.toks y ⟨e2,(n.2 a bT).trans d.2.1,(n.2 T Z).trans d.2.2⟩ λb o m e=>(n.2 b (by simpa using m)).trans e⟩
 .refine p_ d.2.1 C d.1 ?_;refine ap (g s _ _ d.2.2 ?_);have u:((c.map λ(k:Nat)=>d9 k).toArray)[(f.size:Int).toNat]?=ae:=by simp[L]
  dsimp only;rw[u];refine ap (Bo d.1 λh1 N u=>?_);refine ap (xF (s:={s with heap:=h1}) u λD n _=>?_);exact wZ (s:={s with heap:=D}) Y λh3 M=>q h3 s.toks λb o m e=>M b o ((n.2 b (by simpa using m)).trans ((N.2 b (by simpa using m)).trans e))
theorem KQ(j k:Nat):TQ #[j] k=if j<k then 1 else 0:=by
 unfold TQ;simp only[cg,d_,j3];unfold IR;simp;split
 .rename_i h;unfold IR;simp
 .unfold IR;simp
theorem La{I a:ag}{g:Array (Int×ai)}{n:Nat}{t:kE}(M:a≠I)(u:t.fits g.size=ah)(f:cP w=aj)(N:t.led=ah)(m:g.size=1)(S:A.handled=ae):Walks P w A I [I,a] [I] 1 (λi v=>(g.toList.map (·.2))[i]?=aa v) (λi h=>h.get? I=aa (jw (d9 (if i=0 then 0 else((t.place.getD 0 0:Nat):Int)+1)) i a g.size n)/\h.get? a=aa (qj g n t)):=by
 have z:t.place.size=1:=by simp only[SetTable.fits,ge,beq_iff_eq]at u;lia
 obtain⟨j,H⟩:=Array.size_eq_one_iff.mp z;have K:((t.place.getD 0 0:Nat):Int)=(j:Int):=by rw[H];rfl
 obtain⟨e,J⟩:=Array.size_eq_one_iff.mp m;have l:∀(s:am) (d:Nat) (i:Nat) (Q:Option (ai×Nat)->am->Prop) (E:ai->am->Prop),s.heap.get? a=aa (qj g n t) ->
   Q (if j<d then ae else aa (e.2,j+1)) s->ar (aw P w) A.in1 (n6 a d i n) Q E s:=λs d i Q E T r=>by
  unfold n6;refine ap (tI T rfl u ?_);unfold zk;refine ap (ap (tK (aG ?_)));show ar _ _ (if cP w=ah then _ else _) _ _ s;rw[if_neg (by rw[f];decide)];refine zo (λB=>absurd (show(!t.plain&&decide (g.size > 1))=ah from B) (by rw[m];simp)) (λ_=>?_);refine ap ?_;refine ez (Q:=λ_ F=>F=s) (E:=E) ?_ (λ_ F y=>?_) (λ_ _ x=>x)
  .refine zo (λB=>absurd (show(!t.led&&!g.isEmpty)=ah from B) (by rw[N];simp)) (λ_=>aG rfl)
  .subst y;rw[H,KQ,J];by_cases L:j<d
   .rw[if_pos L]at r ⊢;exact aG r
   .rw[if_neg L]at r ⊢;exact aG r
 refine⟨λb f=>by simp at f;simp[f],λi h Y c k=>⟨k I (by simp) _ c.1,k a (by simp) _ c.2⟩,λi s Q E X c p=>?_,λs Q E c p=>?_,λi s Q E c p=>wQ c.1 p⟩
 .obtain rfl:i=0:=∅
  refine p_ c.2 u c.1 ?_;show ar _ _ (n6 a (0:Int).toNat ((0:Nat):Int).toNat (n:Int).toNat >>= _) _ _ s;simp only[o7,Int.toNat_zero];refine ap (l s 0 0 _ _ c.2 ?_);rw[if_neg (Nat.not_lt_zero j)];dsimp only;refine ap (Bo c.1 λm q D=>?_);refine ap (Av (s:={s with heap:=m}) D λC G W=>?_);refine aG ⟨_,rfl,p _ C s.toks ?_ ⟨?_,?_⟩ λb o f e=>?_⟩
  .rw[J];rfl
  .rw[W,if_neg (by decide),K];rfl
  .exact(G.2 a M).trans ((q.2 a M).trans c.2)
  .exact(G.2 b (by simpa using f)).trans ((q.2 b (by simpa using f)).trans e)
 .refine p_ c.2 u c.1 ?_;rw[if_neg (by decide),K];show ar _ _ (n6 a ((j:Int)+1).toNat ((1:Nat):Int).toNat (n:Int).toNat >>= _) _ _ s;have D:((j:Int)+1).toNat=j+1:=∅
  rw[D,o7,o7];refine ap (l s (j+1) 1 _ _ c.2 ?_);rw[if_pos (mB j)];dsimp only;refine ap (xF c.1 λm q _=>?_);exact wZ (s:={s with heap:=m}) S λC O=>p C s.toks λb o f e=>O b o ((q.2 b (by simpa using f)).trans e)
theorem uU:∀{a:List ai}{b:List Str} (i:Nat) (v:ai),eP a b->a[i]?=aa v->∃t,v=.str (b.getD i eV) t
 |_,_,i,v,.nil,h=>by simp at h
 |_,_,0,v,.cons y t _,h=>by simp at h;exact⟨t,by rw[<-h];rfl⟩
 |_,_,i+1,v,.cons y t hr,h=>by simp only[List.getElem?_cons_succ]at h;obtain⟨c,e⟩:=uU i v hr h;exact⟨c,by rw[e];rfl⟩
set_option maxRecDepth 100000 in
theorem Ti{l:ag}{a:Array ai}{Q:ai->am->Prop}(hh:A.handled=ae)(hl:s.heap.IsList l a){J:Nat->aB->Prop}(hJ:∀i h d,J i h->(∀b o,b<=s.heap.objs.size->h.get? b=aa o->d.get? b=aa o)->J i d) (I:J 0 (s.heap.push {cls:=.type "set",dict:=ae,data:=.set #[] 0 (.fresh 0 0 (!cP w))}))(gf:∀(i:Nat) (v:ai) (f:am) (E:ai->am->Prop) (Q:Bool->am->Prop),i<a.size->a[i]?=aa v->J i f.heap->(∀d m b,f.toks<=m->k7 s.heap.objs.size f.heap d->J (i+1) d->Q b {f with heap:=d,toks:=m})->ar (aw P w) A.in1.in1.in1 (setAdd s.heap.objs.size v) Q E f)(h:∀(d:aB) (m:Nat),J a.size d->(∀b o,b<s.heap.objs.size->s.heap.get? b=aa o->d.get? b=aa o)->Q (.ref s.heap.objs.size) {s with heap:=d,toks:=m}):ar (aw P w) A (call (.type "set") [.ref l]) Q E s:=by
 obtain⟨c,tl,hmro⟩:=F.called_set.mro;have T8:=F.called_set.made;have kG:=F.called_set.sub;refine tf (codeAny_of_tree ?_);show ar _ _ (callAny (.type "set") _) _ _ _;refine aG ⟨Code.quiet_builtin _ (by decide +kernel),n5 F.entry_type_call ?_⟩;rw[Around.under_plain (weight_type_call_type "set" [.ref l] []) rfl];have h1:=F.called_set.notType;have h2:=F.called_set.canCreate;have hct:=PySem.F.typeCall_set_1 (.ref l)
 repeat any_goals (first|assumption|wp_step)
 refine nW (FC (P:=P) (w:=w) (.ref l) (E:=E) (Q:=λp f=>p=.ref s.heap.objs.size/\f={s with heap:=s.heap.push {cls:=.type "set",dict:=ae,data:=.set #[] 0 (.fresh 0 0 (!cP w))}}/\True) λS0=>⟨rfl,rfl,trivial⟩) λr f C=>?_;cases r with
 |error e=>exact C
 |ok fl=>
  cases fl with
  |ret p=>
   obtain⟨rfl,rfl,S0⟩:=C;have hS:=cy (h:=s.heap) (o:=({cls:=.type "set",dict:=ae,data:=.set #[] 0 (.fresh 0 0 (!cP w))}:Obj));have wo:(s.heap.push {cls:=.type "set",dict:=ae,data:=.set #[] 0 (.fresh 0 0 (!cP w))}).get? s.heap.objs.size=aa {cls:=.type "set",dict:=ae,data:=.set #[] 0 (.fresh 0 0 (!cP w))}:=cy _ rfl;have hT:Shared.TypeIs {s with heap:=s.heap.push {cls:=.type "set",dict:=ae,data:=.set #[] 0 (.fresh 0 0 (!cP w))}} (.ref s.heap.objs.size) "set":=⟨_,wo,rfl⟩
   have hli:=F.called_set.init.lookup;have hbi:=F.called_set.init.bind (.ref s.heap.objs.size)
   repeat any_goals (first|assumption|wp_step)
   refine nW (IS (R:=wants (λr M=>r=.none/\∃d m,M={s with heap:=d,toks:=m}/\J a.size d /\ (∀b o,b<s.heap.objs.size->s.heap.get? b=aa o->d.get? b=aa o)) E) F.called_set.init.plain F.entry_set_init (check_set_init_1 hT ?_)) λr2 M y=>?_
   .obtain⟨⟨S,n,z,g⟩,O,X,T,N⟩:=hl;simp only at X N;subst X;subst N;have Df:(s.heap.push {cls:=.type "set",dict:=ae,data:=.set #[] 0 (.fresh 0 0 (!cP w))}).get? l=aa {cls:=.type "list",dict:=n,data:=.seq a T,slots:=g}:=bn _ O;have Y:=PySem.F.sub_list_set;have Z:=PySem.F.sub_list_frozenset;have bT:(Value.type "list" == Value.type "dict")=aj:=by decide
    have W:(s.heap.push {cls:=.type "set",dict:=ae,data:=.set #[] 0 (.fresh 0 0 (!cP w))}).IsList l a:=⟨_,Df,rfl,T,rfl⟩
    unfold Builtin.«set.__init__» noKeywords Builtin.Frozenset.updateFrom;generalize H:mq=PI
    wp_walk
    subst H;refine Cy W (ap (wpAny_runValue ?_));have L:l<s.heap.objs.size:=bK O;have G:A.in1.in1.in1.handled=ae:=by simp[hh]
    have j:(s.heap.push {cls:=.type "set",dict:=ae,data:=.set #[] 0 (.fresh 0 0 (!cP w))}).objs.size=s.heap.objs.size+1:=zc ..;have Dg:l≠(s.heap.push {cls:=.type "set",dict:=ae,data:=.set #[] 0 (.fresh 0 0 (!cP w))}).objs.size:=by rw[j];exact cY (lg L)
    have tZ:s.heap.objs.size∉[(s.heap.push {cls:=.type "set",dict:=ae,data:=.set #[] 0 (.fresh 0 0 (!cP w))}).objs.size,l]:=by rw[j];simp only[bE,fe,jF,or_false,not_or];exact⟨cY (mB _),mo L⟩
    refine Fi ((Walks.list G _ l Dg a).toS) s.heap.objs.size tZ (λi h d D k=>hJ i h d D λb o t e=>k b o (by rw[j];simp only[fe];exact cY (Nat.lt_succ_of_le t)) e) (λi v f E Q hi hv D hq=>gf i v f E Q hi hv D hq) (a.size-0) 0 _ ∅ (j4 _)
     ⟨⟨_,cy _ rfl,rfl,rfl⟩,(W.push _)⟩ (hJ 0 _ _ I λb o _ e=>bn _ e) ?_
    intro s' q B;obtain⟨d,g',d',u,x⟩:=s';obtain rfl:g'=s.gens:=q.gens;obtain rfl:d'=s.drawn:=q.drawn;obtain rfl:x=s.os:=q.os;show ar _ _ _ _ _ _;refine aG ?_;show ar _ _ (ret Value.none) _ _ _;refine aG ⟨rfl,d,u,rfl,B,λb o t e=>q.heap b o ?_ (bn _ (bn _ e))⟩;rw[j];simp only[bE,fe,jF,or_false,not_or];exact⟨cY t,cY (lg t)⟩
   .cases r2 with
    |error e=>exact y
    |ok K=>
     cases K with
     |ret r=>
      obtain⟨rfl,d,m,rfl,B,mO⟩:=y
      repeat any_goals (first|assumption|wp_step)
      exact h _ _ B mO
     |_=>exact y.elim
  |_=>exact C.elim
theorem Ob{l:ag}{a:Array ai}{c:List Str}{Q:ai->am->Prop}(x:A.handled=ae)(r:s.heap.IsList l a)(u:eP a.toList c)(z:(met (λi=>c.getD i eV) a.size).length<4000)(h:∀(d:aB) (j:Nat),jC P w d s.heap.objs.size (met (λi=>c.getD i eV) a.size)->(∀b o,b<s.heap.objs.size->s.heap.get? b=aa o->d.get? b=aa o)->Q (.ref s.heap.objs.size) {s with heap:=d,toks:=j}):ar (aw P w) A (call (.type "set") [.ref l]) Q E s:=by
 refine Ti x r (J:=λi h=>jC P w h s.heap.objs.size (met (λi=>c.getD i eV) i)) (λi h d S k=>S.at λo e=>k _ o (aY _) e)
  ⟨#[],0,_,[],cy _ rfl,.nil,tF _,λe y=>by simp at y,by decide,rfl,rfl,λh=>absurd rfl h⟩ (λi v f E Q m p S q=>?_) h
 obtain⟨t,rfl⟩:=uU i v u (by rw[zp];exact p);unfold setAdd;refine jn ?_;have B:(jq P w).is (c.getD i eV) (.str (c.getD i eV) t)=ah:=by show nL _ (.str _ t)=ah;simp[nL]
 refine ap ((jq P w).pyHash (k:=c.getD i eV) B ?_);refine Eu (s:={f with toks:=f.toks+1}) S (vJ (AK _ (mn m)) z) λd b n g=>?_;rw[<-Bt (λi=>c.getD i eV)]at g;exact q d _ b (vK _) n g
end
theorem Hs{n:Nat}(h:n<=4096):n<a_:=vJ h (by decide)
theorem QH:typeLookup (.type "set") "__len__"=pure (aa (.builtin "set.__len__")):=F.slot_set_len.lookup
section
variable{P:aQ}{w:aE}{A:aT}{E:ai->am->Prop}{s:am}
def uz(w:aE)(h:aB)(a:ag)(b:Array (Int×ai)):Prop:=∃(c:Nat) (t:kE),h.get? a=aa {cls:=.type "set",dict:=ae,data:=.set b c t}/\b.size<4090/\t.fits b.size=ah/\t.led=(!cP w)/\(b.size≠0->t.plain=aj)
theorem uz.at{w:aE}{h h':aB}{a:ag}{es:Array (Int×ai)}(S:uz w h a es)(k:∀o,h.get? a=aa o->h'.get? a=aa o):uz w h' a es:=by obtain⟨b,t,e,r⟩:=S;exact⟨b,t,k _ e,r⟩
theorem jC.e{h:aB}{a:ag}{ks:List Str}(S:jC P w h a ks):∃es ss,uz w h a es/\eP (es.toList.map (·.2)) ss/\ss.Perm ks:=by
 obtain⟨es,l,t,ss,f,c,b,i,hsz,g,d,n⟩:=S.ex;refine⟨es,ss,⟨l,t,f,hsz,g,d,λj=>n λz=>j ?_⟩,c,b⟩;have m:=b.length_eq;have o:ss.length=es.size:=by rw[<-c.strs];simp
 rw[z,j3]at m;lia
structure GF(P:aQ)(w:aE)(s s':am)(a I:ag)(es:Array (Int×ai))(fp:List ag)(n:Nat)(Pv:Nat->ai->Prop)(St:Nat->aB->Prop):Prop where
 wk:∀A:aT,A.handled=ae->Walks P w A I fp [I] n Pv St
 st:St 0 s'.heap
 old:∀b o,s.heap.get? b=aa o->s'.heap.get? b=aa o
 new:s.heap.objs.size<=I
 lt:∀b∈fp,b<s'.heap.objs.size
 rest:s'={s with heap:=s'.heap,drawn:=s'.drawn}
 ord:∀bg:Array ai,ItemsOf Pv bg n->bg.toList.Perm (es.toList.map (·.2))
 len:n<4090
 fps:∀b∈fp,b=a\/s.heap.objs.size<=b
theorem xW{l:List ai}{a:Array ai}{n:Nat}(c:l.length=n)(h:ItemsOf (λi v=>l[i]?=aa v) a n):a.toList=l:=by
 refine vP λi=>?_;by_cases b:i<n
 .have:i<a.size:=by rw[h.1];exact b
  have q:=h.2 i a[i] (zm this);rw[q];simp[this]
 .rw[tN (by rw[nU,h.1];lia),tN ∅]
theorem LC{I a:ag}{d:Array (Int×ai)}{j:Nat}{t:kE}(L:a≠I)(u:t.fits d.size=ah)(g:cP w=aj)(n:d.size=0)(F:A.handled=ae):Walks P w A I [I,a] [I] 0 (λi v=>(d.toList.map (·.2))[i]?=aa v) (λi h=>h.get? I=aa (jw (d9 0) 0 a d.size j)/\h.get? a=aa (qj d j t)):=by
 have y:d=#[]:=Array.eq_empty_of_size_eq_zero n;have l:∀(s:am) (f:Nat) (i:Nat) (Q:Option (ai×Nat)->am->Prop) (E:ai->am->Prop),s.heap.get? a=aa (qj d j t) ->
   Q ae s->ar (aw P w) A.in1 (n6 a f i j) Q E s:=λs f i Q E G C=>by
  unfold n6;refine ap (tI G rfl u ?_);unfold zk;refine ap (ap (tK (aG ?_)));show ar _ _ (if cP w=ah then _ else _) _ _ s;rw[if_neg (by rw[g];decide)];refine zo (λq=>absurd (show(!t.plain&&decide (d.size > 1))=ah from q) (by rw[n];simp)) (λ_=>?_);refine ap ?_;refine ez (Q:=λ_ r=>r=s) (E:=E) ?_ (λ_ r p=>?_) (λ_ _ x=>x)
  .refine zo (λq=>absurd (show(!t.led&&!d.isEmpty)=ah from q) (by rw[y];simp)) (λ_=>aG rfl)
  .subst p;rw[y];have J:∀k:Nat,(#[]:Array (Int×ai))[k]?=ae:=λk=>by simp
   dsimp only;rw[J];exact aG C
 refine⟨λb g=>by simp at g;simp[g],λi h K c k=>⟨k I (by simp) _ c.1,k a (by simp) _ c.2⟩,λi s Q E D c m=>absurd D (Nat.not_lt_zero i),λs Q E c m=>?_,λi s Q E c m=>wQ c.1 m⟩;refine p_ c.2 u c.1 ?_;show ar _ _ (n6 a (0:Int).toNat ((0:Nat):Int).toNat (j:Int).toNat >>= _) _ _ s;simp only[o7,Int.toNat_zero];refine ap (l s 0 0 _ _ c.2 ?_);dsimp only;refine ap (xF c.1 λn B _=>?_);exact wZ (s:={s with heap:=n}) F λH z=>m H s.toks λb o g e=>z b o ((B.2 b (by simpa using g)).trans e)
theorem NQ{a:ag}{g:Array (Int×ai)}{Q:ai->am->Prop}(S:uz w s.heap a g)(h:∀x I C n D St,GF P w s x a I g C n D St->Q (.ref I) x):ar (aw P w) A (mq (.ref a)) Q E s:=by
 obtain⟨M,t,l,hsz,p,qS,dI⟩:=S;have Y:s.TypeIs (.ref a) "set":=⟨_,l,rfl⟩
 have kN:=bK l;refine wpAny_pyIter_slot Y F.slot_set_iter (vE F.slot_set_iter Y JY ?_ (F.args_set_iter_1 _));unfold Builtin.«frozenset.__iter__» Builtin.Frozenset.slot0 slotArgs Builtin.Frozenset.addrOf Builtin.Frozenset.sizeOf;refine ap (aG ?_);refine ap (ap (wpAny_setEntries_of l rfl p (aG ?_)));unfold setDrawn;refine ap (ap (tI l rfl p ?_));unfold zk;refine ap (ap (tK (aG ?_)));refine aG ?_;have i:∀(first:ai) (u:am) (C:List ag) (n:Nat) (D:Nat->ai->Prop) (St:Nat->aB->Prop),u.heap.get? a=aa {cls:=.type "set",dict:=ae,data:=.set g M t} ->
   GF P w s {u with heap:=u.heap.push (jw first 0 a g.size M)} a u.heap.objs.size g C n D St ->
   ar (aw P w) A.in1 (do
    let e <-setEpoch a
    let f <-newFields "set_iterator" [first,d9 0,Value.ref a,d9 (g.size:Nat),d9 (e:Nat)]
    ret f) (λi x=>∃v,i=Fin.done (Flow.ret v)/\∃Z r,x.TypeIs v Z/\typeLookup (Value.type Z) (vD "__next__")=pure (aa r)/\Q v x) E u:=λfirst u C n D St ha W=>by
  refine ap (wpAny_setEpoch_of ha rfl p ?_);refine ap (nY ?_);exact aG ⟨_,rfl,"set_iterator",_,⟨_,cy _ rfl,rfl⟩,E3.lookup,h _ _ C n D St W⟩
 refine zo (λK=>?_) (λK=>?_)
 .have H:(!cP w&&(!t.plain&&decide (g.size > 1)))=ah:=K;refine ap (Fm g.size (cz g.size) s _ (by simp) λG d J=>?_);refine ap (wpAny_newTuple ?_ (hsz:=by rw[cM,J.length_eq,zd];exact mn (Hs ∅)));refine i _ _ _ _ _ _ (bn _ l) ⟨λO q=>Tl (T:=s.heap.objs.size) (cY (by rw[j5];exact lg kN)) (cY (by rw[j5];exact mB _)) p J q,⟨cy _ rfl,?_,?_⟩,?_,?_,?_,rfl,?_,hsz,?_⟩
  .exact bn _ (bn _ l)
  .exact bn _ (cy _ rfl)
  .exact λb o e=>bn _ (bn _ e)
  .rw[j5];exact vK _
  .intro b c;simp only[bE,jF,or_false]at c;rw[j5,j5];rcases c with rfl|rfl|rfl
   .rw[j5];exact mB _
   .exact lg (lg kN)
   .exact lg (mB _)
  .intro N m;have e0:(G.filterMap λj=>(g[j]?).map (·.2))=(G.filterMap λj=>g[j]?).map (·.2):=by rw[List.map_filterMap]
   have y:(G.filterMap λj=>g[j]?).Perm g.toList:=by have:=J.filterMap λj=>g[j]?;rwa[filterMap_getElem?_range]at this
   rw[e0]at m;rw[xW (by rw[cM,y.length_eq];simp) m];exact y.map _
  .intro b c;simp only[bE,jF,or_false]at c;rcases c with rfl|rfl|rfl
   .rw[j5];exact .inr (vK _)
   .exact .inl rfl
   .exact .inr (aY _)
 .have H:¬(!cP w&&(!t.plain&&decide (g.size > 1)))=ah:=K;refine ap (aG ?_);cases c:cP w with
  |true=>
   refine i _ _ _ _ _ _ l ⟨λO q=>Pz (cY kN) p c q,⟨cy _ rfl,bn _ l⟩,λb o e=>bn _ e,aY _,?_,rfl,?_,hsz,λb c=>?_⟩
   .intro b c;simp only[bE,jF,or_false]at c;rw[j5];rcases c with rfl|rfl
    .exact mB _
    .exact lg kN
   .intro N m;have y:=Fh (w.params.setOrder a M) g;rw[xW (by rw[cM,y.length_eq];simp) m];exact y.map _
   .simp only[bE,jF,or_false]at c;exact c.elim (λz=>.inr (mx z.symm)) .inl
  |false=>
   have L:g.size=1\/g.size=0:=by
    by_cases X:g.size=0
    .exact .inr X
    .rw[c,dI X]at H;simp at H;lia
   rcases L with B|B
   .refine i _ _ _ _ _ _ l ⟨λO q=>La (cY kN) p c (by rw[qS,c];rfl) B q,⟨cy _ rfl,bn _ l⟩,λb o e=>bn _ e,aY _,?_,rfl,?_,by decide,λb c=>?_⟩
    .intro b c;simp only[bE,jF,or_false]at c;rw[j5];rcases c with rfl|rfl
     .exact mB _
     .exact lg kN
    .intro N m;rw[xW (by simp[B]) m]
    .simp only[bE,jF,or_false]at c;exact c.elim (λz=>.inr (mx z.symm)) .inl
   .refine i _ _ _ _ _ _ l ⟨λO q=>LC (cY kN) p c B q,⟨cy _ rfl,bn _ l⟩,λb o e=>bn _ e,aY _,?_,rfl,?_,by decide,λb c=>?_⟩
    .intro b c;simp only[bE,jF,or_false]at c;rw[j5];rcases c with rfl|rfl
     .exact mB _
     .exact lg kN
    .intro N m;rw[xW (by simp[B]) m]
    .simp only[bE,jF,or_false]at c;exact c.elim (λz=>.inr (mx z.symm)) .inl
theorem Ko{a:ag}{m:Array (Int×ai)}{Q:List ai->am->Prop}(H:A.handled=ae)(S:uz w s.heap a m)(h:∀(d:am) (B:List ai),B.Perm (m.toList.map (·.2))->(∀b o,s.heap.get? b=aa o->d.heap.get? b=aa o)->d.gens=s.gens->d.os=s.os->Q B d):ar (aw P w) A (collect (.ref a)) Q E s:=by
 obtain⟨J,t,G,N,_⟩:=id S;have kN:=bK G;unfold collect;refine ap (wpAny_runValue (n5 F.entry_proto_collect ?_));rw[qP F.plain_proto_collect _];show ar _ A.in1 (newList [] >>= λl=>again (.builtin "list.__iadd__" ⟨[l,.ref a],[]⟩)) _ _ s;refine ap (nY ?_);refine aG ⟨qQ F.plain_list_iadd _,n5 F.entry_list_iadd ?_⟩;rw[qP F.plain_list_iadd _];show ar _ A.in1 (Builtin.List.listExtendWith (.ref s.heap.objs.size) (.ref a) (.ref s.heap.objs.size)) _ _ _;unfold Builtin.List.listExtendWith;have j:∀u:am,u.heap.get? a=aa {cls:=.type "set",dict:=ae,data:=.set m J t}->u.TypeIs (.ref a) "set":=λu e=>⟨_,e,rfl⟩
 have C:(s.heap.push {cls:=.type "list",data:=.seq ([]:List ai).toArray}).get? a=aa {cls:=.type "set",dict:=ae,data:=.set m J t}:=bn _ G;refine ap (wpAny_typeOf (j _ C) ?_);have X:Builtin.List.listSameRef (.ref s.heap.objs.size) (.ref a)=aj:=by have:¬(s.heap.objs.size=a):=mo kN;simp[Builtin.List.listSameRef,this]
 rw[if_neg (by rw[X];decide)];refine ap (NQ (S.at λo e=>bn _ e) λr I Y n Pv St W=>?_);have v:=W.old a _ C;refine ap (jn ?_);unfold Builtin.List.listLengthHint;refine ap (y_ (j _ v) QH ?_)
 wp_delta
 refine ap (IQ (T:="set") (b:=ah) (j _ v) (by rw[isSubtype_type];kernel_rfl) ?_);show ar _ A.in1 (typeOf (Value.ref a) >>= _) _ _ _;refine ap (wpAny_typeOf (T:="set") (j _ v) ?_);refine aG ?_;rw[if_pos (by decide)];refine ap (nZ ?_);have O:(s.heap.push {cls:=.type "list",data:=.seq ([]:List ai).toArray}).get? s.heap.objs.size=aa {cls:=.type "list",data:=.seq ([]:List ai).toArray}:=cy _ rfl;have i:=W.old _ _ O;unfold Builtin.List.listTouch;refine ap (ap (CA i rfl ?_ (by decide) (by show 1<=a_+1;decide)));have g:=zq i (λa:Array ai=>a.push Value.none);refine CA g rfl ?_ (by show 1<=a_;decide) (by show 0<=a_+1;decide);have y:=zq g (λa:Array ai=>a.pop);have K:s.heap.objs.size∉Y:=λz=>by
  rcases W.fps _ z with q|q
  .exact absurd kN (by rw[<-q];exact fA _)
  .rw[j5]at q;exact absurd (mB _) (Nat.not_lt.mpr q)
 have D:∀b o,b≠s.heap.objs.size->r.heap.get? b=aa o->(((r.heap.update s.heap.objs.size (io λa=>a.push Value.none)).update s.heap.objs.size (io λa=>a.pop))).get? b=aa o:=λb o f e=>by rw[IT _ _ _ _ f,IT _ _ _ _ f];exact e
 have Z:St 0 (((r.heap.update s.heap.objs.size (io λa=>a.push Value.none)).update s.heap.objs.size (io λa=>a.pop))):=(W.wk A.in1 H).frame 0 _ _ W.st λb f o e=>D b o (λz=>K (z ▸ f)) e;refine aG ⟨qQ F.plain_extend_loop _,codeAny_extend_loopS (W.wk A.in1 H).toS (mn (Hs (by have:=W.len;lia))) _ K _ n 0 _ _ _ rfl (j4 _) Z y (ItemsOf.nil _) λd c c' x L M=>?_⟩;show ar _ A (load s.heap.objs.size >>= _) _ _ d;refine ap (wpAny_load L ?_);refine aG (h d c.toList (W.ord c M) (λb o e=>?_) ?_ ?_)
 .have p:=bK e;refine x.heap b o (λf=>?_) (D b o (cY p) (W.old b o (bn _ e)));rcases bE.mp f with z|z
  .exact absurd p (by rw[z];exact fA _)
  .rw[fe.mp z]at p;have:=W.new;rw[j5]at this;exact absurd p (Nat.not_lt.mpr (Nat.le_of_succ_le this))
 .rw[x.gens,W.rest]
 .rw[x.os,W.rest]
theorem Oa{a:ag}{ks:List Str}{Q:List ai->am->Prop}(p:A.handled=ae)(S:jC P w s.heap a ks)(h:∀(c:am) (d:List ai) (ss:List Str),eP d ss->ss.Perm ks->d.length<4090->(∀b o,s.heap.get? b=aa o->c.heap.get? b=aa o)->c.gens=s.gens->c.os=s.os->Q d c):ar (aw P w) A (collect (.ref a)) Q E s:=by
 obtain⟨r,ss,S,q,n⟩:=S.e;have m:r.size<4090:=by obtain⟨_,_,_,z,_⟩:=S;exact z
 refine Ko p S λc d pv l j i=>?_;obtain⟨t,g,f⟩:=Au pv q;exact h c d t g (f.trans n) (by have:=pv.length_eq;simp at this;lia) l j i
end
def b0(a:List Tx):List Tx:=a.foldl (λks x=>if x∈ks then ks else ks++[x]) []
theorem xi(b:List Tx):met (λi=>(b.map tS).getD i eV) b.length=(b0 b).map tS:=by
 have d:∀(l:List Tx) (a:List Tx),(l.map tS).foldl km (a.map tS)=(l.foldl (λks x=>if x∈ks then ks else ks++[x]) a).map tS:=by
  intro l
  induction l with
  |nil=>intro a;rfl
  |cons x r g=>
   intro a;rw[cn,k_,k_];have:km (a.map tS) (tS x)=(if x∈a then a else a++[x]).map tS:=by
    unfold km;have f:tS x∈a.map tS↔x∈a:=by rw[cJ];exact⟨λζ=>by obtain⟨y,j,e⟩:=ζ;rw[<-p6 e];exact j,λh=>⟨x,h,rfl⟩⟩
    by_cases h:x∈a
    .rw[if_pos h,if_pos (f.mpr h)]
    .rw[if_neg h,if_neg (λz=>h (f.mp z)),tE];rfl
   rw[this,g]
 have e:(cz b.length).map (λi=>(b.map tS).getD i eV)=b.map tS:=by
  refine vP λi=>?_;rw[kD];by_cases c:i<b.length
  .rw[IJ c];simp[c]
  .rw[tN (by simpa using c),tN (by simpa using c)];rfl
 unfold met;rw[e];exact d b []
theorem Gr(l c:List Tx):(c.Nodup->(l.foldl (λks x=>if x∈ks then ks else ks++[x]) c).Nodup)/\∀x,x∈l.foldl (λks x=>if x∈ks then ks else ks++[x]) c↔x∈c\/x∈l:=by
 induction l generalizing c with
 |nil=>exact⟨λh=>h,λx=>by simp⟩
 |cons y r g=>
  rw[k_];obtain⟨m,j⟩:=g (if y∈c then c else c++[y]);refine⟨λh=>m ?_,λx=>?_⟩
  .split
   .exact h
   .rename_i d;rw[CB];exact⟨h,by simp,λa i b f=>by simp at f;subst f;exact λe=>d (e ▸ i)⟩
  .rw[j x,bE];split
   .rename_i d;constructor
    .rintro(h|h)
     .exact .inl h
     .exact .inr (.inr h)
    .rintro(h|rfl|h)
     .exact .inl h
     .exact .inl d
     .exact .inr h
   .rw[jm,fe,or_assoc]
theorem SV(l:List Tx):(b0 l).Nodup:=(Gr l []).1 List.nodup_nil
theorem l9(l:List Tx)(x:Tx):x∈b0 l↔x∈l:=by rw[b0,(Gr l []).2 x];simp
theorem Bv(l:List Tx):(b0 l).length<=l.length:=by
 have b:∀(l a:List Tx),(l.foldl (λks x=>if x∈ks then ks else ks++[x]) a).length<=a.length+l.length:=by
  intro l
  induction l with
  |nil=>intro a;simp
  |cons x r c=>intro a;rw[k_];refine cQ (c _) ?_;split <;> simp <;> lia
 simpa[b0]using b l []
section
variable{X:Cx}
def lm(X:Cx)(a:ag)(b:List Tx):HO:=.ext λh=>jC X.prog X.w h a (b.map tS)
theorem M3(z:X.calm=ah):eM X (.type "set") (λxs H Q=>∃(p:ag) (c:List Tx),xs=[.ref p]/\cE X.K H p (dG c)/\(b0 c).length<4000/\∀a,H a=ae->Q (.ref a) (upd H a (lm X a (b0 c)))):=by
 intro L s B H xs C Q I r h;obtain⟨p,c,rfl,x,f,q⟩:=h;obtain⟨u,rfl,l⟩:=vals1 r;cases l;obtain⟨d,g,v,E⟩:=I.list x;have y:=g.length;rw[yv]at y;refine Ob (P:=X.prog) (w:=X.w) (I.ok.hd z) v.isList (by simpa using zM g) (by rw[cg,show d.length=c.length by lia,xi,cM];exact f) λA j S k=>?_;have i:jC X.prog X.w A s.heap.objs.size ((b0 c).map tS):=by
  have e:d.toArray.size=c.length:=by rw[cg];lia
  rw[e,xi]at S;exact S
 refine⟨.ref s.heap.objs.size,_,I.laid (t':=j) (o:=lm X s.heap.objs.size (b0 c)) (λb o e=>k b o (bK e) e) (aY _) ?_,rfl,q _ I.fresh⟩;obtain⟨J,K,t,D,e,_⟩:=i.ex;exact⟨i,⟨_,e⟩,λG F n m=>n.at m⟩
end
structure cK(K:ax)(mg:Str->Option ai)(x:Str)(st:ba):Prop where
 ex:∃f fd,mg x=aa (.ref f)/\pY K x x st f fd
theorem GP{H:Hp}{p:ag}{o:HO}(h:H p=ae):Same H (upd H p o):=λb u q=>by rw[bj (l8 q h)];exact q
theorem yg{a:Type}{xs:List a}{k:Int}(b:0<=k)(h:k.toNat<xs.length):gw xs k=aa xs[k.toNat]:=by
 have e:((k.toNat:Nat):Int)=k:=∅
 have q:=QO (xs:=xs) (j:=k.toNat) (v:=xs[k.toNat]) (by simp[h]);rwa[e]at q
def E9(N:List Str)(d a:dy)(x:Str)(c:List Str)(b:List Nat):Bool :=
 decide (a.kind=.function)&&a.names.all (λy=>(decide (y.2≠.cell)||decide (a.names.lookup y.1=aa .cell))&&(decide (y.2≠.local)||decide (a.names.lookup y.1=aa .local))&&(decide (y.2≠.free)||decide (d.names.lookup y.1=aa .cell)||decide (d.names.lookup y.1=aa .free)))
 && (decide (a.names.lookup x=aa .local)||decide (a.names.lookup x=aa .cell))&&decide c.Nodup&&decide (c.head?=aa x)&&decide (c.length=b.length+1)&&(b.zip c.tail).all λp=>(decide (N[p.1]?=aa p.2)&&decide (a.names.lookup p.2=aa .free))||(decide (N.length<=p.1)&&decide (a.names.lookup p.2=aa .local))
theorem jx.of{X:Cx}{a:dy}{x:Str}{N':List Str}{cap:List Nat}(N:List Str)(d:dy)(l:X.N=N)(f:X.env.scope=d)(h:E9 N d a x N' cap=ah):jx X a x N' cap:=by
 subst l f;simp only[E9,ge,decide_eq_true_eq,qN,zf]at h;obtain⟨⟨⟨⟨⟨⟨r,c⟩,q⟩,p⟩,o⟩,n⟩,m⟩:=h;refine⟨r,λy b e=>(c y b).1.1.elim (λz=>absurd e z) λz=>z,λy b e=>?_,q,λy b e=>?_,p,o,n,λi j y t s=>?_⟩
 .rcases(c y b).1.2 with z|z
  .exact absurd e z
  .exact z
 .rcases(c y b).2 with(z|z)|z
  .exact absurd e z
  .exact .inl z
  .exact .inr z
 .have g:(j,y)∈cap.zip N'.tail:=by
   refine List.mem_iff_getElem?.mpr ⟨i,?_⟩;rw[List.getElem?_zip_eq_some];refine⟨s,?_⟩;rw[<-List.drop_one,CD,Nat.add_comm];exact t
  exact m _ g
theorem SR(a b:Tx):dJ (tV a) (tV b)=decide (a=b):=by show(tS a == tS b)=_;rw[mr];simp only[beq_iff_eq,decide_eq_true_eq];exact⟨p6,λh=>by rw[h]⟩
end L2
namespace Pu
open L2
abbrev St:=L2.St
inductive PV where
 |non|bl (b:Bool)|int (i:Int)|str (x:Tx)|tup (xs:List PV)|lst (xs:List PV)|raw (v:V)|exc (c:ai)
def mZ(a:ag)(c:ai):HO:=.ext λh=>∃o b,h.get? a=aa o/\o.cls=c/\o.data=.fields b/\o.dict=ae
def b8:Nat:=1000000
theorem kP:b8<=a_:=by rw[k8];decide
def eE:HO->Prop
 |.lst _=>True
 |.dK _=>True
 |.dT _=>True
 |.dN _=>True
 |.ins _ _ _=>True
 |.own _=>True
 |_=>False
mutual
def a8(K:ax)(H:Hp)(F:ag->Prop):PV->V->Prop
 |.non,v=>v=.non
 |.bl b,v=>v=.bl b
 |.int i,v=>v=.int i
 |.str x,v=>v=tV x/\x.length<=b8
 |.tup xs,v=>∃a d,v=.ref a/\H a=aa (.tup d)/\Reps K H F xs d
 |.lst xs,v=>∃a d,v=.ref a/\Rd H a (.lst d)/\F a/\Reps K H F xs d
 |.raw u,v=>v=u
 |.exc c,v=>∃a,v=.ref a/\H a=aa (mZ a c)
def Reps(K:ax)(H:Hp)(F:ag->Prop):List PV->List V->Prop
 |[],a=>a=[]
 |x::xs,a=>∃v r,a=v::r/\a8 K H F x v/\Reps K H F xs r
end
section
variable{K:ax}{H b:Hp}{F c:ag->Prop}
mutual
theorem a8.mono(i:∀a,F a->c a)(g:∀a xs,F a->Rd H a (.lst xs)->Rd b a (.lst xs))(f:∀a o,H a=aa o->¬eE o->b a=aa o):∀(x:PV) (v:V),a8 K H F x v->a8 K b c x v
 |.non,_,h=>h
 |.bl _,_,h=>h
 |.int _,_,h=>h
 |.str _,_,h=>h
 |.raw _,_,h=>h
 |.exc _,_,⟨a,e,h⟩=>⟨a,e,f a _ h id⟩
 |.tup xs,_,⟨a,d,e,l,j⟩=>⟨a,d,e,f a _ l id,Reps.mono i g f xs d j⟩
 |.lst xs,_,⟨a,d,e,l,m,j⟩=>⟨a,d,e,g a d m l,i a m,Reps.mono i g f xs d j⟩
theorem Reps.mono(i:∀a,F a->c a)(g:∀a xs,F a->Rd H a (.lst xs)->Rd b a (.lst xs))(f:∀a o,H a=aa o->¬eE o->b a=aa o):∀(xs:List PV) (d:List V),Reps K H F xs d->Reps K b c xs d
 |[],_,h=>h
 |x::xs,_,⟨v,r,e,l,j⟩=>⟨v,r,e,a8.mono i g f x v l,Reps.mono i g f xs r j⟩
end
theorem Reps.len:∀{xs:List PV}{vs:List V},Reps K H F xs vs->vs.length=xs.length
 |[],_,h=>by rw[show _=[] from h];rfl
 |_::_,_,⟨_,_,e,_,a⟩=>by rw[e,d_,d_,Reps.len a]
theorem Reps.get:∀{xs:List PV}{c:List V}{i:Nat}{x:PV},Reps K H F xs c->xs[i]?=aa x->∃v,c[i]?=aa v/\a8 K H F x v
 |[],_,_,_,_,e=>by simp at e
 |x::xs,_,0,y,⟨v,r,e,h1,_⟩,q=>by simp at q;subst q;subst e;exact⟨v,rfl,h1⟩
 |x::xs,_,i+1,y,⟨v,r,e,_,h2⟩,q=>by obtain⟨w,a,b⟩:=Reps.get (i:=i) (x:=y) h2 (by simpa using q);subst e;exact⟨w,by simpa using a,b⟩
theorem Reps.back:∀{xs:List PV}{c:List V}{i:Nat}{v:V},Reps K H F xs c->c[i]?=aa v->∃x,xs[i]?=aa x/\a8 K H F x v
 |[],_,_,_,h,e=>by rw[show _=[] from h]at e;simp at e
 |x::xs,_,0,y,⟨v,r,e,h1,_⟩,q=>by subst e;simp at q;subst q;exact⟨x,rfl,h1⟩
 |x::xs,_,i+1,y,⟨v,r,e,_,h2⟩,q=>by subst e;obtain⟨w,a,b⟩:=Reps.back (i:=i) (v:=y) h2 (by simpa using q);exact⟨w,by simpa using a,b⟩
theorem Reps.app:∀{xs a:List PV}{c b:List V},Reps K H F xs c->Reps K H F a b->Reps K H F (xs++a) (c++b)
 |[],_,_,_,h,g=>by rw[show _=[] from h];exact g
 |x::xs,_,_,_,⟨v,r,e,f,d⟩,g=>by subst e;exact⟨v,_,rfl,f,Reps.app d g⟩
theorem Reps.one{x:PV}{v:V}(h:a8 K H F x v):Reps K H F [x] [v]:=⟨v,[],rfl,h,rfl⟩
theorem Reps.drop:∀(n:Nat) {xs:List PV}{a:List V},Reps K H F xs a->Reps K H F (xs.drop n) (a.drop n)
 |0,_,_,h=>h
 |_+1,[],_,h=>by rw[show _=[] from h];rfl
 |n+1,_::_,_,⟨_,_,e,_,h2⟩=>by subst e;exact Reps.drop n h2
theorem Reps.take:∀(n:Nat) {xs:List PV}{a:List V},Reps K H F xs a->Reps K H F (xs.take n) (a.take n)
 |0,_,_,_=>by rw[CF,CF];rfl
 |_+1,[],_,h=>by rw[show _=[] from h];rfl
 |n+1,_::_,_,⟨v,_,e,h1,h2⟩=>by subst e;exact⟨v,_,rfl,h1,Reps.take n h2⟩
theorem Reps.set{x:PV}{v:V}(b:a8 K H F x v):∀(n:Nat) {xs:List PV}{a:List V},Reps K H F xs a->Reps K H F (xs.set n x) (a.set n v)
 |_,[],_,h=>by rw[show _=[] from h];rfl
 |0,_::_,_,⟨_,r,e,_,h2⟩=>by subst e;exact⟨v,r,rfl,b,h2⟩
 |n+1,_::_,_,⟨w,_,e,h1,h2⟩=>by subst e;exact⟨w,_,rfl,h1,Reps.set b n h2⟩
end
structure bz(O O' F F':ag->Prop)(H H':Hp):Prop where
 fro:∀a,F a->F' a
 keep:∀b o,H b=aa o->¬O b->H' b=aa o
 there:∀b o,H b=aa o->∃o',H' b=aa o'
 fnew:∀a,F' a->F a\/H a=ae\/O a
 onew:∀a,O' a->O a\/H a=ae
theorem bz.refl(O F:ag->Prop)(H:Hp):bz O O F F H H:=⟨λ_ h=>h,λ_ _ h _=>h,λ_ o h=>⟨o,h⟩,λ_ h=>.inl h,λ_ h=>.inl h⟩
theorem bz.trans{O i f F m l:ag->Prop}{H d j:Hp}(g:bz O i F m H d)(k:bz i f m l d j):bz O f F l H j where
 fro:=λa h=>k.fro a (g.fro a h)
 keep:=λb o h n=>k.keep b o (g.keep b o h n) λz=>(g.onew b z).elim n λq=>by rw[q]at h;cases h
 there:=λb o h=>let ⟨o',c⟩:=g.there b o h;k.there b o' c
 fnew:=λa h=>by
  have back:d a=ae->H a=ae\/O a:=λz=>by
   cases q:H a with
   |none=>exact .inl rfl
   |some o=>obtain⟨o',c⟩:=g.there a o q;rw[z]at c;cases c
  rcases k.fnew a h with z|z|z
  .exact g.fnew a z
  .exact .inr (back z)
  .exact .inr ((g.onew a z).symm)
 onew:=λa h=>by
  rcases k.onew a h with z|z
  .exact g.onew a z
  .cases q:H a with
   |none=>exact .inr rfl
   |some o=>obtain⟨o',c⟩:=g.there a o q;rw[z]at c;cases c
def Fit(O F:ag->Prop)(H:Hp):Prop:=∀b,O b->¬F b/\∃o,H b=aa o/\eE o
section
variable{K:ax}{O d F c:ag->Prop}{H b:Hp}
theorem bz.imm(g:bz O d F c H b)(f:Fit O F H){a:ag}{o:HO}(h:H a=aa o)(n:¬eE o):b a=aa o :=
 g.keep _ _ h λz=>by
  obtain⟨_,l,i,j⟩:=f a z;rw[h]at i;cases i;exact n j
theorem bz.lst(g:bz O d F c H b)(f:Fit O F H){a:ag}{xs:List V}(i:F a)(h:Rd H a (.lst xs)):Rd b a (.lst xs):=by
 have no:¬O a:=λz=>(f a z).1 i;rcases h with h|⟨o,h⟩
 .exact .inl (g.keep _ _ h no)
 .exact .inr ⟨o,g.keep _ _ h no⟩
theorem a8.grow(g:bz O d F c H b)(f:Fit O F H){x:PV}{v:V}(h:a8 K H F x v):a8 K b c x v:=a8.mono g.fro (λ_ _ a q=>g.lst f a q) (λ_ _ q n=>g.imm f q n) x v h
theorem Reps.grow(g:bz O d F c H b)(f:Fit O F H){x:List PV}{v:List V}(h:Reps K H F x v):Reps K b c x v:=Reps.mono g.fro (λ_ _ a q=>g.lst f a q) (λ_ _ q n=>g.imm f q n) x v h
end
theorem _root_.L2.Same.rd{H b:Hp}{a:ag}{u:HO}(e:Same H b)(h:Rd H a u):Rd b a u:=h.elim (λz=>.inl (e _ _ z)) λ⟨o,z⟩=>.inr ⟨o,e _ _ z⟩
structure Al(F F':ag->Prop)(H H':Hp):Prop where
 fro:∀a,F a->F' a
 same:Same H H'
 fnew:∀a,F' a->F a\/(H a=ae/\∃o,H' a=aa o)
theorem Al.refl(F:ag->Prop)(H:Hp):Al F F H H:=⟨λ_ h=>h,Same.refl H,λ_ h=>.inl h⟩
theorem Al.grow{F d O:ag->Prop}{H c:Hp}(a:Al F d H c):bz O O F d H c :=⟨a.fro,λb o h _=>a.same b o h,λb o h=>⟨o,a.same b o h⟩,λb h=>(a.fnew b h).imp id λz=>.inl z.1,λ_ h=>.inl h⟩
theorem Al.rep{K:ax}{F c:ag->Prop}{H b:Hp}(a:Al F c H b){x:PV}{v:V}(h:a8 K H F x v):a8 K b c x v:=a8.mono a.fro (λ_ _ _ q=>a.same.rd q) (λ_ _ q _=>a.same _ _ q) x v h
theorem Al.reps{K:ax}{F c:ag->Prop}{H b:Hp}(a:Al F c H b){x:List PV}{v:List V}(h:Reps K H F x v):Reps K b c x v:=Reps.mono a.fro (λ_ _ _ q=>a.same.rd q) (λ_ _ q _=>a.same _ _ q) x v h
theorem Al.trans{F i g:ag->Prop}{H f d:Hp}(a:Al F i H f)(b:Al i g f d):Al F g H d :=
 ⟨λc h=>b.fro c (a.fro c h),a.same.trans b.same,λc h=>by
  rcases b.fnew c h with z|⟨z,w⟩
  .rcases a.fnew c z with y|⟨y,o,q⟩
   .exact .inl y
   .exact .inr ⟨y,o,b.same _ _ q⟩
  .exact .inr ⟨a.same.free z,w⟩⟩
theorem Al.new{F:ag->Prop}{H:Hp}{l:ag}{o:HO}(h:H l=ae):Al F (λa=>F a\/a=l) H (upd H l o) :=⟨λ_ h=>.inl h,GP h,λa z=>z.imp id λe=>by subst e;exact⟨h,o,upd_same⟩⟩
theorem Al.new0{F:ag->Prop}{H:Hp}{l:ag}{o:HO}(h:H l=ae):Al F F H (upd H l o):=⟨λ_ h=>h,GP h,λa z=>.inl z⟩
inductive PO where
 |lst (xs:List PV)|dK (kvs:List (aD×PV))|lls (j8:List (List PV))|ins (C:ag) (fs:List (Str×PV))|dT (kvs:List (List aD×PV))|dN (kvs:List ((Tx×List Tx)×PV))|inl (C:ag) (fs:List (Str×PV)) (y:Str) (xs:List PV)
def fk:PO->Bool
 |.lls _=>aj
 |.inl ..=>aj
 |_=>ah
inductive Slot where
 |none|val (v:PV)|own (o:PO)
abbrev ak:=List Slot
def ik(K:ax)(H:Hp)(F:ag->Prop)(a:List (aD×PV))(b:List (aD×V)):Prop:=ku (λ(p:aD×PV) (q:aD×V)=>p.1=q.1/\a8 K H F p.2 q.2) a b
def uD(K:ax)(H:Hp)(F:ag->Prop)(fs:List (Str×PV))(a:List (Str×V)):Prop:=ku (λ(p:Str×PV) (q:Str×V)=>p.1=q.1/\a8 K H F p.2 q.2) fs a
def yF(K:ax)(H:Hp)(F:ag->Prop)(a:List (List aD×PV))(b:List (List aD×V)):Prop:=ku (λ(p:List aD×PV) (q:List aD×V)=>p.1=q.1/\a8 K H F p.2 q.2) a b
def nS(k:Tx×List Tx):Str×List Str:=(tS k.1,k.2.map tS)
def mf(K:ax)(H:Hp)(F:ag->Prop)(a:List ((Tx×List Tx)×PV))(b:List ((Str×List Str)×V)):Prop:=ku (λ(p:(Tx×List Tx)×PV) (q:(Str×List Str)×V)=>nS p.1=q.1/\a8 K H F p.2 q.2) a b
def yS(K:ax)(H:Hp)(F:ag->Prop)(c:List (List PV))(d:List ag):Prop:=ku (λ(xs:List PV) (b:ag)=>∃a,H b=aa (.lst a)/\Reps K H F xs a) c d
def fO(K:ax)(H:Hp)(F:ag->Prop)(j:PO)(a:ag)(S:ag->Prop):Prop :=
 match j with
 |.lst xs=>(∃g,H a=aa (.lst g)/\Reps K H F xs g)/\∀b,S b↔b=a
 |.dK f=>(∃d,H a=aa (.dK d)/\ik K H F f d)/\∀b,S b↔b=a
 |.lls l=>∃h,H a=aa (.lst (h.map .ref))/\yS K H F l h/\h.Nodup/\a∉h/\∀b,S b↔b=a\/b∈h
 |.ins C fs=>(∃i d,H a=aa (.ins C i d)/\uD K H F fs d)/\∀b,S b↔b=a
 |.dT f=>(∃d,H a=aa (.dT d)/\yF K H F f d)/\∀b,S b↔b=a
 |.dN f=>(∃d,H a=aa (.dN d)/\mf K H F f d)/\∀b,S b↔b=a
 |.inl C fs y xs=>∃i d b g,H a=aa (.ins C i (d++[(y,.ref b)]))/\uD K H F fs d/\fs.lookup y=ae/\H b=aa (.lst g)/\Reps K H F xs g/\a≠b/\∀c,S c↔c=a\/c=b
structure aX(K:ax)(F:ag->Prop)(S:Nat->ag->Prop)(ε:ak)(σ:St)(H:Hp):Prop where
 len:ε.length=σ.length
 ex:∀a,F a->∃o,H a=aa o
 val:∀(i:Nat) (pv:PV),ε[i]?=aa (.val pv)->∃v,σ[i]?=aa (aa v)/\a8 K H F pv v
 own:∀(i:Nat) (po:PO),ε[i]?=aa (.own po)->∃a,σ[i]?=aa (aa (.ref a))/\fO K H F po a (S i)
 foot:∀(i:Nat) (b:ag),S i b->(∃po,ε[i]?=aa (.own po))/\¬F b/\∃o,H b=aa o/\eE o
 dist:∀(i j:Nat) (b:ag),S i b->S j b->i=j
def U(S:Nat->ag->Prop)(b:ag):Prop:=∃i,S i b
section
variable{K:ax}{F f:ag->Prop}{S:Nat->ag->Prop}{j:ak}{g:St}{H d:Hp}
theorem aX.fit(r:aX K F S j g H):Fit (U S) F H:=λb ⟨i,h⟩=>(r.foot i b h).2
theorem ik.mono{a:List (aD×PV)}{b:List (aD×V)}(i:∀x v,a8 K H F x v->a8 K d f x v)(h:ik K H F a b):ik K d f a b:=by
 unfold ik at h ⊢
 induction h with
 |nil=>exact .nil
 |cons r _ c=>exact .cons ⟨r.1,i _ _ r.2⟩ c
theorem uD.mono{fs:List (Str×PV)}{a:List (Str×V)}(c:∀x v,a8 K H F x v->a8 K d f x v)(h:uD K H F fs a):uD K d f fs a:=by
 unfold uD at h ⊢
 induction h with
 |nil=>exact .nil
 |cons r _ b=>exact .cons ⟨r.1,c _ _ r.2⟩ b
theorem yF.mono{a:List (List aD×PV)}{b:List (List aD×V)}(i:∀x v,a8 K H F x v->a8 K d f x v)(h:yF K H F a b):yF K d f a b:=by
 unfold yF at h ⊢
 induction h with
 |nil=>exact .nil
 |cons r _ c=>exact .cons ⟨r.1,i _ _ r.2⟩ c
theorem mf.mono{a:List ((Tx×List Tx)×PV)}{b:List ((Str×List Str)×V)}(i:∀x v,a8 K H F x v->a8 K d f x v)(h:mf K H F a b):mf K d f a b:=by
 unfold mf at h ⊢
 induction h with
 |nil=>exact .nil
 |cons r _ c=>exact .cons ⟨r.1,i _ _ r.2⟩ c
theorem yS.mono{c:List (List PV)}{a:List ag}(l:∀x v,Reps K H F x v->Reps K d f x v)(i:∀b o,b∈a->H b=aa o->d b=aa o)(h:yS K H F c a):yS K d f c a:=by
 unfold yS at h ⊢
 induction h with
 |nil=>exact .nil
 |cons r _ n=>obtain⟨m,s,q⟩:=r;exact .cons ⟨m,i _ _ (by simp) s,l _ _ q⟩ (n λb o p=>i b o (by simp[p]))
theorem fO.mono{s:PO}{a:ag}{u:ag->Prop}(m:∀x v,a8 K H F x v->a8 K d f x v)(p:∀x v,Reps K H F x v->Reps K d f x v)(i:∀b o,u b->H b=aa o->d b=aa o)(h:fO K H F s a u):fO K d f s a u:=by
 cases s with
 |lst xs=>obtain⟨⟨r,e,q⟩,w⟩:=h;exact⟨⟨r,i a _ ((w a).mpr rfl) e,p _ _ q⟩,w⟩
 |dK l=>obtain⟨⟨c,e,q⟩,w⟩:=h;exact⟨⟨c,i a _ ((w a).mpr rfl) e,q.mono m⟩,w⟩
 |lls J=>obtain⟨I,e,q,D,B,w⟩:=h;exact⟨I,i a _ ((w a).mpr (.inl rfl)) e,q.mono p λb o E=>i b o ((w b).mpr (.inr E)),D,B,w⟩
 |ins C fs=>obtain⟨⟨t,c,e,q⟩,w⟩:=h;exact⟨⟨t,c,i a _ ((w a).mpr rfl) e,q.mono m⟩,w⟩
 |dT l=>obtain⟨⟨c,e,q⟩,w⟩:=h;exact⟨⟨c,i a _ ((w a).mpr rfl) e,q.mono m⟩,w⟩
 |dN l=>obtain⟨⟨c,e,q⟩,w⟩:=h;exact⟨⟨c,i a _ ((w a).mpr rfl) e,q.mono m⟩,w⟩
 |inl C fs y xs=>obtain⟨t,c,b,r,e,q,n,G,z,A,w⟩:=h;exact⟨t,c,b,r,i a _ ((w a).mpr (.inl rfl)) e,q.mono m,n,i b _ ((w b).mpr (.inr rfl)) G,p _ _ z,A,w⟩
theorem aX.al(r:aX K F S j g H)(a:Al F f H d):aX K f S j g d where
 len:=r.len
 ex:=λb h=>(a.fnew b h).elim (λz=>let ⟨o,q⟩:=r.ex b z;⟨o,a.same _ _ q⟩) λz=>z.2
 val:=λi pv e=>let ⟨v,m,l⟩:=r.val i pv e;⟨v,m,a.rep l⟩
 own:=λi p e=>let ⟨b,m,l⟩:=r.own i p e;⟨b,m,l.mono (λ_ _ q=>a.rep q) (λ_ _ q=>a.reps q) λc o _ q=>a.same _ _ q⟩
 foot:=λi b h=>by
  obtain⟨m,l,o,n,s⟩:=r.foot i b h;refine⟨m,λz=>?_,o,a.same _ _ n,s⟩;rcases a.fnew b z with y|⟨y,_⟩
  .exact l y
  .rw[n]at y;cases y
 dist:=r.dist
end
inductive R(α:Type) where
 |ok (a:α) (ε:ak)|er (c:ai) (ε:ak)|no
def R.bind{d b:Type}(r:R d)(k:d->ak->R b):R b:=match r with
 |.ok a ε=>k a ε
 |.er c ε=>.er c ε
 |.no=>.no
def aF{b:Type}(o:Option b)(ε:ak):R b:=match o with
 |some a=>.ok a ε
 |none=>.no
@[simp] theorem R.bind_ok{b c:Type}(a:b)(ε:ak)(k:b->ak->R c):(R.ok a ε).bind k=k a ε:=rfl
@[simp] theorem R.bind_er{b d:Type}(c:ai)(a:ak)(k:b->ak->R d):(R.er c a:R b).bind k=.er c a:=rfl
@[simp] theorem R.bind_no{a b:Type}(k:a->ak->R b):(R.no:R a).bind k=.no:=rfl
@[simp] theorem b_{c:Type}(a:c)(b:ak):aF (aa a) b=.ok a b:=rfl
@[simp] theorem Uz{b:Type}(a:ak):aF (ae:Option b) a=.no:=rfl
def Ok(K:ax)(E:XK)(h:St)(F:ag->Prop)(S:Nat->ag->Prop)(H:Hp){i:Type}(r:R i)(C:i->ak->(ag->Prop)->(Nat->ag->Prop)->Hp->Prop):Prop:=match r with
 |.ok a b=>∀g f d,aX K g f b h d->bz (U S) (U f) F g H d->C a b g f d
 |.er c b=>∀x g f d,aX K g f b h d->bz (U S) (U f) F g H d->E c x d
 |.no=>False
section
variable{K:ax}{E:XK}{b:St}{F:ag->Prop}{S:Nat->ag->Prop}{H:Hp}{d i:Type}{C C':d->ak->(ag->Prop)->(Nat->ag->Prop)->Hp->Prop}{D:i->ak->(ag->Prop)->(Nat->ag->Prop)->Hp->Prop}
theorem Ok.imp{r:R d}(h:Ok K E b F S H r C)(f:∀a j n l m,aX K n l j b m->bz (U S) (U l) F n H m->C a j n l m->C' a j n l m):Ok K E b F S H r C':=by
 cases r with
 |ok a j=>exact λn l m r g=>f a j n l m r g (h n l m r g)
 |er c j=>exact h
 |no=>exact h
theorem Ok.from{r:R i}{q:ag->Prop}{o:Nat->ag->Prop}{p:Hp}(h:Ok K E b F S H r D)(g:bz (U S) (U o) F q H p):Ok K E b q o p r D:=by
 cases r with
 |ok a f=>exact λn l m j g'=>h n l m j (g.trans g')
 |er c f=>exact λx n l m j g'=>h x n l m j (g.trans g')
 |no=>exact h
theorem Ok.bind{r:R d}{k:d->ak->R i}(h:Ok K E b F S H (r.bind k) D):Ok K E b F S H r (λa ε1 m j l=>Ok K E b m j l (k a ε1) D):=by
 cases r with
 |ok a f=>exact λp n o r g=>Ok.from h g
 |er c f=>exact h
 |no=>exact h
end
structure Bx(p:Prop):Prop where
 run:p
def jv(X:Cx)(e:az):TE:=λa H Q=>Bx (∀b s,Inv X b a H s->ar (aw X.prog X.w) X.A (aK e X.env) (EP X b a Q) X.xe s)
def zU(X:Cx)(e:az):TT:=λa H Q=>Bx (∀b s,Inv X b a H s->ar (aw X.prog X.w) X.A (nN e X.env (aK e X.env)) (TP X b a Q) X.xe s)
def wpS(X:Cx)(c:ba):TS:=λD b H=>Bx (∀a s,Inv X a b H s->ar (aw X.prog X.w) X.A (exec c X.env) (SP X a D) X.xe s)
def qb(X:Cx)(c:List ba):TS:=λD b H=>Bx (∀a s,Inv X a b H s->ar (aw X.prog X.w) X.A (execs c X.env) (SP X a D) X.xe s)
section
variable{X:Cx}{e:az}{b:ba}{a:List ba}
theorem bD:PE X e (jv X e):=λc s _ _ _ I h=>h.run c s I
theorem qd:PT X e (zU X e):=λc s _ _ _ I h=>h.run c s I
theorem Fb:PS X b (wpS X b):=λc s _ _ _ I h=>h.run c s I
theorem sI:lD X a (qb X a):=λc s _ _ _ I h=>h.run c s I
theorem bU{t:TE}(h:PE X e t){c:St}{H:Hp}{Q:VK}(q:t c H Q):jv X e c H Q:=⟨λd s I=>h d s c H Q I q⟩
theorem qt{t:TT}(h:PT X e t){c:St}{H:Hp}{Q:Bool->Hp->Prop}(q:t c H Q):zU X e c H Q:=⟨λd s I=>h d s c H Q I q⟩
theorem je{t:TS}(h:PS X b t){c:St}{H:Hp}{D:lu}(q:t D c H):wpS X b D c H:=⟨λd s I=>h d s c H D I q⟩
theorem BC{t:TS}(h:lD X a t){c:St}{H:Hp}{D:lu}(q:t D c H):qb X a D c H:=⟨λd s I=>h d s c H D I q⟩
end
def DE(X:Cx)(E:XK)(e:az)(d:ak->R PV):Prop :=
 ∀F S ε a H Q,aX X.K F S ε a H->Ok X.K E a F S H (d ε) (λpv _ c _ b=>∀v,a8 X.K b c pv v->Q v b)->jv X e a H Q
def DN(X:Cx)(E:XK)(e:az)(d:ak->R PO):Prop :=
 ∀F S g c H Q,aX X.K F S g c H->Ok X.K E c F S H (d g) (λj _ i l f=>∀a h,fO X.K f i j a h->(∀b,h b->H b=ae/\¬i b/\¬U l b/\∃o,f b=aa o/\eE o)->Q (.ref a) f)->jv X e c H Q
def DT(X:Cx)(E:XK)(e:az)(d:ak->R Bool):Prop :=
 ∀F S ε a H Q,aX X.K F S ε a H->Ok X.K E a F S H (d ε) (λb _ _ _ c=>Q b c)->zU X e a H Q
end Pu
namespace Pu
open L2
section
variable{X:Cx}{E:XK}{a b c:az}{m db o:ak->R PV}{pos:Pos}
def dC(pv:PV):ak->R PV:=λε=>.ok pv ε
theorem aO{i j pos}:DE X E (.Constant (.int i) j pos) (dC (.int i)):=λF S f d H Q r h=>bU HE (h F S H r (bz.refl ..) _ rfl)
theorem kT{i j pos}:DE X E (.Constant (.bool i) j pos) (dC (.bl i)):=λF S f d H Q r h=>bU Pi (h F S H r (bz.refl ..) _ rfl)
theorem Ka{j pos}:DE X E (.Constant .none j pos) (dC .non):=λF S f d H Q r h=>bU PD (h F S H r (bz.refl ..) _ rfl)
theorem eZ(l:Tx){x:Str}{j pos}(d:x=tS l:=by decide +kernel)(f:l.length<=b8:=by decide):DE X E (.Constant (.str x) j pos) (dC (.str l)):=λF S i g H Q r h=>bU N_ (h F S H r (bz.refl ..) _ (by rw[d];exact⟨rfl,f⟩))
def dV(i:Nat):ak->R PV:=λε=>match ε[i]? with
 |some (.val pv)=>.ok pv ε
 |_=>.no
theorem au(i:Nat){x:Str}{pos:Pos}(g:X.N[i]?=aa x:=by rfl)(d:ef X.env.scope x:=by first|exact Or.inl rfl|exact Or.inr (Or.inl rfl)|exact Or.inr (Or.inr rfl))(f:(x==("__debug__":Str))=aj:=by decide)(n:(x==("__classdict__":Str))=aj:=by decide):DE X E (.Name x pos) (dV i):=λF S s q H Q r h=>by
 unfold dV at h;split at h
 .rename_i p e;obtain⟨v,l,j⟩:=r.val i p e;exact bU (fj g d f n) ⟨v,l,h F S H r (bz.refl ..) v j⟩
 .exact h.elim
theorem BN{x:Str}{i:Int}{pos:Pos}(h:∃t,X.mg x=aa (.int i t))(d:Gl X x:=by rfl)(f:(x==("__debug__":Str))=aj:=by decide):DE X E (.Name x pos) (dC (.int i)):=λF S j g H Q r q=>by obtain⟨t,e⟩:=h;exact bU (Be (v:=.int i) d e ⟨t,rfl⟩ f) (q F S H r (bz.refl ..) _ rfl)
theorem Ht{x:Str}{l:Tx}{pos:Pos}(h:∃t,X.mg x=aa (.str (tS l) t))(f:Gl X x:=by rfl)(d:l.length<=b8:=by decide)(g:(x==("__debug__":Str))=aj:=by decide):DE X E (.Name x pos) (dC (.str l)):=λF S j i H Q r q=>by obtain⟨t,e⟩:=h;exact bU (Be (v:=tV l) f e ⟨t,rfl⟩ g) (q F S H r (bz.refl ..) _ ⟨rfl,d⟩)
def P2(K:ax)(r:R2)(f:PV->PV->Option PV):Prop:=∀(F:ag->Prop) (H:Hp) (x y:PV) (v u:V) (Q:VK) (pv:PV),a8 K H F x v->a8 K H F y u->f x y=aa pv->(∀w g d,Al F g H d->a8 K d g pv w->Q w d)->r v u H Q
def d2(f:PV->PV->Option PV)(m db:ak->R PV):ak->R PV:=λε=>(m ε).bind λx ε1=>(db ε1).bind λy d=>aF (f x y) d
theorem yH{r:R2}{f:PV->PV->Option PV}(G:P2 X.K r f)(J:DE X E a m)(I:DE X E b db){F:ag->Prop}{S:Nat->ag->Prop}{l:ak}{d:St}{H:Hp}{Q:VK}(C:aX X.K F S l d H)(h:Ok X.K E d F S H (d2 f m db l) (λpv _ s _ i=>∀v,a8 X.K i s pv v->Q v i)):jv X a d H λx q=>jv X b d q λy p=>r x y p Q:=by
 refine J F S l d H _ C ((Ok.bind h).imp λx j P N q t T K v A=>?_);refine I P N j d q _ t ((Ok.bind K).imp λy z O M p D L g u B=>?_);cases e:f x y with
 |none=>rw[e]at g;exact g.elim
 |some pv=>rw[e]at g;exact G O p x y v u Q pv (A.grow L t.fit) B e λw s i al n=>g s M i (D.al al) al.grow w n
theorem cH{d:Operator}{r:R2}{f:PV->PV->Option PV}(j:b7 X (iS d) r)(i:P2 X.K r f)(n:DE X E a m)(l:DE X E b db):DE X E (.BinOp a d b pos) (d2 f m db):=λF S q p H Q g h=>bU (JL j bD bD) (yH i n l g h)
theorem yG{d:CmpOp}{r:R2}{f:PV->PV->Option PV}(j:b7 X (eC d) r)(i:P2 X.K r f)(p:DE X E a m)(n:DE X E b db)(l:nO d b=aj):DE X E (.Compare a [d] [b] pos) (d2 f m db):=λF S s q H Q g h=>bU (QS j bD bD l) (yH i p n g h)
def li:PV->Option Bool
 |.bl b=>aa b
 |_=>ae
def dB(d:ak->R PV):ak->R Bool:=λε=>(d ε).bind λx ε1=>aF (li x) ε1
theorem Hx{K:ax}{H:Hp}{F:ag->Prop}{x:PV}{v:V}{k:Bool}(h:a8 K H F x v)(e:li x=aa k):v=.bl k:=by
 cases x <;> simp[li]at e;subst e;exact h
theorem pM{F:ag->Prop}{S:Nat->ag->Prop}{j:ak}{i:St}{H:Hp}{Q:Bool->Hp->Prop}{d:ak->R PV}(h:Ok X.K E i F S H (dB d j) (λk _ _ _ g=>Q k g)):Ok X.K E i F S H (d j) (λpv _ t _ g=>∀v,a8 X.K g t pv v->∃k,v=.bl k/\Q k g):=by
 refine(Ok.bind h).imp λx l s q r p u f v n=>?_;cases e:li x with
 |none=>rw[e]at f;exact f.elim
 |some k=>rw[e]at f;exact⟨k,Hx n e,f s q r p (bz.refl ..)⟩
theorem i9{d:CmpOp}{r:R2}{f:PV->PV->Option PV}(j:b7 X (eC d) r)(i:P2 X.K r f)(p:DE X E a m)(n:DE X E b db)(l:nO d b=aj):DT X E (.Compare a [d] [b] pos) (dB (d2 f m db)):=λF S t s H Q g h=>qt (M0 j bD bD l) (yH (Q:=λx q=>∃k,x=.bl k/\Q k q) i p n g (pM h))
theorem qz{e:az}{d:ak->R PV}(n:DE X E e d)(l:∀f,nN e X.env f=(do let v <-f;standAt e.pos;nR [v] (truthy v)):=by intro _;rfl):DT X E e (dB d):=λF S i g H Q j h=>qt (Q2 bD l) (n F S i g H _ j (pM h))
def nh(f g:PV->PV->Option PV)(m db o:ak->R PV):ak->R PV:=λj=>(m j).bind λx i=>(db i).bind λy d=>(aF ((f x y).bind li) d).bind λk d=>
 match k with
 |true=>(o d).bind λz h=>aF (g y z) h
 |false=>.ok (.bl aj) d
theorem Hm{r N:R2}{f g:PV->PV->Option PV}(hp:P2 X.K r f)(fF:P2 X.K N g)(ha:DE X E a m)(hb:DE X E b db)(hc:DE X E c o){F:ag->Prop}{S:Nat->ag->Prop}{A:ak}{j:St}{H:Hp}{Q:VK}(rl:aX X.K F S A j H)(h:Ok X.K E j F S H (nh f g m db o A) (λpv _ l _ i=>∀v,a8 X.K i l pv v->Q v i)):Af r N (jv X a) (jv X b) (jv X c) j H Q:=by
 refine ha F S A j H _ rl ((Ok.bind h).imp λx t F1 S1 H1 M g1 h1 v Z=>?_);refine hb F1 S1 t j H1 _ M ((Ok.bind h1).imp λy n P K O r2 g2 d u L=>?_);cases e:f x y with
 |none=>rw[e]at d;exact d.elim
 |some pv=>
  rw[e]at d;refine hp P O x y v u _ pv (Z.grow g2 M.fit) L e λw l i al C=>?_;cases J:li pv with
  |none=>rw[gT,J]at d;exact d.elim
  |some k=>
   rw[gT,J]at d;refine⟨k,Hx C J,?_⟩;have G:=r2.al al;cases k with
   |false=>exact pV (Ok.from d al.grow l K i G (bz.refl ..) _ rfl)
   |true=>
    have h3:Ok X.K E j P K O ((o n).bind λz s=>aF (g y z) s) (λpv _ l _ i=>∀v,a8 X.K i l pv v->Q v i):=d;refine qh (hc l K n j i _ G ((Ok.bind (Ok.from h3 al.grow)).imp λz T F4 S4 H4 r4 g4 q Y D=>?_));cases I:g y z with
    |none=>rw[I]at q;exact q.elim
    |some pz=>rw[I]at q;exact fF F4 H4 y z u Y Q pz ((al.rep L).grow g4 G.fit) D I λW F5 H5 p B=>q F5 S4 H5 (r4.al p) p.grow W B
theorem SN{i d:CmpOp}{r j:R2}{f g:PV->PV->Option PV}(q:b7 X (eC i) r)(n:b7 X (eC d) j)(p:P2 X.K r f)(w:P2 X.K j g)(v:DE X E a m)(u:DE X E b db)(t:DE X E c o)(s:lastMarks [i,d] [b,c]=aj:=by with_unfolding_all rfl):DE X E (.Compare a [i,d] [b,c] pos) (nh f g m db o):=λF S y x H Q l h=>bU (Pw q n bD bD bD s) (Hm p w v u t l h)
theorem Ew{i d:CmpOp}{r j:R2}{f g:PV->PV->Option PV}(q:b7 X (eC i) r)(n:b7 X (eC d) j)(p:P2 X.K r f)(w:P2 X.K j g)(v:DE X E a m)(u:DE X E b db)(t:DE X E c o)(s:lastMarks [i,d] [b,c]=aj:=by with_unfolding_all rfl):DT X E (.Compare a [i,d] [b,c] pos) (dB (nh f g m db o)):=λF S A z H Q l h=>qt (Qk q n bD bD bD s) (Hm (Q:=λx y=>∃k,x=.bl k/\Q k y) p w v u t l (pM h))
variable{n A:ak->R Bool}{rest:List az}
def DW(X:Cx)(E:XK)(e:az)(d:ak->R Bool):Prop:=∀F S g f H Q,aX X.K F S g f H->Ok X.K E f F S H (d g) (λb _ _ _ i=>Q b i)->∀(h:Sem ai) af s,Inv X af f H s->ar (aw X.prog X.w) X.A (nN e X.env h) (TP X af f Q) X.xe s
def Mf(X:Cx)(e:az):TT:=λd H Q=>∀(f:Sem ai) af s,Inv X af d H s->ar (aw X.prog X.w) X.A (nN e X.env f) (TP X af d Q) X.xe s
theorem RP{e:az}:PW X e (Mf X e):=λd f s _ _ _ I h=>h d f s I
theorem DW.dt{e:az}{d:ak->R Bool}(h:DW X E e d):DT X E e d:=λF S ε f H Q g q=>⟨λi s I=>h F S ε f H Q g q _ i s I⟩
def xj(n A:ak->R Bool):ak->R Bool:=λf=>(n f).bind λk d=>match k with
 |true=>A d
 |false=>.ok aj d
def i7(n A:ak->R Bool):ak->R Bool:=λε=>(n ε).bind λk d=>match k with
 |true=>.ok ah d
 |false=>A d
def kL(n:ak->R Bool):ak->R Bool:=λf=>(n f).bind λk d=>.ok (!k) d
theorem pN(h:DT X E a n):DW X E (.BoolOp .Or [a] pos) n:=λF S f d H Q g q i j s I=>NR qd i j s d H Q I (h F S f d H Q g q)
theorem pO(v:DT X E a n)(u:DW X E (.BoolOp .Or (b::rest) pos) A):DW X E (.BoolOp .Or (a::b::rest) pos) (i7 n A):=λF S p d H Q r q t w s I=>by
 refine Pt qd RP t w s d H Q I (v F S p d H _ r ((Ok.bind q).imp λk f l i j g x h=>?_));cases k with
 |true=>exact qh (h l i j g (bz.refl ..))
 |false=>exact pV (u l i f d j Q g h)
theorem oN(j:DT X E a n):DT X E (.UnaryOp .Not a pos) (kL n):=λF S g d H Q h q=>qt (LQ qd) (j F S g d H _ h ((Ok.bind q).imp λk f s p r i t l=>l s p r i (bz.refl ..)))
def mX(m db:ak->R PV):ak->R PV:=λf=>(dB m f).bind λk d=>match k with
 |true=>db d
 |false=>.ok (.bl aj) d
def Ba(m db:ak->R PV):ak->R PV:=λf=>(dB m f).bind λk d=>match k with
 |true=>.ok (.bl ah) d
 |false=>db d
def ve(m:ak->R PV):ak->R PV:=λf=>(dB m f).bind λk d=>.ok (.bl (!k)) d
theorem Hn{d:ak->R PV}{r:Type}{D:r->ak->(ag->Prop)->(Nat->ag->Prop)->Hp->Prop}{k:Bool->ak->R r}{F:ag->Prop}{S:Nat->ag->Prop}{q:ak}{p:St}{H:Hp}{P:Bool->Hp->Prop}(h:Ok X.K E p F S H ((dB d q).bind k) D) (f:∀c g l j i,aX X.K l j g p i->bz (U S) (U j) F l H i->Ok X.K E p l j i (k c g) D->P c i):Ok X.K E p F S H (d q) (λpv _ y _ s=>∀v,a8 X.K s y pv v->∃c,v=.bl c/\P c s):=by have u:=(Ok.bind h).imp (C':=λc g l j i=>P c i) λc g l j i t x w=>f c g l j i t x w;exact pM u
theorem wT{op}{d:ak->R PV}(h:DE X E a d):DE X E (.BoolOp op [a] pos) d:=λF S g f H Q i q=>bU (MN bD) (h F S g f H Q i q)
theorem u0(t:DE X E a m)(s:DE X E (.BoolOp .And (b::rest) pos) db):DE X E (.BoolOp .And (a::b::rest) pos) (mX m db):=λF S p f H Q r q=>by
 refine bU (JX bD bD) (t F S p f H _ r (Hn q λk d l i j g u h=>?_));cases k with
 |true=>exact qh (s l i d f j Q g h)
 |false=>exact pV (h l i j g (bz.refl ..) _ rfl)
theorem QX(j:DE X E a m):DE X E (.UnaryOp .Not a pos) (ve m):=λF S g d H Q h q=>bU (Ru bD) (j F S g d H _ h (Hn q λk f s p r i t l=>l s p r i (bz.refl ..) _ rfl))
def cS{d:Type}(t:ak->R Bool)(m db:ak->R d):ak->R d:=λf=>(t f).bind λk ε1=>match k with
 |true=>m ε1
 |false=>db ε1
theorem Pb(s:DT X E c n)(u:DE X E a m)(t:DE X E b db):DE X E (.IfExp c a b pos) (cS n m db):=λF S p f H Q r q=>by
 refine bU (NK qd bD bD) (s F S p f H _ r ((Ok.bind q).imp λk d l i j g v h=>?_));cases k with
 |true=>exact qh (u l i d f j Q g h)
 |false=>exact pV (t l i d f j Q g h)
def P1(K:ax)(r:V->Hp->VK->Prop)(f:PV->Option PV):Prop:=∀(F:ag->Prop) (H:Hp) (x:PV) (v:V) (Q:VK) (pv:PV),a8 K H F x v->f x=aa pv->(∀w g d,Al F g H d->a8 K d g pv w->Q w d)->r v H Q
def d1(f:PV->Option PV)(m:ak->R PV):ak->R PV:=λε=>(m ε).bind λx ε1=>aF (f x) ε1
theorem PU{r:V->Hp->VK->Prop}{f:PV->Option PV}(z:P1 X.K r f)(B:DE X E a m){F:ag->Prop}{S:Nat->ag->Prop}{j:ak}{d:St}{H:Hp}{Q:VK}(u:aX X.K F S j d H)(h:Ok X.K E d F S H (d1 f m j) (λpv _ q _ i=>∀v,a8 X.K i q pv v->Q v i)):jv X a d H λx p=>r x p Q:=by
 refine B F S j d H _ u ((Ok.bind h).imp λx s D C p y G g v t=>?_);cases e:f x with
 |none=>rw[e]at g;exact g.elim
 |some pv=>rw[e]at g;exact z D p x v Q pv t e λw q i al l=>g q C i (y.al al) al.grow w l
theorem kl{d:UnaryOp}{r:V->Hp->VK->Prop}{f:PV->Option PV}(j:yW X (unaryOp d) r)(i:P1 X.K r f)(l:DE X E a m):DE X E (.UnaryOp d a pos) (d1 f m):=λF S q p H Q g h=>bU (Rg j bD) (PU i l g h)
end
def pL(X:Cx)(d:List az):TA:=λb H Q=>Bx (∀a c s,Inv X c b H s->ar (aw X.prog X.w) X.A (spliced (cZ a (aM d X.env))) (AP X c b Q) X.xe s)
def DA(X:Cx)(E:XK)(h:List az)(d:ak->R (List PV)):Prop :=
 ∀F S c a H Q,aX X.K F S c a H->Ok X.K E a F S H (d c) (λb _ i _ g=>∀f,Reps X.K g i b f->Q f g)->pL X h a H Q
section
variable{X:Cx}{E:XK}{a b c e:az}{es:List az}{B db D d:ak->R PV}{j:ak->R (List PV)}{pos:Pos}
theorem gL{es:List az}:PA X es (pL X es):=λpos f s _ _ _ I h=>h.run pos f s I
theorem pX{t:TA}(h:PA X es t){f:St}{H:Hp}{Q:List V->Hp->Prop}(q:t f H Q):pL X es f H Q:=⟨λpos g s I=>h pos g s f H Q I q⟩
def aC:ak->R (List PV):=λε=>.ok [] ε
def aq(d:ak->R PV)(j:ak->R (List PV)):ak->R (List PV):=λε=>(d ε).bind λx ε1=>(j ε1).bind λxs f=>.ok (x::xs) f
theorem aJ:DA X E [] aC:=λF S i g H Q f h=>pX jU (h F S H f (bz.refl ..) _ rfl)
theorem N9(u:DE X E e d)(t:DA X E es j)(s:aM (e::es) X.env=(aj,aK e X.env)::aM es X.env:=by rfl):DA X E (e::es) (aq d j):=λF S m g H Q p h=>by refine pX (iH bD gL s) (u F S m g H _ p ((Ok.bind h).imp λx f K C I i L y v o=>?_));refine t K C f g I _ i ((Ok.bind y).imp λxs l J A G q z w n r=>?_);exact w J A G q (bz.refl ..) _ ⟨v,n,rfl,o.grow z i.fit,r⟩
theorem aX.more{K:ax}{F N:ag->Prop}{S:Nat->ag->Prop}{n:ak}{m:St}{H:Hp}(r:aX K F S n m H)(p:∀b,N b->¬U S b/\∃o,H b=aa o):aX K (λb=>F b\/N b) S n m H:=by
 have mono:∀x v,a8 K H F x v->a8 K H (λb=>F b\/N b) x v:=a8.mono (λ_ h=>.inl h) (λ_ _ _ q=>q) (λ_ _ q _=>q);have f:∀x v,Reps K H F x v->Reps K H (λb=>F b\/N b) x v:=Reps.mono (λ_ h=>.inl h) (λ_ _ _ q=>q) (λ_ _ q _=>q);refine⟨r.len,λb h=>h.elim (r.ex b) λz=>(p b z).2,λi pv e=>?_,λi s e=>?_,λi b h=>?_,r.dist⟩
 .obtain⟨v,l,g⟩:=r.val i pv e;exact⟨v,l,mono _ _ g⟩
 .obtain⟨v,l,g⟩:=r.own i s e;exact⟨v,l,g.mono mono f λ_ _ _ z=>z⟩
 .obtain⟨l,g,t⟩:=r.foot i b h;exact⟨l,λz=>z.elim g λw=>(p b w).1 ⟨i,h⟩,t⟩
def oP:PO->Option PV
 |.lst xs=>aa (.lst xs)
 |_=>ae
def dF(d:ak->R PO):ak->R PV:=λε=>(d ε).bind λf ε1=>aF (oP f) ε1
theorem DN.de{d:ak->R PO}(h:DN X E e d):DE X E e (dF d):=λF S ε r H Q v q=>by
 unfold dF at q;refine h F S ε r H Q v ?_;cases i:d ε with
 |no=>rw[i]at q;exact q.elim
 |er c t=>rw[i]at q;exact q
 |ok A s=>
  rw[i]at q;intro N l m x g a p G n;cases A with
  |dK f=>exact q.elim
  |lls O=>exact q.elim
  |ins C fs=>exact q.elim
  |dT f=>exact q.elim
  |dN f=>exact q.elim
  |inl C fs y xs=>exact q.elim
  |lst xs=>
   have L:∀b,p b->¬U l b/\∃o,m b=aa o:=λb z=>let ⟨_,_,x3,o,x4,_⟩:=n b z;⟨x3,o,x4⟩
   obtain⟨⟨u,J,I⟩,K⟩:=G;have M:bz (U S) (U l) F (λb=>N b\/p b) H m:=⟨λb z=>.inl (g.fro b z),g.keep,g.there,λb z=>z.elim (g.fnew b) λw=>.inr (.inl (n b w).1),g.onew⟩
   exact q _ l m (x.more L) M _ ⟨a,u,rfl,.inl J,.inr ((K a).mpr rfl),Reps.mono (λ_ z=>.inl z) (λ_ _ _ z=>z) (λ_ _ z _=>z) _ _ I⟩
def bP(xs:List PV):Option PV:=if xs.length<=1000 then aa (.tup xs)else ae
def fN(xs:List PV):Option PO:=if xs.length<=1000 then aa (.lst xs)else ae
def dL{g:Type}(f:List PV->Option g)(j:ak->R (List PV)):ak->R g:=λε=>(j ε).bind λxs ε1=>aF (f xs) ε1
def PL(K:ax)(r:List V->Hp->VK->Prop)(f:List PV->Option PV):Prop:=∀(F:ag->Prop) (H:Hp) (xs:List PV) (h:List V) (Q:VK) (pv:PV),Reps K H F xs h->f xs=aa pv->(∀w i g,Al F i H g->a8 K g i pv w->Q w g)->r h H Q
def l0(K:ax)(r:List V->Hp->VK->Prop)(f:List PV->Option PO):Prop:=∀(F:ag->Prop) (H:Hp) (xs:List PV) (i:List V) (Q:VK) (l:PO),(∀a,F a->∃o,H a=aa o)->Reps K H F xs i->f xs=aa l ->
 (∀a h g m,Al F h H g->fO K g h l a m->(∀b,m b->H b=ae/\¬h b/\∃o,g b=aa o/\eE o)->Q (.ref a) g)->r i H Q
theorem Bk{r:List V->Hp->VK->Prop}{f:List PV->Option PV}(y:PL X.K r f)(z:DA X E es j){F:ag->Prop}{S:Nat->ag->Prop}{m:ak}{g:St}{H:Hp}{Q:VK}(t:aX X.K F S m g H)(h:Ok X.K E g F S H (dL f j m) (λpv _ p _ l=>∀v,a8 X.K l p pv v->Q v l)):pL X es g H λxs o=>r xs o Q:=by
 refine z F S m g H _ t ((Ok.bind h).imp λxs q C A o u G i s x=>?_);cases e:f xs with
 |none=>rw[e]at i;exact i.elim
 |some pv=>rw[e]at i;exact y C o xs s Q pv x e λw p l al n=>i p A l (u.al al) al.grow w n
theorem oQ{O i F l:ag->Prop}{H f:Hp}(g:bz O i F l H f){b:ag}(h:f b=ae):H b=ae:=by
 cases q:H b with
 |none=>rfl
 |some o=>obtain⟨o',e⟩:=g.there b o q;rw[h]at e;cases e
theorem uL{r:List V->Hp->VK->Prop}{f:List PV->Option PO}(M:l0 X.K r f)(N:DA X E es j){F:ag->Prop}{S:Nat->ag->Prop}{q:ak}{l:St}{H:Hp}{Q:VK}(J:aX X.K F S q l H)(h:Ok X.K E l F S H (dL f j q) (λt _ p W g=>∀a n,fO X.K g p t a n->(∀b,n b->H b=ae/\¬p b/\¬U W b/\∃o,g b=aa o/\eE o)->Q (.ref a) g)):pL X es l H λxs u=>r xs u Q:=by
 refine N F S q l H _ J ((Ok.bind h).imp λxs y Y T u s O m I L=>?_);cases e:f xs with
 |none=>rw[e]at m;exact m.elim
 |some t=>
  rw[e]at m;refine M Y u xs I Q t s.ex L e λa p g n al K P=>m p T g (s.al al) al.grow a n K λb z=>?_;obtain⟨v,G,o,C,A⟩:=P b z;refine⟨oQ O v,G,λ⟨i,w⟩=>?_,o,C,A⟩;obtain⟨_,_,Z,x,_⟩:=s.foot i b w;rw[v]at x;cases x
theorem AH{n:Nat}(h:n<=1000):n<=a_:=mn (QG h)
theorem Nc{K:ax}:PL K (λxs H Q=>xs.length<=a_/\∀p,H p=ae->Q (.ref p) (upd H p (.tup xs))) bP:=λF H xs h Q pv f e q=>by
 unfold bP at e;split at e
 .cases e;refine⟨by rw[f.len];exact AH (by assumption),λp g=>q _ F _ (Al.new0 g) ⟨p,h,rfl,upd_same,(Al.new0 g).reps f⟩⟩
 .cases e
theorem xy{K:ax}{F:ag->Prop}{H:Hp}{l:ag}{xs:List PV}{f:List V}(h:H l=ae)(g:Reps K H F xs f):fO K (upd H l (.lst f)) F (.lst xs) l (λb=>b=l):=⟨⟨f,upd_same,(Al.new0 h).reps g⟩,λb=>qR⟩
theorem xK{F:ag->Prop}{H:Hp}{l:ag}{o:HO}(g:H l=ae)(i:∀a,F a->∃o,H a=aa o)(h:eE o):∀b,b=l->H b=ae/\¬F b/\∃f,(upd H l o) b=aa f/\eE f:=λb z=>by
 subst z;exact⟨g,(λw=>by obtain⟨o,q⟩:=i b w;rw[g]at q;cases q),o,upd_same,h⟩
theorem RT{K:ax}:l0 K (λxs H Q=>xs.length<=a_/\∀p,H p=ae->Q (.ref p) (upd H p (.lst xs))) fN:=λF H xs i Q l h g e q=>by
 unfold fN at e;split at e
 .cases e;exact⟨by rw[g.len];exact AH (by assumption),λp f=>q p F _ _ (Al.new0 f) (xy f g) (xK f h trivial)⟩
 .cases e
theorem cX{x1}(h:DA X E es j):DE X E (.Tuple es x1 pos) (dL bP j):=λF S i g H Q f q=>bU (LD gL) (Bk Nc h f q)
theorem uo(h:DA X E es j):DN X E (.List es pos) (dL fN j):=λF S i g H Q f q=>bU (Sj gL) (uL RT h f q)
theorem nB(h:DA X E es j):DE X E (.List es pos) (dF (dL fN j)):=(uo h).de
variable{x:Str}{p:Pos}{m T:String}{r:List V->Hp->VK->Prop}{f:List PV->Option PV}{A:List PV->Option PO}
theorem cV(u:eM X (.builtin m) r)(l:PL X.K r f)(o:X.mg x=ae)(i:eF x=aa (.builtin m))(v:DA X E (e::es) j)(s:Gl X x:=by rfl)(n:x≠"__name__":=by decide)(h:(x==("__debug__":Str))=aj:=by decide)(t:aM (e::es) X.env=(aj,aK e X.env)::aM es X.env:=by rfl) (w:(cZ pos (aM es X.env)).any (·.1)=aj:=by rfl):DE X E (.Call (.Name x p) (e::es) [] pos) (dL f j):=λF S z y H Q g q=>bU (o4 u s o i gL n h t w) (Bk l v g q)
theorem uk(u:eM X (.builtin m) r)(l:l0 X.K r A)(o:X.mg x=ae)(i:eF x=aa (.builtin m))(v:DA X E (e::es) j)(s:Gl X x:=by rfl)(n:x≠"__name__":=by decide)(h:(x==("__debug__":Str))=aj:=by decide)(t:aM (e::es) X.env=(aj,aK e X.env)::aM es X.env:=by rfl) (w:(cZ pos (aM es X.env)).any (·.1)=aj:=by rfl):DN X E (.Call (.Name x p) (e::es) [] pos) (dL A j):=λF S z y H Q g q=>bU (o4 u s o i gL n h t w) (uL l v g q)
theorem yU(u:eM X (.type T) r)(l:PL X.K r f)(o:X.mg x=ae)(i:eF x=aa (.type T))(v:DA X E (e::es) j)(s:Gl X x:=by rfl)(n:x≠"__name__":=by decide)(h:(x==("__debug__":Str))=aj:=by decide)(t:aM (e::es) X.env=(aj,aK e X.env)::aM es X.env:=by rfl) (w:(cZ pos (aM es X.env)).any (·.1)=aj:=by rfl):DE X E (.Call (.Name x p) (e::es) [] pos) (dL f j):=λF S z y H Q g q=>bU (yq u s o i gL n h t w) (Bk l v g q)
theorem FS(u:eM X (.type T) r)(l:l0 X.K r A)(o:X.mg x=ae)(i:eF x=aa (.type T))(v:DA X E (e::es) j)(s:Gl X x:=by rfl)(n:x≠"__name__":=by decide)(h:(x==("__debug__":Str))=aj:=by decide)(t:aM (e::es) X.env=(aj,aK e X.env)::aM es X.env:=by rfl) (w:(cZ pos (aM es X.env)).any (·.1)=aj:=by rfl):DN X E (.Call (.Name x p) (e::es) [] pos) (dL A j):=λF S z y H Q g q=>bU (yq u s o i gL n h t w) (uL l v g q)
theorem iA{r:R2}{f:PV->PV->Option PV}(l:mS X r)(n:P2 X.K r f)(q:DE X E a B)(o:DE X E b db)(i:Gz b:=by exact λ_ _=>rfl):DE X E (.Subscript a b pos) (d2 f B db):=λF S t s H Q g h=>bU (Nz l bD bD i) (yH n q o g h)
def Bg(X:Cx)(e:Option az):TO:=λg H Q=>Bx (∀h s,Inv X h g H s->ar (aw X.prog X.w) X.A (evalPart e X.env) (λu l=>∃o i,Inv X h g i l/\nX u o/\Q o i) X.xe s)
theorem zT{o:Option az}:L2.PO X o (Bg X o):=λg s _ _ _ I h=>h.run g s I
theorem HI{o:Option az}{t:TO}(h:L2.PO X o t){g:St}{H:Hp}{Q:Option Int->Hp->Prop}(q:t g H Q):Bg X o g H Q:=⟨λi s I=>h i s g H Q I q⟩
def DO(X:Cx)(E:XK)(e:Option az)(d:ak->R (Option Int)):Prop:=∀F S h g H Q,aX X.K F S h g H->Ok X.K E g F S H (d h) (λo _ _ _ i=>Q o i)->Bg X e g H Q
def bZ:ak->R (Option Int):=λε=>.ok ae ε
def nG:PV->Option Int
 |.int i=>aa i
 |_=>ae
def bx(d:ak->R PV):ak->R (Option Int):=λε=>(d ε).bind λx ε1=>aF ((nG x).map aa) ε1
theorem iG:DO X E ae bZ:=λF S l i H Q g h=>HI Np (h F S H g (bz.refl ..))
theorem fL(u:DE X E e d):DO X E (aa e) (bx d):=λF S o l H Q s h=>by
 refine HI (Pa bD) (u F S o l H _ s ((Ok.bind h).imp λx n z w y t C g v q=>?_));cases x <;> first|exact(show False from g).elim|skip
 rename_i i;exact⟨i,q,g z w y t (bz.refl ..)⟩
def bR{i:Type}(f:PV->Option Int->Option Int->Option i)(d:ak->R PV)(o n:ak->R (Option Int)):ak->R i:=λε=>(d ε).bind λx ε1=>(o ε1).bind λl h=>(n h).bind λu g=>aF (f x l u) g
def Gk(K:ax)(r:V->Option Int->Option Int->Hp->VK->Prop)(f:PV->Option Int->Option Int->Option PV):Prop:=∀(F:ag->Prop) (H:Hp) (x:PV) (h i:Option Int) (v:V) (Q:VK) (pv:PV),a8 K H F x v->f x h i=aa pv->(∀w l g,Al F l H g->a8 K g l pv w->Q w g)->r v h i H Q
theorem g_{r:V->Option Int->Option Int->Hp->VK->Prop}{f:PV->Option Int->Option Int->Option PV}{z C:Option az}{I G:ak->R (Option Int)}{O:Pos}(W:ng X r)(Y:Gk X.K r f)(he:DE X E e d)(Z:DO X E z I)(P:DO X E C G):DE X E (.Subscript e (.Slice z C ae O) pos) (bR f d I G):=λF S K i H Q M h=>by
 refine bU (Oj W bD zT zT) (he F S K i H _ M ((Ok.bind h).imp λx o F1 S1 H1 y g1 h1 v L=>?_));refine Z F1 S1 o i H1 _ y ((Ok.bind h1).imp λl n F2 S2 H2 t g2 h2=>?_);refine P F2 S2 n i H2 _ t ((Ok.bind h2).imp λu J F3 S3 H3 N g3 g=>?_);cases s:f x l u with
 |none=>rw[s]at g;exact g.elim
 |some pv=>rw[s]at g;exact Y F3 H3 x l u v Q pv ((L.grow g2 y.fit).grow g3 t.fit) s λw F' H' al q=>g F' S3 H' (N.al al) al.grow w q
end
inductive aP where
 |next|ret (s:Slot)|brk|cont
def ny(K:ax)(H:Hp)(F:ag->Prop)(s:Slot)(v:V)(c:ag->Prop):Prop:=match s with
 |.val pv=>a8 K H F pv v/\∀b,¬c b
 |.own d=>∃a,v=.ref a/\fO K H F d a c
 |.none=>False
def ju(b:List Nat)(c a:St):Prop:=∀i∈b,a[i]?=c[i]?
theorem ju.refl(a:List Nat)(b:St):ju a b b:=λ_ _=>rfl
theorem ju.trans{c:List Nat}{g f d:St}(a:ju c g f)(b:ju c f d):ju c g d:=λi h=>(b i h).trans (a i h)
theorem ju.set{a:List Nat}{b:St}{i:Nat}{x:Option V}(h:i∉a):ju a b (b.set i x):=λj c=>by rw[eU (by rintro rfl;exact h c)]
def yJ(f:ag->Prop)(c:Nat->ag->Prop)(d:Hp)(a:ag->Prop):Prop:=∀b,a b->¬f b/\¬U c b/\∃o,d b=aa o/\eE o
def hU(K:ax)(E:XK)(i:List Nat)(j:St)(F:ag->Prop)(S:Nat->ag->Prop)(H:Hp)(r:R aP)(D:lu):Prop:=match r with
 |.ok .next f=>∀g h a d,aX K g h f a d->bz (U S) (U h) F g H d->ju i j a->D.nx a d
 |.ok .brk f=>∀g h a d,aX K g h f a d->bz (U S) (U h) F g H d->ju i j a->D.bk a d
 |.ok .cont f=>∀g h a d,aX K g h f a d->bz (U S) (U h) F g H d->ju i j a->D.ct a d
 |.ok (.ret s) f=>∀v g h a d l,aX K g h f a d->bz (U S) (λb=>U h b\/l b) F g H d->ju i j a->ny K d g s v l->yJ g h d l->D.rt v d
 |.er c f=>∀x g h a d,aX K g h f a d->bz (U S) (U h) F g H d->ju i j a->E c x d
 |.no=>False
def DS(X:Cx)(E:XK)(b:List Nat)(f:ba)(d:ak->R aP):Prop:=∀F S c a H D,aX X.K F S c a H->hU X.K E b a F S H (d c) D->wpS X f D a H
def gq(X:Cx)(E:XK)(b:List Nat)(f:List ba)(d:ak->R aP):Prop:=∀F S c a H D,aX X.K F S c a H->hU X.K E b a F S H (d c) D->qb X f D a H
section
variable{K:ax}{E:XK}{b:List Nat}{d i:St}{F m:ag->Prop}{S j:Nat->ag->Prop}{H l:Hp}{D:lu}
theorem hU.from{r:R aP}(h:hU K E b d F S H r D)(g:bz (U S) (U j) F m H l)(p:ju b d i):hU K E b i m j l r D:=by
 cases r with
 |no=>exact h
 |er c w=>exact λx u q a t n g' o=>h x u q a t n (g.trans g') (p.trans o)
 |ok f w=>
  cases f with
  |next=>exact λu q a t n g' o=>h u q a t n (g.trans g') (p.trans o)
  |brk=>exact λu q a t n g' o=>h u q a t n (g.trans g') (p.trans o)
  |cont=>exact λu q a t n g' o=>h u q a t n (g.trans g') (p.trans o)
  |ret s=>exact λv u q a t y n g' o=>h v u q a t y n (g.trans g') (p.trans o)
theorem hU.bindE{o:Type}{r:R o}{k:o->ak->R aP}(h:hU K E b d F S H (r.bind k) D):Ok K E d F S H r (λa f m j l=>hU K E b d m j l (k a f) D):=by
 cases r with
 |no=>exact h
 |er c g=>exact λx t q s p n=>h x t q d s p n (ju.refl _ _)
 |ok a g=>exact λt q s p n=>h.from n (ju.refl _ _)
end
section
variable{X:Cx}{E:XK}{pin:List Nat}{l:ba}{rest:List ba}{d d1 d2:ak->R aP}{e:az}{de:ak->R PV}{pos:Pos}
def d8:ak->R aP:=λa=>.ok .next a
theorem iC:gq X E pin [] d8:=λF S c a H D b h=>BC Lm (h F S a H b (bz.refl ..) (ju.refl _ _))
def aS(d1 d2:ak->R aP):ak->R aP:=λa=>match d1 a with
 |.ok .next ε1=>d2 ε1
 |r=>r
theorem bq(t:DS X E pin l d1)(q:gq X E pin rest d2):gq X E pin (l::rest) (aS d1 d2):=λF S i m H D n h=>by
 refine BC (J8 Fb sI) (t F S i m H {D with nx:=qb X rest D} n ?_);unfold aS at h;split at h
 .rename_i g v;rw[v];exact λy w b x o u p=>q y w g b x D o (h.from u p)
 .rename_i r j;generalize d1 i=r1 at h j;cases r1 with
  |no=>exact h
  |er c a=>exact h
  |ok f a=>
   cases f with
   |next=>exact absurd rfl (j a)
   |brk=>exact h
   |cont=>exact h
   |ret s=>exact h
theorem bt(f:DS X E pin l d1):gq X E pin [l] d1:=λF S b a H D c h=>BC (Lh Fb) (f F S b a H D c h)
def vp(f:aP):ak->R aP:=λa=>.ok f a
def BR(d:ak->R PV):ak->R aP:=λb=>(d b).bind λ_ a=>.ok .next a
def ce(d:ak->R PV):ak->R aP:=λa=>(d a).bind λx ε1=>.ok (.ret (.val x)) ε1
theorem bz.cup{O c F i:ag->Prop}{H f:Hp}(g:bz O c F i H f):bz O (λb=>c b\/False) F i H f:=⟨g.fro,g.keep,g.there,g.fnew,λa h=>h.elim (g.onew a) im⟩
theorem dE(j:DE X E e de):DS X E pin (.Return (aa e) pos) (ce de):=λF S c a H D g h=>je (Aj bD) (j F S c a H _ g (h.bindE.imp λx b p n o i q m v f=>m v p n a o (λ_=>False) i (bz.refl ..).cup (ju.refl _ _) ⟨f,λ_ z=>z⟩ λ_ z=>z.elim))
theorem Sk:DS X E pin (.Return ae pos) (vp (.ret (.val .non))):=λF S c a H D b h=>je S7 (h _ F S a H (λ_=>False) b (bz.refl ..).cup (ju.refl _ _) ⟨rfl,λ_ z=>z⟩ λ_ z=>z.elim)
def kU(i:Nat):ak->R aP:=λa=>match a[i]? with
 |some (.own b)=>.ok (.ret (.own b)) (a.set i .none)
 |_=>.no
theorem aX.drop{K:ax}{F:ag->Prop}{S:Nat->ag->Prop}{c:ak}{o:St}{H:Hp}(r:aX K F S c o H)(i:Nat):aX K F (λj b=>S j b/\j≠i) (c.set i .none) o H:=by
 have no:∀{j s},(c.set i .none)[j]?=aa s->s≠.none->j≠i/\c[j]?=aa s:=λ{j s} e t=>by
  by_cases f:i=j
  .subst f;by_cases u:i<c.length
   .rw[gB u]at e;exact absurd (dQ e).symm t
   .rw[tN (by rw[gR];lia)]at e;cases e
  .rw[eU f]at e;exact⟨dY f,e⟩
 refine⟨by rw[gR];exact r.len,r.ex,λj pv e=>r.val j pv (no e (by intro z;cases z)).2,λj g e=>?_,λj b h=>?_,λj k b n m=>r.dist j k b n.1 m.1⟩
 .obtain⟨f,e⟩:=no e (by intro z;cases z);obtain⟨a,n,m⟩:=r.own j g e;have v:(λb=>S j b/\j≠i)=S j:=by funext b;simp[f]
  exact⟨a,n,by rw[v];exact m⟩
 .obtain⟨⟨g,q⟩,p⟩:=r.foot j b h.1;exact⟨⟨g,by rw[eU (dY h.2)];exact q⟩,p⟩
theorem xY(i:Nat){x:Str}{p:Pos}(s:X.N[i]?=aa x:=by rfl)(n:ef X.env.scope x:=by first|exact Or.inl rfl|exact Or.inr (Or.inl rfl)|exact Or.inr (Or.inr rfl))(r:(x==("__debug__":Str))=aj:=by decide)(u:(x==("__classdict__":Str))=aj:=by decide):DS X E pin (.Return (aa (.Name x p)) pos) (kU i):=λF S v f H D c h=>by
 unfold kU at h;split at h
 .rename_i g e;obtain⟨a,t,m⟩:=c.own i g e;refine je (Aj (fj s n r u)) ⟨_,t,h _ F (λj b=>S j b/\j≠i) f H (S i) (c.drop i) ⟨λ_ z=>z,λ_ _ z _=>z,λ_ o z=>⟨o,z⟩,λ_ z=>.inl z,λb z=>?_⟩ (ju.refl _ _) ⟨a,rfl,m⟩ λb z=>?_⟩
  .rcases z with⟨j,z,_⟩|z
   .exact .inl ⟨j,z⟩
   .exact .inl ⟨i,z⟩
  .exact⟨(c.foot i b z).2.1,λ⟨j,w,q⟩=>q (c.dist j i b w z),(c.foot i b z).2.2⟩
 .exact h.elim
theorem aX.set{K:ax}{F:ag->Prop}{S:Nat->ag->Prop}{f:ak}{m:St}{H:Hp}{i:Nat}{pv:PV}{v:V}(r:aX K F S f m H)(h:a8 K H F pv v):aX K F (λj b=>S j b/\j≠i) (f.set i (.val pv)) (m.set i (aa v)) H:=by
 have s:=r.drop i;have len:(f.set i (.val pv)).length=(m.set i (aa v)).length:=by rw[gR,gR];exact r.len
 refine⟨len,r.ex,λj p e=>?_,λj n e=>?_,λj b h=>?_,s.dist⟩
 .by_cases c:i=j
  .subst c;have g:i<f.length:=by have:=(dR.mp e).1;rw[gR]at this;exact this
   rw[gB g]at e;cases e;exact⟨v,gB (by rw[<-r.len];exact g),h⟩
  .rw[eU c]at e;obtain⟨w,q,o⟩:=r.val j p e;exact⟨w,by rw[eU c];exact q,o⟩
 .have c:i≠j:=by
   rintro rfl;have g:i<f.length:=by have:=(dR.mp e).1;rw[gR]at this;exact this
   rw[gB g]at e;cases e
  rw[eU c]at e;obtain⟨a,q,o⟩:=r.own j n e;have x:(λb=>S j b/\j≠i)=S j:=by funext b;simp[dY c]
  exact⟨a,by rw[eU c];exact q,by rw[x];exact o⟩
 .obtain⟨⟨n,t⟩,u⟩:=s.foot j b h;refine⟨⟨n,?_⟩,u⟩;rw[eU (dY h.2)]at t ⊢;exact t
theorem bz.less{S:Nat->ag->Prop}{F:ag->Prop}{H:Hp}(i:Nat):bz (U S) (U λj b=>S j b/\j≠i) F F H H:=⟨λ_ z=>z,λ_ _ z _=>z,λ_ o z=>⟨o,z⟩,λ_ z=>.inl z,λb ⟨j,z⟩=>.inl ⟨j,z.1⟩⟩
theorem aX.setOwn{K:ax}{F:ag->Prop}{S:Nat->ag->Prop}{q:ak}{v:St}{H:Hp}{i:Nat}{s:PO}{a:ag}{n:ag->Prop}(r:aX K F S q v H)(o:i<q.length)(h:fO K H F s a n)(t:yJ F S H n):aX K F (λj b=>(S j b/\j≠i)\/(j=i/\n b)) (q.set i (.own s)) (v.set i (aa (.ref a))) H:=by
 have A:=r.drop i;refine⟨by rw[gR,gR];exact r.len,r.ex,λj p e=>?_,λj g e=>?_,λj b h=>?_,λj k b f c=>?_⟩
 .have m:i≠j:=by rintro rfl;rw[gB o]at e;cases e
  rw[eU m]at e;obtain⟨w,f,c⟩:=r.val j p e;exact⟨w,by rw[eU m];exact f,c⟩
 .by_cases m:i=j
  .subst m;rw[gB o]at e;cases e;have u:(λb=>(S i b/\i≠i)\/(i=i/\n b))=n:=by funext b;simp
   exact⟨a,gB (by rw[<-r.len];exact o),by rw[u];exact h⟩
  .rw[eU m]at e;obtain⟨C,f,c⟩:=r.own j g e;have u:(λb=>(S j b/\j≠i)\/(j=i/\n b))=S j:=by funext b;simp[dY m]
   exact⟨C,by rw[eU m];exact f,by rw[u];exact c⟩
 .rcases h with h|⟨rfl,h⟩
  .obtain⟨⟨g,x⟩,B⟩:=A.foot j b h;refine⟨⟨g,?_⟩,B⟩;rw[eU (dY h.2)]at x ⊢;exact x
  .obtain⟨z,D,y⟩:=t b h;exact⟨⟨s,gB o⟩,z,y⟩
 .rcases f with f|⟨rfl,f⟩ <;> rcases c with c|⟨rfl,c⟩
  .exact r.dist j k b f.1 c.1
  .exact absurd ⟨j,f.1⟩ (t b c).2.1
  .exact absurd ⟨k,c.1⟩ (t b f).2.1
  .rfl
def cu(i:Nat)(d:ak->R PV):ak->R aP:=λa=>(d a).bind λx ε1=>.ok .next (ε1.set i (.val x))
theorem gv(i:Nat){x:Str}{p:Pos}(t:X.N.Nodup)(s:DE X E e de)(o:i∉pin:=by decide)(q:X.N[i]?=aa x:=by rfl)(m:Loc X.env.scope x:=by first|exact Or.inl rfl|exact Or.inr rfl)(n:kw e (aa (.Name x p)) pos.line X.env=pure aj:=by rfl)(r:X.fn x=ah\/X.env.scope.names.lookup x=aa .local:=by first|exact .inl rfl|exact .inr rfl):DS X E pin (.Assign [.Name x p] e pos) (cu i de):=λF S c a H D g h=>je (HB t q m bD n r) (s F S c a H _ g (h.bindE.imp λx b y A w j z u v f=>u y _ _ w (j.set f) (bz.less i) (ju.set o)))
def eR(i:Nat)(d:ak->R PO):ak->R aP:=λa=>(d a).bind λx ε1=>if i<ε1.length then .ok .next (ε1.set i (.own x))else .no
theorem mh(i:Nat){x:Str}{p:Pos}{dn:ak->R PO}(J:X.N.Nodup)(I:DN X E e dn)(B:i∉pin:=by decide)(C:X.N[i]?=aa x:=by rfl)(y:Loc X.env.scope x:=by first|exact Or.inl rfl|exact Or.inr rfl)(A:kw e (aa (.Name x p)) pos.line X.env=pure aj:=by rfl)(G:X.fn x=ah\/X.env.scope.names.lookup x=aa .local:=by first|exact .inl rfl|exact .inr rfl):DS X E pin (.Assign [.Name x p] e pos) (eR i dn):=λF S q o H D t h=>by
 refine je (HB J C y bD A G) (I F S q o H _ t ?_);unfold eR at h;cases n:dn q with
 |no=>rw[n]at h;exact h.elim
 |er c s=>rw[n]at h;exact λx P L N v K=>h x P L o N v K (ju.refl _ _)
 |ok Q g=>
  rw[n]at h;simp only[R.bind_ok]at h;intro O W M u f a T w r;by_cases m:i<g.length
  .rw[if_pos m]at h;refine h O _ _ M (u.setOwn m w λb z=>(r b z).2) ⟨f.fro,f.keep,f.there,f.fnew,λb ⟨j,z⟩=>?_⟩ (ju.set B);rcases z with z|⟨_,z⟩
   .exact f.onew b ⟨j,z.1⟩
   .exact .inr (r b z).1
  .rw[if_neg m]at h;exact h.elim
theorem iL{c:az}{a b:List ba}{t:ak->R Bool}(r:DT X E c t)(u:gq X E pin a d1)(s:gq X E pin b d2):DS X E pin (.If c a b pos) (cS t d1 d2):=λF S p g H D q h=>by
 refine je (Sx qd sI sI) (r F S p g H _ q (h.bindE.imp λk f o m n i v j=>?_));cases k with
 |true=>exact qh (u o m f g n D i j)
 |false=>exact pV (s o m f g n D i j)
def AJ:ak->R aP:=λ_=>.no
theorem HA{a:List ba}:gq X E pin a AJ:=λ_ _ _ _ _ _ _ h=>h.elim
def dD(r:R aP):R aP:=match r with
 |.er _ _=>.no
 |r=>r
theorem l6(h:DS X.nox E0 pin l d):DS X E pin l (λa=>dD (d a)):=λF S a b H D i q=>Bx.mk λm s I=>by
 have q:hU X.K E pin b F S H (dD (d a)) D:=q;have j:hU X.K E0 pin b F S H (d a) D:=by
  cases e:d a with
  |no=>rw[e]at q;exact q
  |er c g=>rw[e]at q;exact q.elim
  |ok f g=>rw[e]at q;cases f <;> exact q
 exact ez ((h F S a b H D i j).run m s (I.wish _)) (λ_ _ z=>z.unwish) λ_ _ z=>z.elim
def sR(X:Cx)(f a:az):TI:=λb H h=>Bx (∀c s,Inv X c b H s->ar (aw X.prog X.w) X.A (aK a X.env) (λv g=>ar (aw X.prog X.w) X.A (mq v) (ue X c b f h) X.xe g) X.xe s)
theorem B8{b a:az}:PI X b a (sR X b a):=λc s _ _ _ I h=>h.run c s I
theorem Fc{f a:az}{t:TI}(h:PI X f a t){b:St}{H:Hp}{c:It->Hp->Prop}(q:t b H c):sR X f a b H c:=⟨λg s I=>h g s b H c I q⟩
def DI(X:Cx)(E:XK)(p a:az)(d:ak->R (List PV)):Prop:=∀F S ε c H m,aX X.K F S ε c H ->
 Ok X.K E c F S H (d ε) (λg _ o q i=>∀J f n,Reps X.K i o g f->f.length<=a_->Walk J f n->(∀h j b,bz (U q) (U h) o j i b->n b)->m J i)->sR X p a c H m
def ii(i:Nat)(c:ak->R aP):List PV->ak->R aP
 |[],b=>.ok .next b
 |x::xs,b=>match c (b.set i (.val x))with
  |.ok .next a=>ii i c xs a
  |.ok .cont a=>ii i c xs a
  |.ok .brk a=>.ok .next a
  |r=>r
def d7(i:Nat)(a:ak->R (List PV))(db:ak->R aP):ak->R aP:=λε=>(a ε).bind λxs ε1=>ii i db xs ε1
theorem m_(i:Nat){x:Str}{p:Pos}{o:az}{r:List ba}{Z:ak->R (List PV)}{B:ak->R aP}(N:Ce (aw X.prog X.w) X.A X.env X.xe)(hc:X.calm=ah)(hN:X.N.Nodup)(hi:DI X E (.Name x p) o Z)(hb:gq X E pin r B)(hp:i∉pin:=by decide) (z:X.N[i]?=aa x:=by rfl) (O:Loc X.env.scope x:=by first|exact Or.inl rfl|exact Or.inr rfl) (hs:∀x,nV o X.env x=pure x:=by intro _;rfl)(hf:X.fn x=ah\/X.env.scope.names.lookup x=aa .local:=by first|exact .inl rfl|exact .inr rfl):DS X E pin (.For (.Name x p) o r [] pos) (d7 i Z B):=λF S ε σ H D rl h=>by
 refine je (Oo N hc B8 (Ih hN z O hf) sI hs) (hi F S ε σ H _ rl (h.bindE.imp λxs G F1 S1 H1 Y g1 h1 J vs RR W hz hw keep=>?_));refine Qz hw (λk a n=>∃t u m,aX X.K t u m a n/\bz (U S1) (U u) F1 t H1 n/\hU X.K E pin a t u n (ii i B (xs.drop k) m) D) ⟨F1,S1,G,Y,bz.refl ..,h1⟩ (λk a n _ ⟨t,u,m,_,g,_⟩=>keep u t n g) ?_ ?_
 .rintro k v a n hv ⟨t,u,m,L,A,q⟩;obtain⟨x,z,rx⟩:=W.back hv;have hk:k<xs.length:=(dR.mp z).1;have ed:xs.drop k=x::xs.drop (k+1):=by rw[zr hk];congr 1;exact(dR.mp z).2
  rw[ed]at q;have I:=rx.grow A Y.fit;have r2:=L.set (i:=i) I;have P:bz (U u) (U λj b=>u j b/\j≠i) t t n n:=bz.less i;show qb X r _ (a.set i (aa v)) n;refine hb t _ _ _ n _ r2 ?_;unfold ii at q;have q:=q.from P (ju.set (x:=aa v) hp);cases e:B (m.set i (.val x))with
  |no=>rw[e]at q;exact q
  |er c w=>rw[e]at q;exact q
  |ok f w=>
   rw[e]at q;cases f with
   |next=>exact λT Q C H3 K y M=>⟨T,Q,w,K,(A.trans P).trans y,q.from y M⟩
   |cont=>exact λT Q C H3 K y M=>⟨T,Q,w,K,(A.trans P).trans y,q.from y M⟩
   |brk=>exact q
   |ret s=>exact q
 .rintro a n ⟨t,u,m,L,A,q⟩;have O:vs.length=xs.length:=W.len;rw[O,List.drop_length]at q;exact q t u a n L (bz.refl ..) (ju.refl _ _)
def gc(t:ak->R Bool)(b:ak->R aP):Nat->ak->R aP
 |0,_=>.no
 |n+1,ε=>(t ε).bind λk ε1=>match k with
  |false=>.ok .next ε1
  |true=>match b ε1 with
   |.ok .next a=>gc t b n a
   |.ok .cont a=>gc t b n a
   |.ok .brk a=>.ok .next a
   |r=>r
theorem F7{c:az}{n:List ba}{t:ak->R Bool}{j:ak->R aP}(P:ak->Nat)(G:Ce (aw X.prog X.w) X.A X.env X.xe)(W:DT X E c t)(Y:gq X E pin n j):DS X E pin (.While c n [] pos) (λv=>gc t j (P v) v):=λF S v σ H D Q h=>by
 refine je (RV G qd sI) ⟨λm b u=>∃y x a,aX X.K y x a b u/\hU X.K E pin b y x u (gc t j m a) D,⟨P v,F,S,v,Q,h⟩,?_⟩;rintro m i H1 ⟨F1,Z,A,T,q⟩;cases m with
 |zero=>exact q.elim
 |succ m=>
  refine W F1 Z A i H1 _ T (q.bindE.imp λk p N K L O g2 g=>?_);cases k with
  |false=>exact pV (g N K i L O (bz.refl ..) (ju.refl _ _))
  |true=>
   refine qh ⟨λb u=>∃y x a,aX X.K y x a b u/\hU X.K E pin b y x u (gc t j m a) D,λb u w=>⟨m,mB m,w⟩,Y N K p i L _ O ?_⟩;have g:hU X.K E pin i N K L (match j p with
    |.ok .next a=>gc t j m a
    |.ok .cont a=>gc t j m a
    |.ok .brk a=>.ok .next a
    |r=>r) D:=g
   cases e:j p with
   |no=>rw[e]at g;exact g
   |er c o=>rw[e]at g;exact g
   |ok f o=>
    rw[e]at g;cases f with
    |next=>exact λM J z H3 B I C=>⟨M,J,o,B,g.from I C⟩
    |cont=>exact λM J z H3 B I C=>⟨M,J,o,B,g.from I C⟩
    |brk=>exact g
    |ret s=>exact g
end
def yz(K:ax)(E:XK)(i:List V)(F:ag->Prop)(S:Nat->ag->Prop)(H:Hp)(r:R Slot)(Q:VK):Prop:=match r with
 |.ok s h=>∀v d f a g,aX K d f h (i.map aa) a->bz (U S) (λb=>U f b\/g b) F d H a->ny K a d s v g->yJ d f a g->(∀b,g b->H b=ae)->Q v a
 |.er c h=>∀x d f a,aX K d f h (i.map aa) a->bz (U S) (U f) F d H a->E c x a
 |.no=>False
def bM(K:ax)(g:ak->R Slot):Sp:=λa H Q E=>∃F S b,aX K F S b (a.map aa) H/\yz K E a F S H (g b) Q
structure cU(CX:gu)(P:aQ)(w:aE)(K:ax)(mg:Str->Option ai)(base:aB)(x:Str)(k:Nat)(ps:List Str)(sp:Sp):Prop where
 ex:∃f fd,mg x=aa (.ref f)/\lp P w K mg base CX k f fd ps sp/\Binds K fd ps []/\qE K (.ref f)=ah
def back:ak->ak->Option ak
 |[],_=>aa []
 |.own _::a,.own c::b=>(back a b).map (.own c::·)
 |.own _::_,_=>ae
 |s::a,_::b=>(back a b).map (s::·)
 |_::_,[]=>ae
theorem xJ:∀{a c b:ak},back a c=aa b->b.length=a.length/\∀(i:Nat) (s:Slot),b[i]?=aa s->(∃g f,a[i]?=aa (.own g)/\c[i]?=aa (.own f)/\s=.own f)\/(a[i]?=aa s/\∀g,s≠.own g)
 |[],_,b,h=>by cases h;exact⟨rfl,λi s e=>by simp at e⟩
 |.own g::a,.own f::c,b,h=>by
  unfold back at h;cases e:back a c with
  |none=>rw[e]at h;cases h
  |some r=>
   rw[e]at h;cases h;obtain⟨l,q⟩:=xJ e;refine⟨by simp[l],λi s d=>?_⟩;cases i with
   |zero=>simp at d;subst d;exact .inl ⟨g,f,rfl,rfl,rfl⟩
   |succ i=>simpa using q i s (by simpa using d)
 |.own g::a,.none::c,b,h=>by cases h
 |.own g::a,.val _::c,b,h=>by cases h
 |.own g::a,[],b,h=>by cases h
 |.none::a,[],b,h=>by cases h
 |.val _::a,[],b,h=>by cases h
 |.none::a,x::c,b,h=>by
  have h:(back a c).map (Slot.none::·)=aa b:=by unfold back at h;cases x <;> exact h
  cases e:back a c with
  |none=>rw[e]at h;cases h
  |some r=>
   rw[e]at h;cases h;obtain⟨l,q⟩:=xJ e;refine⟨by simp[l],λi s d=>?_⟩;cases i with
   |zero=>simp at d;subst d;exact .inr ⟨rfl,λ_ z=>by cases z⟩
   |succ i=>simpa using q i s (by simpa using d)
 |.val pv::a,x::c,b,h=>by
  have h:(back a c).map (Slot.val pv::·)=aa b:=by unfold back at h;cases x <;> exact h
  cases e:back a c with
  |none=>rw[e]at h;cases h
  |some r=>
   rw[e]at h;cases h;obtain⟨l,q⟩:=xJ e;refine⟨by simp[l],λi s d=>?_⟩;cases i with
   |zero=>simp at d;subst d;exact .inr ⟨rfl,λ_ z=>by cases z⟩
   |succ i=>simpa using q i s (by simpa using d)
def bu(n:Nat)(d:ak->R aP):ak->R Slot:=λf=>match d (f++bO n .none)with
 |.ok (.ret r) a=>(aF (back f a) []).bind λb _=>.ok r b
 |.ok .next a=>(aF (back f a) []).bind λb _=>.ok (.val .non) b
 |.er c a=>(aF (back f a) []).bind λb _=>.er c b
 |_=>.no
section
variable{K:ax}{F u:ag->Prop}{S o:Nat->ag->Prop}{c l m:ak}{f:St}{H t:Hp}{d:List V}
theorem aX.start(r:aX K F S c (d.map aa) H)(n:Nat):aX K F S (c++bO n .none) (d.map aa++bO n ae) H:=by
 have y:c.length=(d.map aa).length:=r.len;have no:∀{j:Nat}{s:Slot},(c++bO n Slot.none)[j]?=aa s->s≠.none->c[j]?=aa s:=λ{j s} e x=>by
  by_cases A:j<c.length
  .rw[jD A]at e;exact e
  .rw[qF ∅,List.getElem?_replicate]at e;split at e
   .exact absurd (dQ e).symm x
   .cases e
 have p:∀{j:Nat}{v:Option V},(d.map aa)[j]?=aa v->(d.map aa++bO n ae)[j]?=aa v:=λ{j v} e=>by rw[jD (dR.mp e).1];exact e
 refine⟨by simp[y],r.ex,λj pv e=>?_,λj a e=>?_,λj b h=>?_,r.dist⟩
 .obtain⟨v,i,g⟩:=r.val j pv (no e (by intro z;cases z));exact⟨v,p i,g⟩
 .obtain⟨v,i,g⟩:=r.own j a (no e (by intro z;cases z));exact⟨v,p i,g⟩
 .obtain⟨⟨a,q⟩,w⟩:=r.foot j b h;exact⟨⟨a,by rw[jD (dR.mp q).1];exact q⟩,w⟩
theorem Fe{i:PO}{a:ag}{n:ag->Prop}(h:fO K H F i a n)(j:fk i=ah):∀b,n b↔b=a:=by
 cases i with
 |lst xs=>exact h.2
 |dK g=>exact h.2
 |lls p=>cases j
 |ins C fs=>exact h.2
 |dT g=>exact h.2
 |dN g=>exact h.2
 |inl C fs y xs=>cases j
theorem Nr{g:PO}{a:ag}{i:ag->Prop}(h:fO K H F g a i):i a:=by
 cases g with
 |lst xs=>exact(h.2 a).mpr rfl
 |dK b=>exact(h.2 a).mpr rfl
 |lls j=>obtain⟨n,_,_,_,_,w⟩:=h;exact(w a).mpr (.inl rfl)
 |ins C fs=>exact(h.2 a).mpr rfl
 |dT b=>exact(h.2 a).mpr rfl
 |dN b=>exact(h.2 a).mpr rfl
 |inl C fs y xs=>obtain⟨_,_,_,_,_,_,_,_,_,_,w⟩:=h;exact(w a).mpr (.inl rfl)
theorem aX.back{X:ag->Prop}{C:List Nat}{n:Nat}(B:aX K F S c (d.map aa) H)(r:aX K u o l f t)(g:bz (U S) X F u H t)(p:ju C (d.map aa++bO n ae) f)(P:∀(i:Nat) (s:PO),c[i]?=aa (.own s)->i∈C)(Q:back c l=aa m):∃A,aX K u A m (d.map aa) t/\(∀b,U A b->U o b)/\((∀(i:Nat) (s:PO),c[i]?=aa (.own s)->fk s=ah)->∀b,U S b->U A b):=by
 obtain⟨L,E⟩:=xJ Q;have inj:∀(i:Nat) (s:PO),c[i]?=aa (.own s)->∃a,(d.map aa)[i]?=aa (aa (.ref a))/\f[i]?=aa (aa (.ref a))/\fO K H F s a (S i):=λi s e=>by obtain⟨a,x,y⟩:=B.own i s e;refine⟨a,x,?_,y⟩;rw[p i (P i s e),jD (dR.mp x).1];exact x
 have bk:∀(i:Nat) (s:PO),c[i]?=aa (.own s)->∃w,m[i]?=aa (.own w)/\l[i]?=aa (.own w):=λi s e=>by
  have M:i<m.length:=by rw[L];exact(dR.mp e).1
  rcases E i m[i] (by simp[M])with⟨p1,p2,q1,q2,q3⟩|⟨q1,q2⟩
  .exact⟨p2,by rw[eW M,q3],q2⟩
  .rw[e]at q1;exact absurd (dQ q1).symm (q2 s)
 refine⟨λi b=>o i b/\∃s,c[i]?=aa (.own s),⟨by rw[L];exact B.len,r.ex,λi pv e=>?_,λi s e=>?_,λi b h=>?_,λi j b x y=>r.dist i j b x.1 y.1⟩,λb ⟨i,h⟩=>⟨i,h.1⟩,λO b ⟨i,h⟩=>?_⟩
 .rcases E i _ e with⟨_,_,_,_,z⟩|⟨q1,_⟩
  .cases z
  .obtain⟨v,x,y⟩:=B.val i pv q1;exact⟨v,x,y.grow g B.fit⟩
 .rcases E i _ e with⟨p1,p2,q1,q2,q3⟩|⟨_,q2⟩
  .cases q3;obtain⟨a,x,y,N⟩:=inj i p1 q1;obtain⟨W,D,G⟩:=r.own i s q2;rw[y]at D;cases D;refine⟨a,x,?_⟩;have T:(λb=>o i b/\∃s,c[i]?=aa (.own s))=o i:=by funext b;exact propext ⟨λz=>z.1,λz=>⟨z,p1,q1⟩⟩
   rw[T];exact G
  .exact absurd rfl (q2 s)
 .obtain⟨s,q⟩:=h.2;obtain⟨w,J,I⟩:=bk i s q;exact⟨⟨w,J⟩,(r.foot i b h.1).2⟩
 .obtain⟨⟨s,q⟩,_⟩:=B.foot i b h;obtain⟨a,x,y,N⟩:=inj i s q;obtain⟨w,J,I⟩:=bk i s q;obtain⟨W,D,G⟩:=r.own i w I;rw[y]at D;cases D;have e:b=a:=(Fe N (O i s q) b).mp h;exact⟨i,e ▸ Nr G,s,q⟩
end
theorem yt{K:ax}{E:XK}{a:List V}{F:ag->Prop}{S:Nat->ag->Prop}{H:Hp}{r:R Slot}{Q:VK}(h:yz K E a F S H r Q):r≠.no:=λz=>by rw[z]at h;exact h
theorem Ec{K:ax}{g:ak->R Slot}{m:Nat}(f:∀a,g a≠.no->a.length=m):∀b H Q E,bM K g b H Q E->b.length=m:=λb H Q E ζ=>by obtain⟨F,S,a,c,ok⟩:=ζ;have:=f a (yt ok);have d:=c.len;rw[cM]at d;lia
theorem HK{X:Cx}{E:XK}{t:List ba}{N O:List Str}{s:List V}{H:Hp}{Q:VK}{n:Nat}{g:ak->R Slot}{d:ak->R aP}{y:List Nat}(hn:N.length=O.length+n)(bi:∀a,g a≠.no->a.length=O.length) (jH:∀a,g a≠.no->∀(i:Nat) po,a[i]?=aa (.own po)->i∈y) (Y:∀a p m,g a=.ok p m->(∃pv,p=.val pv)\/∀(i:Nat) po,a[i]?=aa (.own po)->fk po=ah) (hg:∀a,g a≠.no->bu n d a=g a)(hb:gq X E y t d) (ix:bM X.K g s H Q E):qb X t {nx:=λ_ l=>Q .non l,rt:=Q} (L2.start N s) H:=by
 obtain⟨F,S,a,K,ok⟩:=ix;have hl:=bi a (yt ok);have h2:=K.len;rw[cM]at h2;have es:L2.start N s=s.map aa++bO n ae:=by unfold L2.start;rw[show N.length-s.length=n by lia]
 rw[es];refine hb F S _ _ H _ (K.start n) ?_;have T:=jH a (yt ok);have Z:=hg a (yt ok);have J:=Y a;rw[<-Z]at ok J;unfold bu at ok J;generalize d (a++bO n .none)=r at ok J ⊢;cases r with
 |no=>exact ok
 |er c h=>
  intro x q B j l C f D;have ok:yz X.K E s F S H ((aF (back a h) []).bind λm _=>.er c m) Q:=ok;cases e:back a h with
  |none=>rw[e]at ok;exact ok.elim
  |some m=>rw[e]at ok;obtain⟨A,u,o,_⟩:=K.back C f D T e;exact ok x q A l u ⟨f.fro,f.keep,f.there,f.fnew,λb z=>f.onew b (o b z)⟩
 |ok fl h=>
  have G:∀(p:Slot),(∀m,back a h=aa m->(∃pv,p=.val pv)\/∀(i:Nat) po,a[i]?=aa (.own po)->fk po=ah)->yz X.K E s F S H ((aF (back a h) []).bind λm _=>.ok p m) Q->∀(v:V) q B j l I,aX X.K q B h j l->bz (U S) (λb=>U B b\/I b) F q H l->ju y (s.map aa++bO n ae) j->ny X.K l q p v I->yJ q B l I->Q v l:=by
   intro p M ok v q B j l I C f D P L;cases e:back a h with
   |none=>rw[e]at ok;exact ok.elim
   |some m=>
    rw[e]at ok;obtain⟨A,u,o,W⟩:=K.back C f D T e;refine ok v q A l I u ⟨f.fro,f.keep,f.there,f.fnew,λb z=>f.onew b (z.imp (o b) id)⟩ P (λb z=>⟨(L b z).1,λw=>(L b z).2.1 (o b w),(L b z).2.2⟩) λb z=>?_;rcases M m e with⟨pv,rfl⟩|hf
    .exact absurd z (P.2 b)
    rcases f.onew b (.inr z)with w|w
    .exact absurd (o b (W hf b w)) (L b z).2.1
    .exact w
  cases fl with
  |brk=>exact ok.elim
  |cont=>exact ok.elim
  |ret p=>exact G p (λm e=>J p m (by show(aF (back a h) []).bind _=_;rw[e];rfl)) ok
  |next=>exact λq B j l C f D=>G (.val .non) (λ_ _=>.inl ⟨_,rfl⟩) ok .non q B j l (λ_=>False) C ⟨f.fro,f.keep,f.there,f.fnew,λb z=>z.elim (f.onew b) im⟩ D ⟨rfl,λ_ z=>z⟩ λ_ z=>z.elim
theorem D3{f:ag}{p:il}{C:gu}{P:aQ}{w:aE}{K:ax}{u:Str->Option ai}{j:aB}{x b:Str}{h:ba}{N l:List Str}{k n:Nat}{g:ak->R Slot}{d:ak->R aP}{m:List Nat}(Y:pY K x b h f p)(X:cb N l (aZ h))(M:N.length=l.length+n)(hb:∀(kV o t:ai) (z:Option ag) (B v:ai) (q:List ai),q.length=l.length->fV (iT x b (jT h) (fR h) (aZ h) .none kV o t z B v) ⟨q,[]⟩=pure (l.zip q))(y:∀c,g c≠.no->c.length=l.length) (I:∀c,g c≠.no->∀(i:Nat) po,c[i]?=aa (.own po)->i∈m) (F:∀c r W,g c=.ok r W->(∃pv,r=.val pv)\/∀(i:Nat) po,c[i]?=aa (.own po)->fk po=ah) (O:∀c,g c≠.no->bu n d c=g c)(S:∀(A:aT) (a:List Env) (s:am) (H:Hp) (E:XK),Room k (A.deeper (jo b (aZ h) s.heap.objs.size f p.code))->gq (iF C P w K u j N b (aZ h) f p.code A a s H E) E m (fR h) d):lp P w K u j C (k+1) f p l (bM K g):=by obtain⟨oc,od,kV,o,t,z,B,v,D,rfl,G,T⟩:=Y.ex;exact JZ G T X (Ec y) λA a s H Z Q E L J=>⟨_,sI,HK M y I F O (S A a s H E L) J⟩
theorem Gi{f:ag}{t:il}{z:gu}{P:aQ}{w:aE}{K:ax}{v:Str->Option ai}{l:aB}{x b:Str}{j:ba}{N m:List Str}{k n:Nat}{g:ak->R Slot}{d:ak->R aP}{p:List Nat}(O:pY K x b j f t)(M:cb N m (aZ j))(C:N.length=m.length+n)(F:∀(kV u B:ai) (L:Option ag) (q I:ai) (r:List ai),r.length=m.length->fV (iT x b (jT j) (fR j) (aZ j) .none kV u B L q I) ⟨r,[]⟩=pure (m.zip r))(J:∀c,g c≠.no->c.length=m.length) (y:∀c,g c≠.no->∀(i:Nat) o,c[i]?=aa (.own o)->i∈p/\fk o=ah) (D:∀c,g c≠.no->bu n d c=g c)(G:∀(f:ag) (q:ai) (A:aT) (a:List Env) (s:am) (H:Hp) (E:XK),Room k (A.deeper (jo b (aZ j) s.heap.objs.size f q))->gq (iF z P w K v l N b (aZ j) f q A a s H E) E p (fR j) d):lp P w K v l z (k+1) f t m (bM K g):=D3 O M C F J (λc h i o e=>(y c h i o e).1) (λc Q S h=>.inr λi o e=>(y c (by rw[h];exact nofun) i o e).2) D λA a s H E=>G f t.code A a s H E
theorem Tk{u:gu}{P:aQ}{w:aE}{K:ax}{p:Str->Option ai}{c:aB}{x:Str}{b:ba}{N j:List Str}{k n:Nat}{g:ak->R Slot}{d:ak->R aP}{l:List Nat}(D:cK K p x b)(M:cb N j (aZ b))(z:N.length=j.length+n)(t:∀(kV q v:ai) (L:Option ag) (m I:ai) (o:List ai),o.length=j.length->fV (iT x x (jT b) (fR b) (aZ b) .none kV q v L m I) ⟨o,[]⟩=pure (j.zip o))(J:∀a,g a≠.no->a.length=j.length) (y:∀a,g a≠.no->∀(i:Nat) po,a[i]?=aa (.own po)->i∈l/\fk po=ah) (C:∀a,g a≠.no->bu n d a=g a)(F:∀(f:ag) (m:ai) (A:aT) (h:List Env) (s:am) (H:Hp) (E:XK),Room k (A.deeper (jo x (aZ b) s.heap.objs.size f m))->gq (iF u P w K p c N x (aZ b) f m A h s H E) E l (fR b) d):cU u P w K p c x (k+1) j (bM K g):=by obtain⟨f,G,B,r⟩:=D.ex;exact⟨f,G,B,Gi r M z t J y C F,r.binds t,r.kp⟩
abbrev cf:=Sum PV Nat
def jt(K:ax)(b:St)(F:ag->Prop)(H:Hp):List cf->List V->Prop
 |[],a=>a=[]
 |.inl pv::c,a=>∃v r,a=v::r/\a8 K H F pv v/\jt K b F H c r
 |.inr i::c,a=>∃v r,a=v::r/\b[i]?=aa (aa v)/\jt K b F H c r
def DG(X:Cx)(E:XK)(g:List az)(d:ak->R (List cf)):Prop :=
 ∀F S b a H Q,aX X.K F S b a H->Ok X.K E a F S H (d b) (λh _ i _ f=>∀c,jt X.K a i f h c->Q c f)->pL X g a H Q
section
variable{X:Cx}{E:XK}{e:az}{b:List az}{de:ak->R PV}{c:ak->R (List cf)}{f:Pos}
def bJ:ak->R (List cf):=λε=>.ok [] ε
def gV(d:ak->R PV)(c:ak->R (List cf)):ak->R (List cf):=λε=>(d ε).bind λx ε1=>(c ε1).bind λxs a=>.ok (.inl x::xs) a
def gO(i:Nat)(c:ak->R (List cf)):ak->R (List cf):=λd=>match d[i]? with
 |some (.own _)=>(c d).bind λxs a=>.ok (.inr i::xs) a
 |_=>.no
theorem bL:DG X E [] bJ:=λF S g d H Q a h=>pX jU (h F S H a (bz.refl ..) _ rfl)
theorem Lp(s:DE X E e de)(r:DG X E b c)(q:aM (e::b) X.env=(aj,aK e X.env)::aM b X.env:=by rfl):DG X E (e::b) (gV de c):=λF S j d H Q n h=>by refine pX (iH bD gL q) (s F S j d H _ n ((Ok.bind h).imp λx a D z B g G u v m=>?_));refine r D z a d B _ g ((Ok.bind u).imp λxs i C y A o w t l p=>?_);exact t C y A o (bz.refl ..) _ ⟨v,l,rfl,m.grow w g.fit,p⟩
theorem iB(i:Nat){x:Str}{p:Pos}(u:DG X E b c)(w:X.N[i]?=aa x:=by rfl)(s:ef X.env.scope x:=by first|exact Or.inl rfl|exact Or.inr (Or.inl rfl)|exact Or.inr (Or.inr rfl))(v:(x==("__debug__":Str))=aj:=by decide)(z:(x==("__classdict__":Str))=aj:=by decide) (t:aM (.Name x p::b) X.env=(aj,aK (.Name x p) X.env)::aM b X.env:=by rfl):DG X E (.Name x p::b) (gO i c):=λF S m j H Q d h=>by
 unfold gO at h;split at h
 .rename_i q e;obtain⟨a,g,_⟩:=d.own i q e;refine pX (iH (fj w s v z) gL t) ⟨_,g,u F S m j H _ d ((Ok.bind h).imp λxs l C A B o D y n r=>?_)⟩;exact y C A B o (bz.refl ..) _ ⟨_,n,rfl,g,r⟩
 .exact h.elim
end
def eu(a:ak):List cf->Option ak
 |[]=>aa []
 |.inl pv::b=>(eu a b).map (.val pv::·)
 |.inr i::b=>match a[i]? with
  |some (.own c)=>(eu a b).map (.own c::·)
  |_=>ae
def fJ:ak->List cf->ak->ak
 |a,.inl _::c,_::b=>fJ a c b
 |a,.inr i::c,s::b=>fJ (a.set i s) c b
 |a,_,_=>a
def cI:List cf->List Nat
 |[]=>[]
 |.inl _::as=>cI as
 |.inr i::as=>i::cI as
theorem FN:∀{as:List cf}{i:Nat},i∈cI as↔∃k:Nat,as[k]?=aa (.inr i)
 |[],i=>by simp[cI]
 |.inl _::as,i=>by
  unfold cI;rw[FN];constructor
  .rintro⟨k,h⟩;exact⟨k+1,by simpa using h⟩
  .rintro⟨k,h⟩;cases k with
   |zero=>simp at h
   |succ k=>exact⟨k,by simpa using h⟩
 |.inr j::as,i=>by
  unfold cI;rw[bE,FN];constructor
  .rintro(rfl|⟨k,h⟩)
   .exact⟨0,rfl⟩
   .exact⟨k+1,by simpa using h⟩
  .rintro⟨k,h⟩;cases k with
   |zero=>simp at h;exact .inl h.symm
   |succ k=>exact .inr ⟨k,by simpa using h⟩
theorem ye{d:ak}:∀{a:List cf}{c:ak},eu d a=aa c->c.length=a.length/\∀(k:Nat) (s:Slot),c[k]?=aa s->(∃pv,a[k]?=aa (.inl pv)/\s=.val pv)\/∃i f,a[k]?=aa (.inr i)/\d[i]?=aa (.own f)/\s=.own f
 |[],c,h=>by cases h;exact⟨rfl,λk s e=>by simp at e⟩
 |.inl pv::a,c,h=>by
  unfold eu at h;cases e:eu d a with
  |none=>rw[e]at h;cases h
  |some r=>
   rw[e]at h;cases h;obtain⟨l,q⟩:=ye e;refine⟨by simp[l],λk s b=>?_⟩;cases k with
   |zero=>simp at b;exact .inl ⟨pv,rfl,b.symm⟩
   |succ k=>simpa using q k s (by simpa using b)
 |.inr i::a,c,h=>by
  unfold eu at h;split at h
  .rename_i f g;cases e:eu d a with
   |none=>rw[e]at h;cases h
   |some r=>
    rw[e]at h;cases h;obtain⟨l,q⟩:=ye e;refine⟨by simp[l],λk s b=>?_⟩;cases k with
    |zero=>simp at b;exact .inr ⟨i,f,rfl,g,b.symm⟩
    |succ k=>simpa using q k s (by simpa using b)
  .cases h
theorem xm:∀(c:List cf) (a b:ak),(fJ a c b).length=a.length
 |[],a,b=>by cases b <;> rfl
 |.inl _::c,a,[]=>rfl
 |.inr _::c,a,[]=>rfl
 |.inl _::c,a,s::b=>xm c a b
 |.inr i::c,a,s::b=>by show(fJ (a.set i s) c b).length=_;rw[xm,gR]
theorem sM:∀(a:List cf) (b c:ak) (j:Nat),j∉cI a->(fJ b a c)[j]?=b[j]?
 |[],b,c,j,_=>by cases c <;> rfl
 |.inl _::a,b,[],j,_=>rfl
 |.inr _::a,b,[],j,_=>rfl
 |.inl _::a,b,s::c,j,h=>sM a b c j h
 |.inr i::a,b,s::c,j,h=>by
  have d:¬(j=i\/j∈cI a):=by simpa[cI]using h
  show(fJ (b.set i s) a c)[j]?=_;rw[sM a _ c j λz=>d (.inr z),eU λz=>d (.inl z.symm)]
theorem t8:∀(a:List cf) (b c:ak) (j k:Nat) (s:Slot),(cI a).Nodup->j<b.length->a[k]?=aa (.inr j)->c[k]?=aa s->(fJ b a c)[j]?=aa s
 |[],b,c,j,k,s,_,_,h,_=>by simp at h
 |_::a,b,[],j,k,s,_,_,_,h=>by simp at h
 |.inl _::a,b,t::c,j,0,s,_,_,h,_=>by simp at h
 |.inl _::a,b,t::c,j,k+1,s,nd,hj,h,g=>t8 a b c j k s nd hj (by simpa using h) (by simpa using g)
 |.inr i::a,b,t::c,j,0,s,nd,hj,h,g=>by simp at h g;subst h g;have d:i∉cI a:=(kx.mp nd).1;show(fJ (b.set i t) a c)[i]?=_;rw[sM a _ c i d,gB hj]
 |.inr i::a,b,t::c,j,k+1,s,nd,hj,h,g=>t8 a (b.set i t) c j k s (kx.mp nd).2 (by rw[gR];exact hj) (by simpa using h) (by simpa using g)
theorem jt.len{K:ax}{b:St}{F:ag->Prop}{H:Hp}:∀{a:List cf}{vs:List V},jt K b F H a vs->vs.length=a.length
 |[],_,h=>by rw[show _=[] from h];rfl
 |.inl _::a,_,⟨v,r,e,_,h⟩=>by rw[e,d_,d_,jt.len h]
 |.inr _::a,_,⟨v,r,e,_,h⟩=>by rw[e,d_,d_,jt.len h]
theorem jt.val{K:ax}{d:St}{F:ag->Prop}{H:Hp}:∀{as:List cf}{c:List V}{k:Nat}{pv:PV},jt K d F H as c->as[k]?=aa (.inl pv)->∃v,c[k]?=aa v/\a8 K H F pv v
 |[],_,k,_,_,e=>by simp at e
 |.inl x::as,_,0,pv,⟨v,r,e,h,_⟩,q=>by simp at q;subst q e;exact⟨v,rfl,h⟩
 |.inr _::as,_,0,pv,_,q=>by simp at q
 |.inl x::as,_,k+1,pv,⟨v,r,e,_,h⟩,q=>by obtain⟨w,a,b⟩:=jt.val (k:=k) h (by simpa using q);subst e;exact⟨w,by simpa using a,b⟩
 |.inr x::as,_,k+1,pv,⟨v,r,e,_,h⟩,q=>by obtain⟨w,a,b⟩:=jt.val (k:=k) h (by simpa using q);subst e;exact⟨w,by simpa using a,b⟩
theorem jt.own{K:ax}{c:St}{F:ag->Prop}{H:Hp}:∀{as:List cf}{d:List V}{k i:Nat},jt K c F H as d->as[k]?=aa (.inr i)->∃v,d[k]?=aa v/\c[i]?=aa (aa v)
 |[],_,k,_,_,e=>by simp at e
 |.inr x::as,_,0,pv,⟨v,r,e,h,_⟩,q=>by simp at q;subst q e;exact⟨v,rfl,h⟩
 |.inl _::as,_,0,pv,_,q=>by simp at q
 |.inl x::as,_,k+1,pv,⟨v,r,e,_,h⟩,q=>by obtain⟨w,a,b⟩:=jt.own (k:=k) h (by simpa using q);subst e;exact⟨w,by simpa using a,b⟩
 |.inr x::as,_,k+1,pv,⟨v,r,e,_,h⟩,q=>by obtain⟨w,a,b⟩:=jt.own (k:=k) h (by simpa using q);subst e;exact⟨w,by simpa using a,b⟩
section
variable{K:ax}{F y:ag->Prop}{S m:Nat->ag->Prop}{c s f:ak}{t:St}{H u:Hp}{as:List cf}{d:List V}
def l_(as:List cf)(S:Nat->ag->Prop)(k:Nat)(b:ag):Prop:=∃i,as[k]?=aa (.inr i)/\S i b
theorem xP(b:ag)(h:U (l_ as S) b):U S b:=let ⟨_,i,_,h⟩:=h;⟨i,h⟩
theorem yV:∀{as:List cf}{i k l:Nat},(cI as).Nodup->as[k]?=aa (.inr i)->as[l]?=aa (.inr i)->k=l
 |[],_,_,_,_,h,_=>by simp at h
 |.inl _::as,i,0,_,_,h,_=>by simp at h
 |.inl _::as,i,_,0,_,_,h=>by simp at h
 |.inl _::as,i,k+1,l+1,nd,h1,h2=>by rw[yV (as:=as) (i:=i) (k:=k) (l:=l) nd (by simpa using h1) (by simpa using h2)]
 |.inr j::as,i,0,0,_,_,_=>rfl
 |.inr j::as,i,0,l+1,nd,h1,h2=>by simp at h1;subst h1;exact absurd (FN.mpr ⟨l,by simpa using h2⟩) (kx.mp nd).1
 |.inr j::as,i,k+1,0,nd,h1,h2=>by simp at h2;subst h2;exact absurd (FN.mpr ⟨k,by simpa using h1⟩) (kx.mp nd).1
 |.inr j::as,i,k+1,l+1,nd,h1,h2=>by rw[yV (as:=as) (i:=i) (k:=k) (l:=l) (kx.mp nd).2 (by simpa using h1) (by simpa using h2)]
theorem aX.cal(r:aX K F S c t H)(B:jt K t F H as d)(J:eu c as=aa s)(I:(cI as).Nodup):aX K F (l_ as S) s (d.map aa) H:=by
 obtain⟨E,A⟩:=ye J;have C:∀{k:Nat}{v:V},d[k]?=aa v->(d.map aa)[k]?=aa (aa v):=λ{k v} e=>by rw[kD,e];rfl
 refine⟨by rw[E,cM,B.len],r.ex,λk pv e=>?_,λk D e=>?_,λk b h=>?_,λk l b g o=>?_⟩
 .rcases A k _ e with⟨p,q1,n⟩|⟨_,_,_,_,z⟩
  .cases n;obtain⟨v,x,w⟩:=B.val q1;exact⟨v,C x,w⟩
  .cases z
 .rcases A k _ e with⟨_,_,z⟩|⟨i,p,q1,n,q3⟩
  .cases z
  .cases q3;obtain⟨v,x,w⟩:=B.own q1;obtain⟨a,b1,b2⟩:=r.own i D n;rw[w]at b1;cases b1;have L:l_ as S k=S i:=by
    funext b;exact propext ⟨λζ=>by obtain⟨j,g,o⟩:=ζ;rw[q1]at g;cases g;exact o,λh=>⟨i,q1,h⟩⟩
   exact⟨a,C x,by rw[L];exact b2⟩
 .obtain⟨i,g,o⟩:=h;obtain⟨⟨D,q⟩,n⟩:=r.foot i b o;have G:k<s.length:=by rw[E];exact(dR.mp g).1
  refine⟨?_,n⟩;rcases A k s[k] (by simp[G])with⟨_,z,_⟩|⟨j,p,z1,z2,z3⟩
  .rw[g]at z;cases z
  .exact⟨p,by rw[eW G,z3]⟩
 .obtain⟨i,x,w⟩:=g;obtain⟨j,b1,b2⟩:=o;have:=r.dist i j b w b2;subst this;exact yV I x b1
theorem aX.called{O':ag->Prop}(r:aX K F S c t H)(ha:jt K t F H as d)(hs:eu c as=aa s)(P:(cI as).Nodup)(N:aX K y m f (d.map aa) u)(g:bz (U (l_ as S)) O' F y H u)(hO:∀b,U m b->O' b)(L:∀(k:Nat) i,as[k]?=aa (.inr i)->∃C,f[k]?=aa (.own C)):∃Y,aX K y Y (fJ c as f) t u/\bz (U S) (U Y) F y H u/\∀b,U Y b->U m b\/U S b:=by
 have up:∀{k:Nat}{v:V},(d.map aa)[k]?=aa (aa v)->d[k]?=aa v:=λ{k v} e=>by
  rw[kD]at e;cases q:d[k]? with
  |none=>rw[q]at e;cases e
  |some x=>rw[q]at e;cases e;rfl
 have fit:Fit (U (l_ as S)) F H:=λb h=>r.fit b (xP b h);have J:∀i C,c[i]?=aa (.own C)->i<c.length:=λi C e=>(dR.mp e).1;have lt:∀(k:Nat) i,as[k]?=aa (.inr i)->i<c.length:=λk i e=>by
  obtain⟨hl,hg⟩:=ye hs;have D:k<s.length:=by rw[hl];exact(dR.mp e).1
  rcases hg k s[k] (by simp[D])with⟨_,z,_⟩|⟨j,p,z1,z2,z3⟩
  .rw[e]at z;cases z
  .rw[e]at z1;cases z1;exact J _ _ z2
 refine⟨λj b=>(∃k:Nat,as[k]?=aa (.inr j)/\m k b)\/(j∉cI as/\S j b),⟨by rw[xm];exact r.len,N.ex,λj pv e=>?_,λj C e=>?_,λj b h=>?_,λi j b A B=>?_⟩,⟨g.fro,λb o e n=>g.keep b o e λz=>n (xP b z),g.there,λa z=>(g.fnew a z).imp id λw=>w.imp id (xP a),λb ⟨j,z⟩=>?_⟩,λb ⟨j,z⟩=>?_⟩
 .by_cases G:j∈cI as
  .obtain⟨k,D⟩:=FN.mp G;obtain⟨C,q⟩:=L k j D;rw[t8 as c f j k _ P (lt k j D) D q]at e;cases e
  .rw[sM as c f j G]at e;obtain⟨v,A,B⟩:=r.val j pv e;exact⟨v,A,B.grow g fit⟩
 .by_cases G:j∈cI as
  .obtain⟨k,D⟩:=FN.mp G;obtain⟨po',q⟩:=L k j D;rw[t8 as c f j k _ P (lt k j D) D q]at e;cases e;obtain⟨a,A,B⟩:=N.own k C q;obtain⟨v,Q,X⟩:=ha.own D;rw[up A]at Q;cases Q;have W:(λb=>(∃k:Nat,as[k]?=aa (.inr j)/\m k b)\/(j∉cI as/\S j b))=m k:=by
    funext b;refine propext ⟨λz=>?_,λz=>.inl ⟨k,D,z⟩⟩;rcases z with⟨l,z1,z2⟩|⟨z,_⟩
    .rw[yV P D z1];exact z2
    .exact absurd G z
   exact⟨a,X,by rw[W];exact B⟩
  .rw[sM as c f j G]at e;obtain⟨a,A,B⟩:=r.own j C e;have W:(λb=>(∃k:Nat,as[k]?=aa (.inr j)/\m k b)\/(j∉cI as/\S j b))=S j:=by
    funext b;refine propext ⟨λz=>?_,λz=>.inr ⟨G,z⟩⟩;rcases z with⟨l,z1,z2⟩|⟨_,z⟩
    .exact absurd (FN.mpr ⟨l,z1⟩) G
    .exact z
   have h3:fO K u y C a (S j):=by refine B.mono (λ_ _ q=>q.grow g fit) (λ_ _ q=>q.grow g fit) λb o z q=>g.keep b o q λ⟨l,i,M,I⟩=>?_;have:=r.dist i j b I z;subst this;exact G (FN.mpr ⟨l,M⟩)
   exact⟨a,A,by rw[W];exact h3⟩
 .rcases h with⟨k,A,B⟩|⟨A,B⟩
  .obtain⟨⟨C,q⟩,T⟩:=N.foot k b B;exact⟨⟨C,t8 as c f j k _ P (lt k j A) A q⟩,T⟩
  .obtain⟨⟨C,q⟩,T,o,O,q4⟩:=r.foot j b B;have no:¬U (l_ as S) b:=λζ=>by obtain⟨l,i,M,I⟩:=ζ;have:=r.dist i j b I B;subst this;exact A (FN.mpr ⟨l,M⟩)
   refine⟨⟨C,by rw[sM as c f j A];exact q⟩,λz=>?_,o,g.keep b o O no,q4⟩;rcases g.fnew b z with w|w|w
   .exact T w
   .rw[O]at w;cases w
   .exact no w
 .have E:∀{i j:Nat}{b:ag},(∃k:Nat,as[k]?=aa (.inr i)/\m k b)->(j∉cI as/\S j b)->False:=λ{i j b} ⟨k,M,I⟩ ⟨w3,Z⟩=>by
   obtain⟨_,_,o,O,_⟩:=r.foot j b Z;rcases g.onew b (hO b ⟨k,I⟩)with⟨l,i',z1,z2⟩|z
   .have:=r.dist i' j b z2 Z;subst this;exact w3 (FN.mpr ⟨l,z1⟩)
   .rw[O]at z;cases z
  rcases A with A|A <;> rcases B with B|B
  .obtain⟨k,Q,X⟩:=A;obtain⟨l,b1,b2⟩:=B;have:=N.dist k l b X b2;subst this;rw[Q]at b1;cases b1;rfl
  .exact(E A B).elim
  .exact(E B A).elim
  .exact r.dist i j b A.2 B.2
 .rcases z with⟨k,_,z⟩|⟨_,z⟩
  .rcases g.onew b (hO b ⟨k,z⟩)with w|w
   .exact .inl (xP b w)
   .exact .inr w
  .exact .inl ⟨j,z⟩
 .rcases z with⟨k,_,z⟩|⟨_,z⟩
  .exact .inl ⟨k,z⟩
  .exact .inr ⟨j,z⟩
end
def DR(X:Cx)(E:XK)(e:az)(d:ak->R Slot):Prop :=
 ∀F S f a H Q,aX X.K F S f a H->Ok X.K E a F S H (d f) (λs _ h i c=>∀v g,ny X.K c h s v g->(∀b,g b->H b=ae/\¬h b/\¬U i b/\∃o,c b=aa o/\eE o)->Q v c)->jv X e a H Q
def fz:List cf->ak->Bool
 |[],_=>ah
 |.inl _::as,_::ss=>fz as ss
 |.inr _::as,.own _::ss=>fz as ss
 |_,_=>aj
theorem nj:∀{as:List cf}{ss:ak},fz as ss=ah->∀(k:Nat) i,as[k]?=aa (.inr i)->∃a,ss[k]?=aa (.own a)
 |[],_,_,k,i,h=>by simp at h
 |.inl _::as,s::ss,q,0,i,h=>by simp at h
 |.inl _::as,s::ss,q,k+1,i,h=>by simpa using nj (as:=as) (ss:=ss) (by unfold fz at q;exact q) k i (by simpa using h)
 |.inr _::as,.own a::ss,q,0,i,h=>⟨a,rfl⟩
 |.inr _::as,.own a::ss,q,k+1,i,h=>by simpa using nj (as:=as) (ss:=ss) (by unfold fz at q;exact q) k i (by simpa using h)
 |.inr _::as,.val _::ss,q,k,i,h=>by cases q
 |.inr _::as,.none::ss,q,k,i,h=>by cases q
 |.inl _::as,[],q,k,i,h=>by cases q
 |.inr _::as,[],q,k,i,h=>by cases q
def fg{f:Type}(d:ak)(b:List cf)(r:R f):R f:=match r with
 |.ok s a=>if fz b a then .ok s (fJ d b a)else .no
 |.er c a=>if fz b a then .er c (fJ d b a)else .no
 |.no=>.no
def bd(g:ak->R Slot)(c:ak->R (List cf)):ak->R Slot:=λε=>(c ε).bind λa ε1=>(aF (if(cI a).Nodup then eu ε1 a else ae) ε1).bind λb ε1=>fg ε1 a (g b)
section
variable{l:gu}{X:Cx}{E:XK}{pin:List Nat}{e:az}{es:List az}{j:ak->R (List cf)}{pos:Pos}{x:Str}{k:Nat}{m:List Str}{g:ak->R Slot}{p:Pos}{d:ak->R Slot}
theorem G3{K:ax}{F0 r:ag->Prop}{S0 B:Nat->ag->Prop}{a:ak}{F:St}{H n:Hp}{c:List cf}{Y:List V}{Q:VK}(u:aX K r B a F n)(g1:bz (U S0) (U B) F0 r H n)(O:jt K F r n c Y)(q:Ok K E F r B n ((aF (if(cI c).Nodup then eu a c else ae) a).bind λC a=>fg a c (g C)) λs _ t T h=>∀v D,ny K h t s v D->(∀b,D b->H b=ae/\¬t b/\¬U T b/\∃o,h b=aa o/\eE o)->Q v h):bM K g Y n Q E:=by
 have q:=Ok.bind q;by_cases A:(cI c).Nodup
 .rw[if_pos A]at q;cases es:eu a c with
  |none=>rw[es]at q;exact q.elim
  |some C=>
   rw[es]at q;have q:=q r B n u (bz.refl ..);dsimp only at q;refine⟨r,l_ c B,C,u.cal O es A,?_⟩;cases N:g C with
   |no=>rw[N]at q;exact q.elim
   |er cv P=>
    rw[N]at q;intro y t T h I M;unfold fg at q;dsimp only at q;by_cases f:fz c P=ah
    .rw[if_pos f]at q;obtain⟨S,G,L,_⟩:=u.called O es A I M (λ_ z=>z) (nj f);exact q y t S h G L
    .rw[if_neg f]at q;exact q.elim
   |ok s P=>
    rw[N]at q;intro v t T h D I M rv J Z;unfold fg at q;dsimp only at q;by_cases f:fz c P=ah
    .rw[if_pos f]at q;obtain⟨S,G,L,u2⟩:=u.called O es A I M (λ_ z=>.inl z) (nj f);refine q t S h G L v D rv λb z=>⟨oQ g1 (Z b z),(J b z).1,λw=>?_,(J b z).2.2⟩
     rcases u2 b w with w|⟨i,w⟩
     .exact(J b z).2.1 w
     .obtain⟨_,_,o,W,_⟩:=u.foot i b w;rw[Z b z]at W;cases W
    .rw[if_neg f]at q;exact q.elim
 .rw[if_neg A]at q;exact q.elim
theorem bX(c:cU l X.prog X.w X.K X.mg X.base x k m (bM X.K g))(s:Room k X.A)(r:sv l X E)(z:DG X E (e::es) j)(v:Gl X x:=by rfl)(w:(x==("__debug__":Str))=aj:=by decide) (B:aM (e::es) X.env=(aj,aK e X.env)::aM es X.env:=by rfl) (A:(cZ pos (aM es X.env)).any (·.1)=aj:=by rfl):DR X E (.Call (.Name x p) (e::es) [] pos) (bd g j):=λF S i a H Q n h=>by obtain⟨f,J,t,G,y,u⟩:=c.ex;refine bU (EW G s v t u y .nil r gL w B A) (z F S i a H _ n ((Ok.bind h).imp λK b N L M o C q I D=>?_));rw[fW];exact G3 o C D q
def qr:Slot->Option PV
 |.val pv=>aa pv
 |.own (.lst xs)=>aa (.lst xs)
 |_=>ae
def bA(d:ak->R Slot):ak->R PV:=λε=>(d ε).bind λs ε1=>aF (qr s) ε1
def uY:Slot->Option PO
 |.own a=>aa a
 |_=>ae
def ki(d:ak->R Slot):ak->R PO:=λb=>(d b).bind λs a=>aF (uY s) a
theorem DR.dn(h:DR X E e d):DN X E e (ki d):=λF S f i H Q t q=>by
 unfold ki at q;refine h F S f i H Q t ?_;cases b:d f with
 |no=>rw[b]at q;exact q.elim
 |er c o=>rw[b]at q;exact q
 |ok s n=>
  rw[b]at q;cases s with
  |none=>exact q.elim
  |val pv=>exact q.elim
  |own G=>intro D B C u y v A r z;obtain⟨a,rfl,w⟩:=r;exact q D B C u y a A w z
theorem DR.de(h:DR X E e d):DE X E e (bA d):=λF S ε f H Q i q=>by
 unfold bA at q;cases b:d ε with
 |no=>rw[b]at q;exact q.elim
 |er c o=>refine h F S ε f H Q i ?_;rw[b]at q ⊢;exact q
 |ok s n=>
  cases s with
  |none=>rw[b]at q;exact q.elim
  |val pv=>refine h F S ε f H Q i ?_;rw[b]at q ⊢;exact λB z A t w v I r G=>q B z A t w v r.1
  |own u=>
   refine h.dn.de F S ε f H Q i ?_;unfold dF ki;rw[b]at q ⊢;cases u with
   |lst xs=>exact q
   |dK a=>exact q
   |lls D=>exact q
   |ins C fs=>exact q
   |dT a=>exact q
   |dN a=>exact q
   |inl C fs y xs=>exact q
def kc(d:ak->R Slot):ak->R aP:=λb=>(d b).bind λs a=>.ok (.ret s) a
theorem rK(B:DR X E e d):DS X E pin (.Return (aa e) pos) (kc d):=λF S n f H D u h=>by
 refine je (Aj bD) (B F S n f H _ u ?_);unfold kc at h;cases i:d n with
 |no=>rw[i]at h;exact h.elim
 |er c r=>rw[i]at h;exact λx N J L A C=>h x N J f L A C (ju.refl _ _)
 |ok s q=>rw[i]at h;intro M I K y a v G t o;exact h v M I f K G y ⟨a.fro,a.keep,a.there,a.fnew,λb z=>z.elim (a.onew b) λw=>.inr (o b w).1⟩ (ju.refl _ _) t λb z=>(o b z).2
def kt(d:ak->R Slot):ak->R aP:=λb=>(d b).bind λ_ a=>.ok .next a
theorem rH(o:DR X E e d)(n:kw e ae pos.line X.env=pure aj:=by rfl):DS X E pin (.Expr e pos) (kt d):=λF S c a H D f h=>je (A_ bD n) (o F S c a H _ f (h.bindE.imp λx b t r s i w q v z u y=>q t r a s i (bz.refl ..) (ju.refl _ _)))
end
end Pu
namespace L2
section
variable{X:Cx}{l:List (ag×Obj)}{i:St}{H:Hp}{s:am}{d:dy}{x:Str}{j:List Str}{g:List Nat}
theorem N6{A m N:az}{y:Str}{Z G E:Pos}{F k:Nat}{M:V->Hp->St->Prop}{w:List az}{wi:TI}{ts:TT}{te:TE}(B:jx X d x j g)(hk:k<=g.length)(hc:X.calm=ah)(hi:PI X N m wi)(cN:∀C r t W O,PG (cx X d j C r t W O) N λv L H Q=>∃vs,vs.length=k+1/\L.length=j.length/\M v H vs/\Q (vs++L.drop (k+1)) H)(ht:∀C r t W O,qi (cx X d j C r t W O) w ts) (he:∀C r t W O,PE (cx X d j C r t W O) A te) (hN:X.N.Nodup) (wt:X.N[F]?=aa y) (wu:Loc X.env.scope y) (wv:kw (.ListComp A [⟨N,m,w,0⟩] d G) (aa (.Name y Z)) E.line X.env=pure ah) (hf:X.fn y=ah\/X.env.scope.names.lookup y=aa .local) (hs:∀x,nV m X.env x=pure x):PS X (.Assign [.Name y Z] (.ListComp A [⟨N,m,w,0⟩] d G) E) (λD i H=>B5 wi M k ts te g i H λv H'=>D.nx (i.set F (aa v)) H'):=by
 intro l s i H D I h;rw[exec_Assign_Name_used _ _ _ _ wv];refine ap (wpAny_standAt (ap ?_));show ar _ X.A (do let _ <-comprehension (.ListComp A [⟨N,m,w,0⟩] d G) d X.env _ (newList []) aj (aK m X.env) (aa (qC (.Name y Z) X.env))) _ _ s;refine ap (ez (?_:ar _ X.A _ (λ_ s'=>SP X l D .next s') X.xe s) (λ_ s' hq=>aG (aG hq)) λ_ _ e=>e);refine Hb (use:=aa (qC (.Name y Z) X.env)) B hk hc hi cN ht he hs I h λ{J s6 H3 H5 fp σ5 a f} Y f3 I6 q=>?_;obtain⟨mm,hn6,_⟩:=I6.loc;have J6:Inv X l i _ _:=Y.unblock f3 I6 (Heap.SameBut.refl _ _);have P:J.heap.objs.size≠X.env.locals:=λe=>absurd Y.lt (by rw[<-e];exact fA _);have S:∀z c,X.env.cells.lookup z=aa c->c≠J.heap.objs.size:=λz c e e2=>by obtain⟨vv,oo,ho,_⟩:=Y.cell z c e;exact absurd (bK ho) (by rw[e2];exact fA _)
 refine wpAny_assign_Name (G4 (v:=.ref a) J6 hN wt wu rfl (λs7 I7 ⟨a7,sb7,ha7⟩=>?_) hf);have na7:J.heap.objs.size≠a7:=by
  rcases ha7 with z|z
  .rw[z];exact P
  .exact(S _ _ z).symm
 refine⟨mm,hn6.sameBut sb7 na7,λmL sb=>⟨_,_,?_,q⟩⟩;have T:H5 J.heap.objs.size=ae:=I6.free;refine I7.call' (s':={s7 with heap:=mL}) (ch:=[J.heap.objs.size]) rfl ⟨λb o e n hb K=>?_,λb o e n hb K=>?_,λb o e n K=>n,λb o e K=>?_,λb xs e=>e,λb o u e=>e,λb ps e=>e⟩ ?_ I7.bare λb hb=>?_
 .exact(sb.2 b (by simpa using K)).trans e
 .exact⟨o.slots,(sb.2 b (by simpa using K)).trans (by simpa using e)⟩
 .exact⟨o,(sb.2 b (by simpa using K)).trans e⟩
 .intro b u e;refine(I7.hok b u e).stay (λc v hc q=>(sb.2 c ?_).trans q) (λ_ q=>q) λ_ _ q=>q;rintro rfl;rcases hc with z|z
  .rw[<-z,T]at e;cases e
  .rw[T]at z;cases z
 .have e:b=J.heap.objs.size:=by simpa using hb
  subst e;refine⟨.inr Y.sz,P,S,λp hp e2=>?_⟩;obtain⟨e3,_⟩:=Y.pin p hp;exact absurd (bK e3) (by rw[e2];exact fA _)
theorem Sy{n a:az}{y:Str}{p t o f:Pos}{h:Nat}{m:List az}{wi:TI}{ts:TT}{te:TE}(B:jx X d x j g)(J:X.calm=ah)(F:PI X (.Name x p) a wi)(A:∀C b c r q,qi (cx X d j C b c r q) m ts) (I:∀C b c r q,PE (cx X d j C b c r q) n te) (K:X.N.Nodup) (z:X.N[h]?=aa y) (w:Loc X.env.scope y) (u:kw (.ListComp n [⟨.Name x p,a,m,0⟩] d o) (aa (.Name y t)) f.line X.env=pure ah) (G:X.fn y=ah\/X.env.scope.names.lookup y=aa .local) (E:∀x,nV a X.env x=pure x):PS X (.Assign [.Name y t] (.ListComp n [⟨.Name x p,a,m,0⟩] d o) f) (λD i H=>B3 wi ts te g i H λv L=>D.nx (i.set h (aa v)) L):=N6 B (j4 _) J F (D5 B) A I K z w u G E
end
end L2
namespace Pu
open L2
def gF(ε:ak):List Nat->Option (List cf)
 |[]=>aa []
 |j::cap=>match ε[j]? with
  |some (.val pv)=>(gF ε cap).map (.inl pv::·)
  |some (.own _)=>(gF ε cap).map (.inr j::·)
  |_=>ae
def gz{b:Type}(cap:List Nat)(d:ak->R b)(x:PV):ak->R b:=λε=>(aF (gF ε cap) ε).bind λa _=>(aF (if(cI a).Nodup then eu ε (.inl x::a)else ae) ε).bind λc _=>fg ε (.inl x::a) (d c)
def dW{a:Type}(r:R a):R a:=match r with
 |.er _ _=>.no
 |r=>r
def jV(cap:List Nat)(dt:ak->R Bool)(de:ak->R PV):List PV->List PV->ak->R (List PV)
 |[],a,ε=>.ok a ε
 |x::xs,a,ε=>(dW (gz cap dt x ε)).bind λk ε1=>match k with
  |true=>(dW (gz cap de x ε1)).bind λy b=>jV cap dt de xs (a++[y]) b
  |false=>jV cap dt de xs a ε1
def dX(cap:List Nat)(c:ak->R (List PV))(dt:ak->R Bool)(de:ak->R PV):ak->R PO:=λε=>(c ε).bind λxs ε1=>(jV cap dt de xs [] ε1).bind λb a=>.ok (.lst b) a
theorem zR{K:ax}{F:ag->Prop}{S:Nat->ag->Prop}{f:ak}{d:St}{H:Hp}(r:aX K F S f d H):∀{b:List Nat}{i:List cf},gF f b=aa i->∃c,jt K d F H i c/\gJ d b=c.map aa
 |[],i,h=>by cases h;exact⟨[],rfl,rfl⟩
 |j::b,i,h=>by
  unfold gF at h;split at h
  .rename_i pv e;cases q:gF f b with
   |none=>rw[q]at h;cases h
   |some bs=>
    rw[q]at h;cases h;obtain⟨c,m,l⟩:=zR r q;obtain⟨v,g,n⟩:=r.val j pv e;refine⟨v::c,⟨v,c,rfl,n,m⟩,?_⟩;show(d[j]?).join::gJ d b=_;rw[g,l];rfl
  .rename_i o e;cases q:gF f b with
   |none=>rw[q]at h;cases h
   |some bs=>
    rw[q]at h;cases h;obtain⟨c,m,l⟩:=zR r q;obtain⟨a,g,n⟩:=r.own j o e;refine⟨.ref a::c,⟨_,c,rfl,g,m⟩,?_⟩;show(d[j]?).join::gJ d b=_;rw[g,l];rfl
  .cases h
theorem Ee{K:ax}{E:XK}{F:ag->Prop}{S:Nat->ag->Prop}{s:ak}{f:St}{H:Hp}{G:Type}{b:List Nat}{d:ak->R G}{x:PV}{v:V}{C:G->ak->(ag->Prop)->(Nat->ag->Prop)->Hp->Prop}(r:aX K F S s f H) (N:a8 K H F x v) (h:Ok K E f F S H (dW (gz b d x s)) C):∃L l,aX K F L l (aa v::gJ f b) H/\Ok K E0 (aa v::gJ f b) F L H (d l) (λa _ q _ p=>∃j u,aX K q u j f p/\bz (U S) (U u) F q H p/\C a j q u p):=by
 unfold gz at h;cases B:gF s b with
 |none=>rw[B]at h;exact h.elim
 |some g=>
  rw[B]at h;simp only[b_,R.bind_ok]at h;by_cases y:(cI g).Nodup
  .rw[if_pos y]at h;cases t:eu s (.inl x::g)with
   |none=>rw[t]at h;exact h.elim
   |some l=>
    rw[t]at h;simp only[b_,R.bind_ok]at h;obtain⟨w,T,Q⟩:=zR r B;have o:jt K f F H (.inl x::g) (v::w):=⟨v,w,rfl,N,T⟩
    have n:aa v::gJ f b=(v::w).map aa:=by rw[Q];rfl
    have m:(cI (.inl x::g)).Nodup:=y;refine⟨l_ (.inl x::g) S,l,by rw[n];exact r.cal o t m,?_⟩;rw[n];cases A:d l with
    |no=>rw[A]at h;exact h.elim
    |er c D=>
     rw[A]at h;unfold fg at h;dsimp only at h;by_cases i:fz (.inl x::g) D=ah
     .rw[if_pos i]at h;exact h.elim
     .rw[if_neg i]at h;exact h.elim
    |ok a D=>
     rw[A]at h;intro q u p O P;unfold fg at h;dsimp only at h;by_cases i:fz (.inl x::g) D=ah
     .rw[if_pos i]at h;obtain⟨M,I,J,_⟩:=r.called o t m O P (λ_ z=>z) (nj i);exact⟨_,M,I,J,h q M p I J⟩
     .rw[if_neg i]at h;exact h.elim
  .rw[if_neg y]at h;exact h.elim
def xS(X:Cx)(a:List az):TT:=λb H Q=>Bx (∀d s,Inv X d b H s->ar (aw X.prog X.w) X.A (forIn a ah λc r=>if r=ah then do let ok <-nN c X.env (aK c X.env);pure (ForInStep.yield ok)else pure (ForInStep.yield r)) (TP X d b Q) X.xe s)
def DF(X:Cx)(E:XK)(c:List az)(d:ak->R Bool):Prop:=∀F S f a H Q,aX X.K F S f a H->Ok X.K E a F S H (d f) (λb _ _ _ g=>Q b g)->xS X c a H Q
def fu:ak->R Bool:=λε=>.ok ah ε
theorem rW{X:Cx}{E:XK}:DF X E [] fu:=λF S d a H Q b h=>⟨λc s I=>Na c s a H Q I (h F S H b (bz.refl ..))⟩
theorem A6{X:Cx}{E:XK}{c:az}{d:ak->R Bool}(h:DT X E c d):DF X E [c] d:=λF S b a H Q f q=>⟨λg s I=>Ic qd g s a H Q I (h F S b a H Q f q)⟩
theorem Ok.bindB{K:ax}{E:XK}{b:St}{F s:ag->Prop}{S n:Nat->ag->Prop}{H p:Hp}{j i:Type}{D:i->ak->(ag->Prop)->(Nat->ag->Prop)->Hp->Prop}{r:R j}{k:j->ak->R i}(h:Ok K E b F S H (r.bind k) D)(g:bz (U S) (U n) F s H p):Ok K E b s n p r (λa d _ _ _=>Ok K E b F S H (k a d) D):=by
 cases r with
 |no=>exact h
 |er c f=>exact λx t o q l m=>h x t o q l (g.trans m)
 |ok a f=>exact λt o q l m=>h
section
variable{X:Cx}{E:XK}{c:dy}{x:Str}{N':List Str}{cap:List Nat}
theorem bz.stay{O a F d:ag->Prop}{H b:Hp}(g:bz O a F d H b){l:ag}{o:HO}(e:H l=aa o)(n:¬O l)(f:¬F l):b l=aa o/\¬d l/\¬a l :=
 ⟨g.keep l o e n,λz=>(g.fnew l z).elim f λw=>w.elim (λq=>by rw[e]at q;cases q) n,λz=>(g.onew l z).elim n λq=>by rw[e]at q;cases q⟩
theorem aX.lay{K:ax}{F:ag->Prop}{S:Nat->ag->Prop}{i:ak}{h:St}{H:Hp}{l:ag}{o o':HO}(r:aX K F S i h H)(v:H l=aa o)(no:eE o)(u:¬F l)(nS:¬U S l):bz (λb=>U S b\/b=l) (U S) F F H (L2.upd H l o')/\Fit (λb=>U S b\/b=l) F H/\aX K F S i h (L2.upd H l o'):=by
 have f:bz (λb=>U S b\/b=l) (U S) F F H (L2.upd H l o'):=⟨λ_ z=>z,λb o e n=>by rw[bj λz=>n (.inr z)];exact e,λb o e=>by
  by_cases m:b=l
  .subst m;exact⟨_,upd_same⟩
  .exact⟨o,by rw[bj m];exact e⟩,λ_ z=>.inl z,λ_ z=>.inl (.inl z)⟩
 have g:Fit (λb=>U S b\/b=l) F H:=λb z=>by
  rcases z with z|rfl
  .exact r.fit b z
  .exact⟨u,_,v,no⟩
 refine⟨f,g,r.len,λb z=>let ⟨o,q⟩:=r.ex b z;f.there b o q,λj pv e=>?_,λj t e=>?_,λj b z=>?_,r.dist⟩
 .obtain⟨w,d,a⟩:=r.val j pv e;exact⟨w,d,a.grow f g⟩
 .obtain⟨w,d,a⟩:=r.own j t e;refine⟨w,d,a.mono (λ_ _ q=>q.grow f g) (λ_ _ q=>q.grow f g) λb o z q=>?_⟩;rw[bj (by rintro rfl;exact nS ⟨j,z⟩)];exact q
 .obtain⟨d,a,o,s,p⟩:=r.foot j b z;exact⟨d,a,o,by rw[bj (by rintro rfl;exact nS ⟨j,z⟩)];exact s,p⟩
theorem bz.lay{O d F h:ag->Prop}{H f:Hp}{l:ag}{o':HO}(g:bz O d F h H f)(a:H l=ae):bz O d F h H (L2.upd f l o'):=by
 refine⟨g.fro,λb o e n=>?_,λb o e=>?_,g.fnew,g.onew⟩
 .rw[bj (by rintro rfl;rw[a]at e;cases e)];exact g.keep b o e n
 .obtain⟨i,q⟩:=g.there b o e;exact⟨i,by rw[bj (by rintro rfl;rw[a]at e;cases e)];exact q⟩
theorem F8{elt w:az}{px:Pos}{ifs:List az}{di:ak->R (List PV)}{dt:ak->R Bool}{de:ak->R PV}(hi:DI X E (.Name x px) w di)(ht:∀C d f r p,DF (cx X c N' C d f r p) E0 ifs dt) (he:∀C d f r p,DE (cx X c N' C d f r p) E0 elt de){F:ag->Prop}{S:Nat->ag->Prop}{ε:ak}{j:St}{H:Hp}{Q:VK} (rl:aX X.K F S ε j H) (h:Ok X.K E j F S H (dX cap di dt de ε) (λpo _ s K g=>∀a Sa,fO X.K g s po a Sa->(∀b,Sa b->H b=ae/\¬s b/\¬U K b/\∃o,g b=aa o/\eE o)->Q (.ref a) g)):B3 (sR X (.Name x px) w) (λj H Q=>∀C d f r p,xS (cx X c N' C d f r p) ifs j H Q) (λj H Q=>∀C d f r p,jv (cx X c N' C d f r p) elt j H Q) cap j H Q:=by
 refine hi F S ε j H _ rl ((Ok.bind h).imp λxs ε1 M S1 H1 r1 g1 h1 J vs RR rs hz hw keep l hl=>?_);have h1:=h1.bind;have hvl:vs.length=xs.length:=rs.len;have a0:Al M M H1 (upd H1 l (.lst [])):=Al.new0 hl;have nF1:¬M l:=λz=>by obtain⟨o,q⟩:=r1.ex l z;rw[hl]at q;cases q
 have nS1:¬U S1 l:=λζ=>by obtain⟨i,z⟩:=ζ;obtain⟨_,_,o,q,_⟩:=r1.foot i l z;rw[hl]at q;cases q
 have hH:H l=ae:=oQ g1 hl;refine⟨λi m B g=>m=xs.length-i/\i<=xs.length/\∃s K W O,aX X.K s K W j g/\bz (U S1) (U K) M s H1 g/\g l=aa (.lst B)/\¬s l/\¬U K l/\Reps X.K g s O B/\B.length<=i /\ Ok X.K E j M S1 H1 (jV cap dt de (xs.drop i) O W) (λys' t P S2 L=>Ok X.K E j P S2 L (R.ok (PO.lst ys') t) (λpo _ s K g=>∀a Sa,fO X.K g s po a Sa->(∀b,Sa b->H b=ae/\¬s b/\¬U K b/\∃o,g b=aa o/\eE o)->Q (.ref a) g)),⟨_,rfl,j4 _,M,S1,ε1,[],r1.al a0,a0.grow,upd_same,nF1,nS1,rfl,aY _,h1⟩,?_⟩;rintro i m B L ⟨rfl,hi,P,S2,t,O,N,I,el,nF2,nS2,n,hyl,q2⟩;have RH:=keep S2 P L I;by_cases bh:i<xs.length
 .obtain⟨v,hv⟩:∃v,vs[i]?=aa v:=⟨_,eW ∅⟩
  obtain⟨go,yl⟩:=(hw L RH i).1 v hv;refine .inr ⟨go,λv' g y=>⟨[aa v'],rfl,rfl,?_⟩⟩;obtain⟨e1,e2⟩:=yl v' g y;subst e1 e2;obtain⟨Z,hx,rx⟩:=rs.back hv;have ed:xs.drop i=Z::xs.drop (i+1):=by rw[zr bh];congr 1;exact(dR.mp hx).2
  rw[ed]at q2;have Y:=rx.grow I r1.fit;have q3:=Ok.bindB q2 I;obtain⟨Sb,ss,rb,okb⟩:=Ee N Y q3;intro C d f r p;refine ht C d f r p P Sb ss _ g _ rb (okb.imp λb _ F3 _ H3 _ _ ζ=>?_);obtain⟨T,S3,r3,G,q4⟩:=ζ;obtain⟨el3,nF3,nS3⟩:=G.stay el nS2 nF2;cases b with
  |false=>exact pV ⟨_,∅,rfl,bh,F3,S3,T,O,r3,I.trans G,el3,nF3,nS3,n.grow G N.fit,∅,q4⟩
  |true=>refine qh ?_;have q5:Ok X.K E j M S1 H1 ((dW (gz cap de Z T)).bind λy t=>jV cap dt de (xs.drop (i+1)) (O++[y]) t) _:=q4;obtain⟨Sc,sc,rc,okc⟩:=Ee r3 (Y.grow G N.fit) (Ok.bindB q5 (I.trans G));intro C d f r p;refine he C d f r p F3 Sc sc _ H3 _ rc (okc.imp λy _ F4 _ H4 _ _ ⟨ε4,S4,r4,g4,q6⟩ u ru=>?_);obtain⟨el4,nF4,nS4⟩:=g4.stay el3 nS3 nF3;have D:=(n.grow G N.fit).grow g4 r3.fit;obtain⟨gl,A,r5⟩:=r4.lay (o':=.lst (B++[u])) el4 trivial nF4 nS4;have g5:=((I.trans G).trans g4).lay (o':=.lst (B++[u])) hl;refine⟨el4,?_,_,∅,rfl,bh,F4,S4,ε4,O++[y],r5,g5,upd_same,nF4,nS4,(D.grow gl A).app (.one (ru.grow gl A)),by simp;lia,q6⟩;lia
 .have e:i=xs.length:=∅
  subst e;refine .inl ⟨(hw L RH _).2 hvl.symm,?_⟩;rw[List.drop_length]at q2;exact q2 P S2 L N I P S2 L N (bz.refl ..) l (λb=>b=l) ⟨⟨B,el,n⟩,λb=>qR⟩ λb z=>by subst z;exact⟨hH,nF2,nS2,_,el,trivial⟩
theorem oF{j d:az}{m pos:Pos}{i:List az}{o:ak->R (List PV)}{dt:ak->R Bool}{de:ak->R PV}(B:jx X c x N' cap)(v:X.calm=ah)(t:DI X E (.Name x m) d o)(q:∀C a b g f,DF (cx X c N' C a b g f) E0 i dt) (u:∀C a b g f,DE (cx X c N' C a b g f) E0 j de) (r:∀x,nV d X.env x=pure x:=by intro _;rfl):DN X E (.ListComp j [⟨.Name x m,d,i,0⟩] c pos) (dX cap o dt de):=λF S w l H Q p h=>bU (FU (wi:=sR X (.Name x m) d) (ts:=λl H Q=>∀C a b g f,xS (cx X c N' C a b g f) i l H Q) (te:=λl H Q=>∀C a b g f,jv (cx X c N' C a b g f) j l H Q) (pos:=pos) B v B8 (λC a b g f n s l H Q I h=>(h C a b g f).run n s I) (λC a b g f n s l H Q I h=>(h C a b g f).run n s I) r) (F8 t q u p h)
end
theorem LS(x y:Tx):tS x++tS y=tS (x++y):=by
 show(⟨x.toArray++y.toArray⟩:Str)=⟨(x++y).toArray⟩
 simp
def bB:PV->PV->Option PV
 |.int i,.int j=>aa (.int (i+j))
 |.str x,.str y=>if(x++y).length<=b8 then aa (.str (x++y))else ae
 |.tup xs,.tup a=>if xs≠[]/\a≠[]/\xs.length+a.length<=1000 then aa (.tup (xs++a))else ae
 |.lst xs,.lst a=>if xs.length+a.length<=b8 then aa (.lst (xs++a))else ae
 |_,_=>ae
def iO:PV->PV->Option PV
 |.int i,.int j=>aa (.int (i-j))
 |_,_=>ae
def vh(i:Int):Bool:=decide (-(2^64)<i/\i<2^64)
def lC:PV->PV->Option PV
 |.int i,.int j=>if vh i||vh j then aa (.int (i*j))else ae
 |.str x,.int j=>if 0<=j/\j<=100/\x.length<=100 then aa (.str (bO j.toNat x).flatten)else ae
 |_,_=>ae
def gG:PV->PV->Option PV
 |.int i,.int j=>if 0<j then aa (.int (i % j))else ae
 |_,_=>ae
def uC:PV->PV->Option PV
 |.int i,.int j=>if 0<=j/\j<=1000000/\i.natAbs<2^64 then aa (.int (i^j.toNat))else ae
 |_,_=>ae
def cG:PV->Option PV
 |.int i=>aa (.int (-i))
 |_=>ae
def Gv:R2:=λx y H Q=>∃l b xs a,x=.ref l/\y=.ref b/\Rd H l (.lst xs)/\Rd H b (.lst a)/\xs.length+a.length<=a_/\∀p,H p=ae->Q (.ref p) (upd H p (.lst (xs++a)))
def xA(K:ax):R2:=λx y H Q=>((lY λi j=>V.int (i+j)) x y H Q\/∃i j,x=.str i/\y=.str j/\i.length+j.length<=a_/\Q (.str (i++j)) H)\/(E1 K x y H Q\/Gv x y H Q)
def GH:R2:=λx y H Q=>rI Bh (λi j=>.int (i*j)) x y H Q\/∃(z:Tx) (n:Nat),x=tV z/\y=.int n/\n<=100/\z.length<=100/\Q (tV (bO n z).flatten) H
section
variable{X:Cx}{K:ax}
theorem rN:P2 K (lY λi j=>.int (i-j)) iO:=λF H x y v u Q pv b a e q=>by
 unfold iO at e;split at e
 .cases e;exact⟨_,_,b,a,q _ F H (Al.refl ..) rfl⟩
 .cases e
theorem sW:P2 K (rI (λ_ j=>0<j) λi j=>.int (i % j)) gG:=λF H x y v u Q pv b a e q=>by
 unfold gG at e;split at e
 .split at e
  .cases e;exact⟨_,_,b,a,by assumption,q _ F H (Al.refl ..) rfl⟩
  .cases e
 .cases e
theorem Ts:P2 K (rI Fs λi j=>.int (i^j.toNat)) uC:=λF H x y v u Q pv b a e q=>by
 unfold uC at e;split at e
 .split at e
  .cases e;exact⟨_,_,b,a,by assumption,q _ F H (Al.refl ..) rfl⟩
  .cases e
 .cases e
theorem kr:P1 K (rU λi=>.int (-i)) cG:=λF H x v Q pv a e q=>by
 unfold cG at e;split at e
 .cases e;exact⟨_,a,q _ F H (Al.refl ..) rfl⟩
 .cases e
theorem BD{c:List (ag×Obj)}{b:St}{H:Hp}{s:am}{l:ag}{xs:List V}(I:Inv X c b H s)(h:Rd H l (.lst xs)):∃(a:List ai) (n:Nat),bv xs a/\s.heap.get? l=aa {cls:=.type "list",data:=.seq a.toArray n}/\xs.length<=a_:=by obtain⟨z,a,n,r,e⟩:=h.ok I.hok;exact⟨a,n,r,e,z⟩
theorem MH:b7 X (iS .Add) Gv:=by
 intro B s p H x y v u Q I i g h;obtain⟨l,b,xs,t,rfl,rfl,f,j,A,q⟩:=h;cases i;cases g;obtain⟨c,n,r,e,_⟩:=BD I f;obtain⟨a,w,d,o,_⟩:=BD I j;have f:=r.length;have z:=d.length;refine PySem.P.add_list e o ?_ (by rw[cg,cg];lia);have m:c.toArray++a.toArray=(c++a).toArray:=by simp
 rw[m];exact⟨.ref _,_,I.lnew (t':=s.toks) (r.append d) (by rw[cL];lia),rfl,q _ I.fresh⟩
theorem fQ:b7 X (iS .Add) (xA X.K):=(Uy.or Mt).or (Us.or MH)
theorem fK:P2 K (xA K) bB:=λF H x y v u Q pv l j e q=>by
 unfold bB at e;split at e
 .cases e;exact .inl (.inl ⟨_,_,l,j,q _ F H (Al.refl ..) rfl⟩)
 .rename_i x y;split at e
  .rename_i c;cases e;refine .inl (.inr ⟨_,_,l.1,j.1,?_,?_⟩)
   .rw[lq,lq];rw[cL]at c;exact cQ c kP
   .exact q _ F H (Al.refl ..) ⟨by rw[LS];rfl,c⟩
  .cases e
 .rename_i xs s;split at e
  .rename_i c;cases e;obtain⟨a,n,rfl,r,f⟩:=l;obtain⟨b,m,rfl,o,d⟩:=j;have h:=f.len;have g:=d.len;refine .inr (.inl ⟨a,b,n,m,rfl,rfl,cW.of r,cW.of o,λz=>c.1 (by rw[z]at h;exact lf h.symm),by rw[h,g];exact AH c.2.2,λz=>absurd (by rw[z]at g;exact lf g.symm) c.2.1,λ_ p i=>?_⟩);exact q _ F _ (Al.new0 i) ⟨p,_,rfl,upd_same,(Al.new0 i).reps (f.app d)⟩
  .cases e
 .rename_i xs s;split at e
  .rename_i c;cases e;obtain⟨a,n,rfl,r,w,f⟩:=l;obtain⟨b,m,rfl,o,t,d⟩:=j;have h:=f.len;have g:=d.len;refine .inr (.inr ⟨a,b,n,m,rfl,rfl,r,o,by rw[h,g];exact cQ c kP,λp i=>?_⟩);exact q _ _ _ (Al.new i) ⟨p,_,rfl,.inl upd_same,.inr rfl,(Al.new i).reps (f.app d)⟩
  .cases e
 .cases e
theorem AU:b7 X (iS .Mult) GH:=Uk.or Pr
theorem Aw:P2 K GH lC:=λF H x y v u Q pv b a e q=>by
 unfold lC at e;split at e
 .rename_i i j;split at e
  .rename_i h;cases e;refine .inl ⟨_,_,b,a,?_,q _ F H (Al.refl ..) rfl⟩;rw[zf]at h;exact h.imp of_decide_eq_true of_decide_eq_true
  .cases e
 .rename_i x j;split at e
  .rename_i h;cases e;refine .inr ⟨x,j.toNat,b.1,?_,∅,h.2.2,q _ F H (Al.refl ..) ⟨rfl,?_⟩⟩
   .rw[show u=V.int j from a];congr 1;lia
   .rw[AZ];have c:j.toNat<=100:=∅
    exact cQ (zg c h.2.2) (by decide)
  .cases e
 .cases e
def fh(f:Int->Int->Bool):PV->PV->Option PV
 |.int i,.int j=>aa (.bl (f i j))
 |_,_=>ae
theorem lA{f:Int->Int->Bool}:P2 K (lY λi j=>.bl (f i j)) (fh f):=λF H x y v u Q pv b a e q=>by
 unfold fh at e;split at e
 .cases e;exact⟨_,_,b,a,q _ F H (Al.refl ..) rfl⟩
 .cases e
def dU:PV->Option V
 |.non=>aa .non
 |.bl b=>aa (.bl b)
 |.int i=>aa (.int i)
 |.str x=>aa (tV x)
 |_=>ae
theorem jP{H:Hp}{F:ag->Prop}{x:PV}{v w:V}(r:a8 K H F x v)(e:dU x=aa w):v=w:=by
 cases x <;> simp[dU]at e <;> subst e
 .exact r
 .exact r
 .exact r
 .exact r.1
theorem rD{x:PV}{w:V}(e:dU x=aa w):gb w=ah:=by
 cases x <;> simp[dU]at e <;> subst e <;> rfl
mutual
def cO:PV->PV->Option Bool
 |.tup xs,y=>match y with
  |.tup a=>g7 xs a
  |_=>ae
 |.lst xs,y=>match y with
  |.lst a=>g7 xs a
  |_=>ae
 |.non,y=>(dU y).map (dJ .non)
 |.bl b,y=>(dU y).map (dJ (.bl b))
 |.int i,y=>(dU y).map (dJ (.int i))
 |.str x,y=>(dU y).map (dJ (tV x))
 |.raw _,_=>ae
 |.exc _,_=>ae
def g7:List PV->List PV->Option Bool
 |[],c=>aa c.isEmpty
 |x::xs,c=>match c with
  |[]=>aa aj
  |y::c=>(cO x y).bind λa=>(g7 xs c).map λb=>a&&b
end
mutual
def jh:PV->Nat
 |.tup xs=>jl xs+1
 |.lst xs=>jl xs+1
 |_=>0
def jl:List PV->Nat
 |[]=>0
 |x::xs=>max (jh x) (jl xs)
end
theorem Ia{H:Hp}{d a:Nat}{x y:V}{k:Bool}(h:ja K H d x y k)(l:d<=a):ja K H a x y k:=λX g i b s u v A I f c j=>h X g i b s u v A I f c ∅
theorem xV{H:Hp}{F:ag->Prop}{w:V}{y:PV}{u:V}{k:Bool}{d:Nat}(b:gb w=ah)(e:(dU y).map (dJ w)=aa k)(a:a8 K H F y u):ja K H d w u k:=by
 cases q:dU y with
 |none=>rw[q]at e;cases e
 |some z=>
  rw[q]at e;cases e;rw[jP a q];exact Lg b (rD q)
theorem KJ{H:Hp}{a:ag}{xs b:List V}(h:Rd H a (.lst xs))(g:Rd H a (.lst b)):xs=b:=by
 rcases h with h|⟨o,h⟩ <;> rcases g with g|⟨c,g⟩ <;> rw[h]at g <;> cases g <;> rfl
theorem Tc{a:Bool}{e:Nat->Bool}{n m:Nat}:gy (λj=>if j=0 then a else e (j-1)) (n+1) (m+1)=(a&&gy e n m):=by
 unfold gy;rw[show min (n+1) (m+1)=min n m+1 by lia,vM,tq,Cw,if_pos rfl,Bool.and_assoc];congr 1;congr 1
 .simp
mutual
theorem AE{H:Hp}{F:ag->Prop}:∀(x y:PV) {v:V}{k:Bool},cO x y=aa k->a8 K H F x v->a8 K H F y v->k=ah
 |.tup xs,y,v,k,e,d,c=>by
  unfold cO at e;split at e
  .obtain⟨a,m,rfl,i,f⟩:=d;obtain⟨b,l,j,g,h⟩:=c;cases j;rw[i]at g;cases g;exact Br xs _ e f h
  .cases e
 |.lst xs,y,v,k,e,d,c=>by
  unfold cO at e;split at e
  .obtain⟨a,m,rfl,i,_,f⟩:=d;obtain⟨b,l,j,g,_,h⟩:=c;cases j;rw[KJ i g]at f;exact Br xs _ e f h
  .cases e
 |.non,y,v,k,e,d,c=>by
  unfold cO at e;cases q:dU y with
  |none=>rw[q]at e;cases e
  |some z=>rw[q]at e;cases e;rw[<-jP c q,show v=V.non from d];rfl
 |.bl b,y,v,k,e,d,c=>by
  unfold cO at e;cases q:dU y with
  |none=>rw[q]at e;cases e
  |some z=>rw[q]at e;cases e;rw[<-jP c q,show v=V.bl b from d];exact beq_self_eq_true b
 |.int b,y,v,k,e,d,c=>by
  unfold cO at e;cases q:dU y with
  |none=>rw[q]at e;cases e
  |some z=>rw[q]at e;cases e;rw[<-jP c q,show v=V.int b from d];exact beq_self_eq_true b
 |.str b,y,v,k,e,d,c=>by
  unfold cO at e;cases q:dU y with
  |none=>rw[q]at e;cases e
  |some z=>rw[q]at e;cases e;rw[<-jP c q,show v=tV b from d.1];exact beq_self_eq_true (tS b)
 |.raw _,_,_,_,e,_,_=>by unfold cO at e;cases e
 |.exc _,_,_,_,e,_,_=>by unfold cO at e;cases e
theorem Br{H:Hp}{F:ag->Prop}:∀(xs c:List PV) {d:List V}{k:Bool},g7 xs c=aa k->Reps K H F xs d->Reps K H F c d->k=ah
 |[],c,d,k,e,h,f=>by
  unfold g7 at e;rw[show d=[] from h]at f;have:=f.len;cases c with
  |nil=>cases e;rfl
  |cons=>simp at this
 |x::xs,c,d,k,e,h,f=>by
  unfold g7 at e;obtain⟨v,r,rfl,l,j⟩:=h;cases c with
  |nil=>have:=f.len;simp at this
  |cons y c=>
   obtain⟨p,q,o,n,m⟩:=f;cases o;simp only at e;cases g:cO x y with
   |none=>rw[g]at e;cases e
   |some a=>
    cases i:g7 xs c with
    |none=>rw[g,i]at e;cases e
    |some b=>
     rw[g,i]at e;cases e;rw[AE x y g l n,Br xs c i j m];rfl
end
mutual
theorem TC{H:Hp}{F:ag->Prop}:∀(x y:PV) {v u:V}{k:Bool},cO x y=aa k->a8 K H F x v->a8 K H F y u->ja K H (jh x) v u k
 |.tup xs,y,v,u,k,e,d,c=>by
  have o:=e;unfold cO at e;split at e
  .rename_i h;obtain⟨a,q,rfl,n,j⟩:=id d;obtain⟨b,p,rfl,m,i⟩:=id c;by_cases g:a=b
   .subst g;rw[AE _ _ o d c];exact Ea
   .obtain⟨f,l,rfl⟩:=uT xs h e j i;unfold jh;exact Mc (cW.of n) (cW.of m) g l
  .cases e
 |.lst xs,y,v,u,k,e,d,c=>by
  have o:=e;unfold cO at e;split at e
  .rename_i h;obtain⟨a,q,rfl,n,_,j⟩:=id d;obtain⟨b,p,rfl,m,_,i⟩:=id c;by_cases g:a=b
   .subst g;rw[AE _ _ o d c];exact Ea
   .obtain⟨f,l,rfl⟩:=uT xs h e j i;unfold jh;exact JW (.inl n) (.inl m) g l
  .cases e
 |.non,y,v,u,k,e,d,c=>by unfold cO at e;rw[show v=V.non from d];exact xV rfl e c
 |.bl b,y,v,u,k,e,d,c=>by unfold cO at e;rw[show v=V.bl b from d];exact xV rfl e c
 |.int b,y,v,u,k,e,d,c=>by unfold cO at e;rw[show v=V.int b from d];exact xV rfl e c
 |.str b,y,v,u,k,e,d,c=>by unfold cO at e;rw[show v=tV b from d.1];exact xV rfl e c
 |.raw _,_,_,_,_,e,_,_=>by unfold cO at e;cases e
 |.exc _,_,_,_,_,e,_,_=>by unfold cO at e;cases e
theorem uT{H:Hp}{F:ag->Prop}:∀(xs c:List PV) {d g:List V}{k:Bool},g7 xs c=aa k->Reps K H F xs d->Reps K H F c g -> ∃f:Nat->Bool,(∀(j:Nat) x y,d[j]?=aa x->g[j]?=aa y->ja K H (jl xs) x y (f j))/\k=gy f d.length g.length
 |[],c,d,g,k,e,m,i=>by
  unfold g7 at e;rw[show d=[] from m];refine⟨λ_=>ah,λj x y h=>by simp at h,?_⟩;have:=i.len;cases e;unfold gy;cases c with
  |nil=>simp at this;simp[this]
  |cons=>rw[this];simp
 |x::xs,c,d,g,k,e,m,i=>by
  unfold g7 at e;obtain⟨v,r,rfl,z,w⟩:=m;cases c with
  |nil=>
   cases e;rw[show g=[] from i];exact⟨λ_=>ah,λj x y _ h=>by simp at h,by simp[gy]⟩
  |cons y c=>
   obtain⟨u,C,rfl,B,A⟩:=i;simp only at e;cases l:cO x y with
   |none=>rw[l]at e;cases e
   |some a=>
    cases n:g7 xs c with
    |none=>rw[l,n]at e;cases e
    |some b=>
     rw[l,n]at e;cases e;obtain⟨f,t,rfl⟩:=uT xs c n w A;refine⟨λj=>if j=0 then a else f (j-1),λj p q s o=>?_,by rw[d_,d_,Tc]⟩;cases j with
     |zero=>simp at s o;subst s o;show ja K H _ _ _ (if(0:Nat)=0 then a else f (0-1));rw[if_pos rfl];exact Ia (TC x y l z B) (by unfold jl;exact Nat.le_max_left _ _)
     |succ j=>show ja K H _ _ _ (if j+1=0 then a else f (j+1-1));rw[if_neg ∅];exact Ia (t j p q (by simpa using s) (by simpa using o)) (show jl xs<=max (jh x) (jl xs)from Nat.le_max_right _ _)
end
def eqT(neg:Bool)(x y:PV):Option PV:=match dU x,dU y with
 |some v,aa u=>if uW v u then aa (.bl (neg^^decide (v=u)))else ae
 |none,ae=>if jh x<=8 then(cO x y).map λk=>.bl (neg^^k)else ae
 |_,_=>ae
def Hk(K:ax):R2:=λx y H Q=>GA x y H Q\/uu K aj x y H Q
def D6(K:ax):R2:=λx y H Q=>FA x y H Q\/uu K ah x y H Q
theorem vf(a:X.A.units+64<cLine):b7 X (eC .Eq) (Hk X.K):=Uu.or (Kf a)
theorem mY(a:X.A.units+64<cLine):b7 X (eC .NotEq) (D6 X.K):=UH.or (Qi a)
theorem Hl{H:Hp}{F:ag->Prop}{x y:PV}{v u:V}{k:Bool}{Q:VK}{neg:Bool}(g:dU x=ae)(e:cO x y=aa k)(w:jh x<=8)(t:a8 K H F x v)(s:a8 K H F y u)(q:Q (.bl (neg^^k)) H):uu K neg v u H Q:=by
 have c:∀{d:Bool},k=d->Q (.bl (if neg=ah then !d else d)) H:=λ{d} z=>by subst z;cases neg <;> simpa using q
 cases x with
 |tup xs=>
  unfold cO at e;split at e
  .rename_i h;obtain⟨a,j,rfl,p,m⟩:=t;obtain⟨b,i,rfl,o,l⟩:=s;obtain⟨f,n,r⟩:=uT xs h e m l;unfold jh at w;exact⟨a,b,j,i,jl xs,f,rfl,rfl,.inr ⟨cW.of p,cW.of o⟩,∅,n,c r⟩
  .cases e
 |lst xs=>
  unfold cO at e;split at e
  .rename_i h;obtain⟨a,j,rfl,p,_,m⟩:=t;obtain⟨b,i,rfl,o,_,l⟩:=s;obtain⟨f,n,r⟩:=uT xs h e m l;unfold jh at w;exact⟨a,b,j,i,jl xs,f,rfl,rfl,.inl ⟨.inl p,.inl o⟩,∅,n,c r⟩
  .cases e
 |raw _=>unfold cO at e;cases e
 |exc _=>unfold cO at e;cases e
 |non=>cases g
 |bl _=>cases g
 |int _=>cases g
 |str _=>cases g
theorem uy:P2 K (Hk K) (eqT aj):=λF H x y v u Q pv g f e q=>by
 unfold eqT at e;split at e
 .rename_i a b d h;split at e
  .rename_i i;cases e;rw[jP g d,jP f h];refine .inl ⟨i,?_⟩;have:=q (.bl (decide (a=b))) F H (Al.refl ..) (by simp[a8]);exact this
  .cases e
 .rename_i d h;split at e
  .rename_i j;cases c:cO x y with
   |none=>rw[c]at e;cases e
   |some k=>
    rw[c]at e;cases e;exact .inr (Hl (neg:=aj) d c j g f (q _ F H (Al.refl ..) rfl))
  .cases e
 .cases e
theorem nv:P2 K (D6 K) (eqT ah):=λF H x y v u Q pv g f e q=>by
 unfold eqT at e;split at e
 .rename_i a b d h;split at e
  .rename_i i;cases e;rw[jP g d,jP f h];refine .inl ⟨i,?_⟩;have:=q (.bl (!decide (a=b))) F H (Al.refl ..) (by simp[a8]);exact this
  .cases e
 .rename_i d h;split at e
  .rename_i j;cases c:cO x y with
   |none=>rw[c]at e;cases e
   |some k=>
    rw[c]at e;cases e;exact .inr (Hl (neg:=ah) d c j g f (q _ F H (Al.refl ..) rfl))
  .cases e
 .cases e
end
end Pu
namespace Pu
open L2
section
variable{X:Cx}{K:ax}
def wS(i j:Tx):Bool:=!(Ir (tS j) (tS i) 0 (tS j).length 1).isEmpty
def jz:List PV->Option (List V)
 |[]=>aa []
 |x::xs=>(dU x).bind λv=>(jz xs).map λr=>v::r
theorem ud{H:Hp}{F:ag->Prop}:∀{xs:List PV}{c a:List V},Reps K H F xs c->jz xs=aa a->c=a/\a.all gb=ah
 |[],_,_,r,e=>by cases e;exact⟨r,rfl⟩
 |x::xs,_,a,⟨v,r,rfl,f,d⟩,e=>by
  unfold jz at e;cases q:dU x with
  |none=>rw[q]at e;cases e
  |some w=>
   cases b:jz xs with
   |none=>rw[q,b]at e;cases e
   |some i=>
    rw[q,b]at e;cases e;obtain⟨h,g⟩:=ud d b;exact⟨by rw[jP f q,h],by rw[tq,rD q,g];rfl⟩
def rR(neg:Bool):PV->PV->Option PV
 |.str x,.str y=>aa (.bl (neg^^wS x y))
 |x,.lst a=>(dU x).bind λv=>(jz a).map λb=>.bl (neg^^uG v b)
 |x,.tup a=>(dU x).bind λv=>(jz a).map λb=>.bl (neg^^uG v b)
 |_,_=>ae
def HG(K:ax):R2:=λx y H Q=>(∃i j,x=.str i/\y=.str j/\Q (.bl (!(Ir j i 0 j.length 1).isEmpty)) H)\/AT K aj x y H Q
theorem Rv:b7 X (eC .In) (HG X.K):=Up.or RE
theorem E2{H:Hp}{F:ag->Prop}{x:PV}{c:List PV}{v:V}{p:ag}{b:List V}{Q:VK}{neg:Bool}{pv:PV}(g:a8 K H F x v)(i:cE K H p b\/cW K H p b)(h:Reps K H F c b)(e:((dU x).bind λv=>(jz c).map λf=>PV.bl (neg^^uG v f))=aa pv) (q:∀w,a8 K H F pv w->Q w H):AT K neg v (.ref p) H Q:=by
 cases a:dU x with
 |none=>rw[a]at e;cases e
 |some w=>
  cases d:jz c with
  |none=>rw[a,d]at e;cases e
  |some f=>
   rw[a,d]at e;cases e;obtain⟨rfl,j⟩:=ud h d;rw[jP g a];refine⟨p,b,rfl,i,rD a,j,?_⟩;have:=q _ rfl;cases neg <;> simpa using this
theorem J2:P2 K (HG K) (rR aj):=λF H x y v u Q pv d c e q=>by
 unfold rR at e;split at e
 .cases e;exact .inl ⟨_,_,d.1,c.1,by have:=q _ F H (Al.refl ..) rfl;simpa[wS]using this⟩
 .obtain⟨a,h,rfl,g,_,f⟩:=c;exact .inr (E2 (neg:=aj) d (.inl (.inl g)) f e λw b=>q w F H (Al.refl ..) b)
 .obtain⟨a,h,rfl,g,f⟩:=c;exact .inr (E2 (neg:=aj) d (.inr (cW.of g)) f e λw b=>q w F H (Al.refl ..) b)
 .cases e
def bw:List PV->Option PV
 |[.str x]=>aa (.int x.length)
 |[.lst xs]=>aa (.int xs.length)
 |[.tup xs]=>aa (.int xs.length)
 |_=>ae
theorem gH{H:Hp}{F:ag->Prop}{x:PV}{a:List V}(r:Reps K H F [x] a):∃v,a=[v]/\a8 K H F x v:=by obtain⟨v,b,rfl,d,c⟩:=r;rw[show b=[] from c];exact⟨v,rfl,d⟩
theorem ig:PL K (λxs H Q=>∃x n,xs=[x]/\EL K x H n/\Q (.int n) H) bw:=λF H xs h Q pv c e q=>by
 unfold bw at e;split at e
 .cases e;obtain⟨v,rfl,g⟩:=gH c;rw[g.1];exact⟨_,_,rfl,⟨by rw[lq];exact cQ g.2 kP,rfl⟩,by rw[lq];exact q _ F H (Al.refl ..) rfl⟩
 .cases e;obtain⟨v,rfl,a,b,rfl,f,_,d⟩:=gH c;exact⟨_,_,rfl,.inl ⟨b,.inl f,rfl⟩,by rw[d.len];exact q _ F H (Al.refl ..) rfl⟩
 .cases e;obtain⟨v,rfl,a,b,rfl,f,d⟩:=gH c;exact⟨_,_,rfl,.inr ⟨b,cW.of f,rfl⟩,by rw[d.len];exact q _ F H (Al.refl ..) rfl⟩
 .cases e
def sw:List PV->Option PO
 |[.lst xs]=>aa (.lst xs)
 |[.tup xs]=>aa (.lst xs)
 |_=>ae
theorem Gy:l0 K (λxs H Q=>∃p c,xs=[.ref p]/\(cE K H p c\/cW K H p c)/\∀l,H l=ae->Q (.ref l) (upd H l (.lst c))) sw:=λF H xs j Q m i h e q=>by
 unfold sw at e;split at e
 .cases e;obtain⟨v,rfl,a,d,rfl,g,_,f⟩:=gH h;exact⟨a,d,rfl,.inl (.inl g),λl b=>q l F _ _ (Al.new0 b) (xy b f) (xK b i trivial)⟩
 .cases e;obtain⟨v,rfl,a,d,rfl,g,f⟩:=gH h;exact⟨a,d,rfl,.inr (cW.of g),λl b=>q l F _ _ (Al.new0 b) (xy b f) (xK b i trivial)⟩
 .cases e
def ma:List PV->Option PV
 |[.lst xs]=>aa (.tup xs)
 |[.tup xs]=>aa (.tup xs)
 |_=>ae
theorem yD:PL K (λxs H Q=>∃p d,xs=[.ref p]/\((cE K H p d/\∀l,H l=ae->Q (.ref l) (upd H l (.tup d)))\/(cW K H p d/\Q (.ref p) H))) ma:=λF H xs i Q pv g e q=>by
 unfold ma at e;split at e
 .cases e;obtain⟨v,rfl,a,b,rfl,c,_,f⟩:=gH g;exact⟨a,b,rfl,.inl ⟨.inl c,λl h=>q _ F _ (Al.new0 h) ⟨l,b,rfl,upd_same,(Al.new0 h).reps f⟩⟩⟩
 .cases e;obtain⟨v,rfl,a,b,rfl,c,f⟩:=gH g;exact⟨a,b,rfl,.inr ⟨cW.of c,q _ F H (Al.refl ..) ⟨a,b,rfl,c,f⟩⟩⟩
 .cases e
def gA:List PV->Option (List Tx)
 |[]=>aa []
 |.str x::xs=>(gA xs).map (x::·)
 |_=>ae
def ao(ls:List Tx):List PV:=ls.map .str
theorem rQ(a:List Tx):gA (ao a)=aa a:=by
 induction a with
 |nil=>rfl
 |cons x a b=>show(gA (ao a)).map (x::·)=_;rw[b];rfl
theorem rJ:∀{xs:List PV}{a:List Tx},gA xs=aa a->xs=ao a
 |[],a,e=>by cases e;rfl
 |.str x::xs,a,e=>by
  unfold gA at e;cases q:gA xs with
  |none=>rw[q]at e;cases e
  |some r=>rw[q]at e;cases e;rw[rJ q];rfl
 |.non::_,_,e=>by cases e
 |.bl _::_,_,e=>by cases e
 |.int _::_,_,e=>by cases e
 |.tup _::_,_,e=>by cases e
 |.lst _::_,_,e=>by cases e
 |.raw _::_,_,e=>by cases e
 |.exc _::_,_,e=>by cases e
theorem Ul{H:Hp}{F:ag->Prop}:∀{a:List Tx}{b:List V},Reps K H F (ao a) b↔b=dG a/\∀x∈a,x.length<=b8
 |[],b=>by simp[ao,Reps,dG]
 |x::a,b=>by
  show(∃v r,b=v::r/\(v=tV x/\x.length<=b8)/\Reps K H F (ao a) r)↔_;constructor
  .rintro⟨v,r,rfl,⟨rfl,f⟩,h2⟩;obtain⟨rfl,d⟩:=Ul.mp h2;exact⟨rfl,λy c=>by
    rcases bE.mp c with rfl|c
    .exact f
    .exact d y c⟩
  .rintro⟨rfl,h⟩;exact⟨tV x,dG a,rfl,⟨rfl,h x (by simp)⟩,Ul.mpr ⟨rfl,λy c=>h y (by simp[c])⟩⟩
def mT:List PV->Option (List Bool)
 |[]=>aa []
 |.bl b::xs=>(mT xs).map (b::·)
 |_=>ae
theorem Gb{H:Hp}{F:ag->Prop}:∀{xs:List PV}{a:List V}{bs:List Bool},Reps K H F xs a->mT xs=aa bs->a=bs.map V.bl
 |[],_,_,r,e=>by cases e;exact r
 |.bl b::xs,_,bs,⟨v,r,rfl,d,c⟩,e=>by
  unfold mT at e;cases q:mT xs with
  |none=>rw[q]at e;cases e
  |some f=>rw[q]at e;cases e;rw[Gb c q,show v=V.bl b from d];rfl
 |.non::_,_,_,_,e=>by cases e
 |.str _::_,_,_,_,e=>by cases e
 |.int _::_,_,_,_,e=>by cases e
 |.tup _::_,_,_,_,e=>by cases e
 |.lst _::_,_,_,_,e=>by cases e
 |.raw _::_,_,_,_,e=>by cases e
 |.exc _::_,_,_,_,e=>by cases e
def sC:List PV->Option PV
 |[.lst xs]=>(mT xs).map λbs=>.bl (bs.all id)
 |_=>ae
theorem Ij:PL K (λxs H Q=>∃(p:ag) (bs:List Bool),xs=[.ref p]/\cE K H p (bs.map V.bl)/\Q (.bl (bs.all id)) H) sC:=λF H xs h Q pv f e q=>by
 unfold sC at e;split at e
 .rename_i d;cases b:mT d with
  |none=>rw[b]at e;cases e
  |some bs=>
   rw[b]at e;cases e;obtain⟨v,rfl,a,i,rfl,c,_,g⟩:=gH f;rw[Gb g b]at c;exact⟨a,bs,rfl,.inl c,q _ F H (Al.refl ..) rfl⟩
 .cases e
def sQ:PV->Option String
 |.non=>aa "NoneType"
 |.bl _=>aa "bool"
 |.int _=>aa "int"
 |.str _=>aa "str"
 |.tup _=>aa "tuple"
 |.lst _=>aa "list"
 |_=>ae
def e_:List PV->Option PV
 |[x,.raw (.ty T)]=>(sQ x).bind λt=>(eO [] (.type t) (.type T)).map λb=>.bl b
 |_=>ae
theorem rO:eM X (.builtin "isinstance") (λxs H Q=>∃x t T b,xs=[x,.ty T]/\jk X.K H x (.type t)/\eO X.K (.type t) (.type T)=aa b/\Q (.bl b) H):=by
 intro l s g H xs i Q I r h;obtain⟨x,t,T,b,rfl,ty,e,q⟩:=h;cases r with
 |cons f d=>
  cases d with
  |cons c a=>
   cases a;cases c;exact M7 I f ty e λj=>⟨.bl b,H,I.tok _,rfl,q⟩
theorem NO{H:Hp}{F:ag->Prop}{x:PV}{v:V}{t:String}(r:a8 K H F x v)(e:sQ x=aa t):jk K H v (.type t):=by
 cases x with
 |non=>cases e;rw[show v=V.non from r];exact .non
 |bl b=>cases e;rw[show v=V.bl b from r];exact .bl b
 |int b=>cases e;rw[show v=V.int b from r];exact .int b
 |str b=>cases e;rw[show v=tV b from r.1];exact .str _
 |tup xs=>cases e;obtain⟨a,d,rfl,c,_⟩:=r;exact .tup c
 |lst xs=>
  cases e;obtain⟨a,d,rfl,c,_⟩:=r;rcases c with c|⟨o,c⟩
  .exact .lst c
  .exact .frz c
 |raw _=>cases e
 |exc _=>cases e
theorem sm:PL K (λxs H Q=>∃x t T b,xs=[x,.ty T]/\jk K H x (.type t)/\eO K (.type t) (.type T)=aa b/\Q (.bl b) H) e_:=λF H xs i Q pv d e q=>by
 unfold e_ at e;split at e
 .rename_i x T;cases a:sQ x with
  |none=>rw[a]at e;cases e
  |some t=>
   cases c:eO [] (.type t) (.type T)with
   |none=>rw[a,gT,c]at e;cases e
   |some b=>
    rw[a,gT,c]at e;cases e;obtain⟨v,j,rfl,h,g⟩:=d;obtain⟨u,rfl,f⟩:=gH g;rw[show u=V.ty T from f];exact⟨v,t,T,b,rfl,NO h a,c,q _ F H (Al.refl ..) rfl⟩
 .cases e
theorem rT{E:XK}{x:Str}{T:String}{f:Pos}(c:X.mg x=ae)(a:eF x=aa (.type T))(d:Gl X x:=by rfl)(b:x≠"__name__":=by decide)(g:(x==("__debug__":Str))=aj:=by decide):DE X E (.Name x f) (dC (.raw (.ty T))):=λF S i h H Q r q=>bU (NE (v:=.ty T) d c a rfl b g) (q F S H r (bz.refl ..) _ rfl)
def bG:PV->PV->Option PV
 |.lst xs,.int i=>gw xs i
 |.tup xs,.int i=>gw xs i
 |.str x,.int i=>(gw x i).map λc=>.str [c]
 |_,_=>ae
theorem Ek{H:Hp}{F:ag->Prop}{xs:List PV}{a:List V}{i:Int}{x:PV}(r:Reps K H F xs a)(e:gw xs i=aa x):∃v,gw a i=aa v/\a8 K H F x v:=by
 unfold gw at e ⊢;rw[r.len];cases q:kM xs.length i with
 |none=>rw[q]at e;cases e
 |some j=>rw[q]at e;exact r.get e
theorem iQ:P2 K (Hg K) bG:=λF H x y v u Q pv b f e q=>by
 unfold bG at e;split at e
 .rename_i xs i;obtain⟨a,d,rfl,j,_,g⟩:=b;obtain⟨w,m,l⟩:=Ek g e;exact .inl ⟨a,d,i,w,rfl,f,.inl j,m,q _ F H (Al.refl ..) l⟩
 .rename_i xs i;obtain⟨a,d,rfl,j,g⟩:=b;obtain⟨w,m,l⟩:=Ek g e;exact .inr (.inl ⟨a,d,i,w,rfl,f,cW.of j,m,q _ F H (Al.refl ..) l⟩)
 .rename_i x i;cases h:gw x i with
  |none=>rw[h]at e;cases e
  |some c=>
   rw[h]at e;cases e;rw[b.1];exact .inr (.inr ⟨_,i,c,rfl,f,by rw[lq];exact cQ b.2 kP,by rw[oX];exact h,q _ F H (Al.refl ..) ⟨rfl,by show 1<=b8;decide⟩⟩)
 .cases e
def eN{a:Type}(xs:List a)(b c:Option Int):List a:=(xs.drop (HT.sIx xs.length 0 b)).take (HT.sIx xs.length xs.length c-HT.sIx xs.length 0 b)
theorem O3{a:Type}(xs:List a)(b c:Option Int):(eN xs b c).length<=xs.length:=by unfold eN;rw[jZ,k9];lia
def bV:PV->Option Int->Option Int->Option PV
 |.str x,a,b=>aa (.str (eN x a b))
 |.lst xs,a,b=>aa (.lst (eN xs a b))
 |.tup xs,a,b=>if HT.sIx xs.length 0 a=0/\HT.sIx xs.length xs.length b=xs.length then ae else aa (.tup (eN xs a b))
 |_,_,_=>ae
def FM(K:ax):V->Option Int->Option Int->Hp->VK->Prop:=λx a b H Q=>Gg x a b H Q\/(FG K x a b H Q\/GW K x a b H Q)
theorem ie:ng X (FM X.K):=Uj.or (Um.or MX)
theorem EI{H:Hp}{F:ag->Prop}{xs:List PV}{a:List V}(r:Reps K H F xs a)(b c:Option Int):Reps K H F (eN xs b c) (oO a b c):=by unfold eN oO;rw[r.len];exact(r.drop _).take _
theorem hZ:Gk K (FM K) bV:=λF H x h i v Q pv b e q=>by
 unfold bV at e;split at e
 .cases e;rw[b.1];refine .inl ⟨_,rfl,by rw[lq];exact cQ b.2 kP,?_⟩;refine q _ F H (Al.refl ..) ⟨?_,cQ (O3 ..) b.2⟩;unfold l7 eN;rw[lq,oX];rfl
 .cases e;obtain⟨a,f,rfl,g,_,d⟩:=b;exact .inr (.inl ⟨a,f,rfl,.inl g,λp c=>q _ _ _ (Al.new c) ⟨p,_,rfl,.inl upd_same,.inr rfl,(Al.new c).reps (EI d h i)⟩⟩)
 .split at e
  .cases e
  .rename_i j;cases e;obtain⟨a,f,rfl,g,d⟩:=b;exact .inr (.inr ⟨a,f,rfl,cW.of g,by rw[d.len];exact j,λp c=>q _ _ _ (Al.new0 c) ⟨p,_,rfl,upd_same,(Al.new0 c).reps (EI d h i)⟩⟩)
 .cases e
variable{E:XK}{g l a b:az}{d:ak->R PV}{m:ak->R (List PV)}{p f:Pos}
def g9:PV->Option (List PV)
 |.lst xs=>aa xs
 |.tup xs=>aa xs
 |.str x=>aa (x.map λc=>.str [c])
 |_=>ae
def bW(d:ak->R PV):ak->R (List PV):=λε=>(d ε).bind λx ε1=>aF (g9 x) ε1
theorem Fp{H:Hp}{F:ag->Prop}:∀(x:Tx),Reps K H F (x.map λc=>PV.str [c]) (x.map sg)
 |[]=>rfl
 |c::x=>⟨sg c,x.map sg,rfl,⟨rfl,by show 1<=b8;decide⟩,Fp x⟩
theorem jW(he:DE X E l d):DI X E g l (bW d):=λF S ε Z H Rr rl h=>Bx.mk λaf s I=>by
 have w:=he F S ε Z H (λv r=>∃B D u x,aX X.K B D u Z r/\a8 X.K r B x v/\Ok X.K E Z B D r (aF (g9 x) u) (λpvs _ F' S' H'=>∀J L RR,Reps X.K H' F' pvs L->L.length<=a_->Walk J L RR->(∀S'' F'' Y,bz (U S') (U S'') F' F'' H' Y->RR Y)->Rr J H')) rl
  ((Ok.bind h).imp λx u B D r G g1 q v N=>⟨B,D,u,x,G,N,q⟩)
 refine aL (w.run af s I) λv c ζ=>?_;obtain⟨x,r,y,rx,B,D,u,pv,G,N,q⟩:=ζ;cases pv with
 |lst xs=>
  obtain⟨a,M,rfl,C,hF,ra⟩:=N;cases rx;obtain⟨O,rr,pp,P⟩:=y.list (.inl C);refine Cy pp.isList ?_;refine⟨c.heap.objs.size,[c.heap.objs.size],_,_,r,rfl,y.kept (t':=c.toks) λb o e=>bn _ e,OJ a _,⟨_,cy _ rfl,rfl,rfl⟩,λb T=>?_,q B D r G (bz.refl ..) (z_ X.K a) M (λH=>cE X.K H a M) ra P OZ λS2 F2 H2 g2=>.inl (g2.lst G.fit hF C)⟩;have e:b=c.heap.objs.size:=by simpa using T
  subst e;exact y.fpOk (aY _) (y.hok.fresh (aY _))
 |tup xs=>
  obtain⟨a,M,rfl,C,ra⟩:=N;cases rx;obtain⟨O,rr,pp,P⟩:=y.tuple (cW.of C);refine wpAny_pyIter_tuple (show c.heap.IsTuple a O.toArray from pp) ?_;refine⟨c.heap.objs.size,[c.heap.objs.size],_,_,r,rfl,y.kept (t':=c.toks) λb o e=>bn _ e,Ry a _,⟨_,cy _ rfl,rfl,rfl⟩,λb T=>?_,q B D r G (bz.refl ..) (Bm X.K a) M (λH=>cW X.K H a M) ra P Kn λS2 F2 H2 g2=>cW.of (g2.imm G.fit C id)⟩;have e:b=c.heap.objs.size:=by simpa using T
  subst e;exact y.fpOk (aY _) (y.hok.fresh (aY _))
 |str z=>
  obtain⟨rfl,P⟩:=N;obtain⟨t,rfl⟩:=rx;have qq:Rr (vm (tS z)) r:=q B D r G (bz.refl ..) (vm (tS z)) (z.map sg) (λ_=>True) (Fp z) (by rw[cM];exact cQ P kP) (by have:=PX (z:=tS z);rw[oX]at this;exact this) λ_ _ _ _=>trivial;have W:∀(n:String) (j:Nat->aB->Prop),(∀i h,j i h->∃o n L,h.get? c.heap.objs.size=aa o/\o.cls=.type n/\o.data=.fields L /\ ["enumerate","zip","dict_itemiterator","dict_reverseitemiterator","odict_iterator","itertools.zip_longest","itertools.pairwise"].contains n=aj) ->
    (∀(A:aT) (i:Nat) (s:am) (Q:ai->am->Prop) (E:ai->am->Prop),j i s.heap->Q (.ref c.heap.objs.size) s->ar (aw X.prog X.w) A (mq (.ref c.heap.objs.size)) Q E s) ->
    (∀A:aT,A.handled=ae->Walks X.prog X.w A c.heap.objs.size [c.heap.objs.size] [c.heap.objs.size] (tS z).cps.size (SignAt (tS z)) j) ->
    j 0 (c.heap.push {cls:=.type n,data:=.fields #[.str (tS z) t,.int 0 0]}) ->
    ue X af Z g Rr (.ref c.heap.objs.size) {c with heap:=c.heap.push {cls:=.type n,data:=.fields #[.str (tS z) t,.int 0 0]}}:=λn j q h2 h3 h4=>by
   refine⟨c.heap.objs.size,[c.heap.objs.size],j,vm (tS z),r,rfl,y.kept (t':=c.toks) λb o e=>bn _ e,Ra q h2 h3,h4,λb T=>?_,qq⟩;have e:b=c.heap.objs.size:=by simpa using T
   subst e;exact y.fpOk (aY _) (y.hok.fresh (aY _))
  cases C:(tS z).cps.all (· < 128)
  .refine wpAny_pyIter_wide C (W "str_iterator" (λi h=>h.IsStrIter c.heap.objs.size "str_iterator" (tS z) t i) (λi h ⟨o,e1,e2,e3⟩=>⟨o,_,_,e1,e2,e3,by decide⟩) (λA i s Q E st h=>wpAny_pyIter_striter_wide st h) (λA' hA=>Walks.strWide hA _ (tS z) t) ⟨_,cy _ rfl,rfl,rfl⟩)
  .refine wpAny_pyIter_ascii C (W "str_ascii_iterator" (λi h=>h.IsStrIter c.heap.objs.size "str_ascii_iterator" (tS z) t i) (λi h ⟨o,e1,e2,e3⟩=>⟨o,_,_,e1,e2,e3,by decide⟩) (λA i s Q E st h=>wpAny_pyIter_striter_ascii st h) (λA' hA=>Walks.strAscii hA _ (tS z) t) ⟨_,cy _ rfl,rfl,rfl⟩)
 |non=>exact(show False from q).elim
 |bl _=>exact(show False from q).elim
 |int _=>exact(show False from q).elim
 |raw _=>exact(show False from q).elim
 |exc _=>exact(show False from q).elim
def gY(c:Int)(n:Nat):List PV:=(cz n).map λi=>PV.int (c+(i:Nat))
theorem Lc{H:Hp}{F:ag->Prop}(c:Int)(n:Nat):Reps K H F (gY c n) (sh c n):=by
 unfold gY sh
 induction (cz n)with
 |nil=>rfl
 |cons x xs h=>exact⟨_,_,rfl,rfl,h⟩
def nr:List PV->Option (List PV)
 |[.int j]=>if j<=1000000/\-1000000<=j then aa (gY 0 j.toNat)else ae
 |_=>ae
theorem z8(w:X.mg "range"=ae)(y:DA X E [a] m)(x:Gl X "range":=by rfl)(u:aM [a] X.env=[(aj,aK a X.env)]:=by rfl):DI X E g (.Call (.Name "range" p) [a] [] f) (dL nr m):=λF S o i H I r h=>by
 refine Fc (S_ x w gL u) (y F S o i H _ r ((Ok.bind h).imp λxs n B z A s G c C t=>?_));unfold nr at c;split at c
 .rename_i j;split at c
  .rename_i D;obtain⟨v,rfl,q⟩:=gH t;refine⟨j,by rw[show v=V.int j from q],∅,∅,c B z A s (bz.refl ..) _ _ _ (Lc 0 j.toNat) (by rw[Aq,k8];lia) Nh λ_ _ _ _=>trivial⟩
  .exact c.elim
 .exact c.elim
end
section
variable{K:ax}{F:ag->Prop}{S:Nat->ag->Prop}{f:ak}{l:St}{H:Hp}{i:Nat}{p m:List PV}{d:List V}{a:ag}
theorem aX.lstAt(r:aX K F S f l H)(e:f[i]?=aa (.own (.lst p))):∃a c,l[i]?=aa (aa (.ref a))/\H a=aa (.lst c)/\Reps K H F p c/\S i a/\∀b,S i b->b=a:=by obtain⟨a,o,⟨c,n,j⟩,g⟩:=r.own i _ e;exact⟨a,c,o,n,j,(g a).mpr rfl,λb h=>(g b).mp h⟩
theorem aX.upd(r:aX K F S f l H)(e:f[i]?=aa (.own (.lst p)))(D:l[i]?=aa (aa (.ref a)))(h:Reps K H F m d):aX K F S (f.set i (.own (.lst m))) l (upd H a (.lst d))/\bz (U S) (U S) F F H (upd H a (.lst d)):=by
 obtain⟨N,J,E,M,L,x,B⟩:=r.lstAt e;rw[D]at E;cases E;have A:i<f.length:=(dR.mp e).1;have g:bz (U S) (U S) F F H (L2.upd H a (.lst d)):=⟨λ_ z=>z,λb o q n=>by rw[bj (by rintro rfl;exact n ⟨i,x⟩)];exact q,λb o q=>by
  by_cases C:b=a
  .subst C;exact⟨_,upd_same⟩
  .exact⟨o,by rw[bj C];exact q⟩,λ_ z=>.inl z,λ_ z=>.inl z⟩
 refine⟨⟨by rw[gR];exact r.len,λb z=>let ⟨o,q⟩:=r.ex b z;g.there b o q,λj pv q=>?_,λj y q=>?_,λj b z=>?_,r.dist⟩,g⟩
 .have s:i≠j:=by rintro rfl;rw[gB A]at q;cases q
  rw[eU s]at q;obtain⟨v,u,t⟩:=r.val j pv q;exact⟨v,u,t.grow g r.fit⟩
 .by_cases s:i=j
  .subst s;rw[gB A]at q;cases q;exact⟨a,D,⟨d,upd_same,h.grow g r.fit⟩,λb=>⟨B b,λz=>by rw[z];exact x⟩⟩
  .rw[eU s]at q;obtain⟨c,u,t⟩:=r.own j y q;refine⟨c,u,t.mono (λ_ _ z=>z.grow g r.fit) (λ_ _ z=>z.grow g r.fit) λb o z w=>?_⟩;rw[bj (by rintro rfl;exact s (r.dist i j b x z))];exact w
 .obtain⟨⟨y,u⟩,t,o,I,G⟩:=r.foot j b z;by_cases s:i=j
  .subst s;rw[B b z];exact⟨⟨_,gB A⟩,by rw[<-B b z];exact t,_,upd_same,trivial⟩
  .exact⟨⟨y,by rw[eU s];exact u⟩,t,o,by rw[bj (by rintro rfl;exact s (r.dist i j b x z))];exact I,G⟩
end
section
variable{X:Cx}{E:XK}{pin:List Nat}{e b:az}{de db:ak->R PV}{d:Pos}
def eh(a:ak)(i:Nat):Option (List PV):=match a[i]? with
 |some (.own (.lst xs))=>aa xs
 |_=>ae
theorem jg{a:ak}{i:Nat}{xs:List PV}(h:eh a i=aa xs):a[i]?=aa (.own (.lst xs)):=by
 unfold eh at h;split at h
 .cases h;assumption
 .cases h
def nq(i:Nat)(de:ak->R PV):ak->R aP:=λc=>(aF (eh c i) c).bind λ_ c=>(de c).bind λy a=>(aF (eh a i) a).bind λxs a=>if xs.length<b8 then .ok .next (a.set i (.own (.lst (xs++[y]))))else .no
theorem A7(i:Nat){x:Str}{p f c:Pos}(M:DE X E e de)(P:X.N[i]?=aa x:=by rfl)(J:ef X.env.scope x:=by first|exact Or.inl rfl|exact Or.inr (Or.inl rfl)|exact Or.inr (Or.inr rfl))(N:(x==("__debug__":Str))=aj:=by decide)(bo:(x==("__classdict__":Str))=aj:=by decide) (Y:j0 (.Name x p) "append" X.env (aK (.Name x p) X.env)=aK (.Name x p) X.env:=by rfl)(W:((cZ c (aM [e] X.env)).all (λx=>!x.1)&&(qK c (qL [] X.env)).all (λx=>x.1.isSome)&&decide ([e].length+([]:List jE).length+(if([]:List jE).isEmpty then 0 else 1)<30))=ah:=by rfl)(T:(f.endLine == c.line)=ah:=by rfl) (w:aM [e] X.env=(aj,aK e X.env)::aM [] X.env:=by rfl) (Q:(cZ c (aM [] X.env)).any (·.1)=aj:=by rfl)(K:kw (.Call (.Attribute (.Name x p) "append" f) [e] [] c) ae d.line X.env=pure aj:=by rfl):DS X E pin (.Expr (.Call (.Attribute (.Name x p) "append" f) [e] [] c) d) (nq i de):=λF S r o H D s h=>by
 unfold nq at h;cases n:eh r i with
 |none=>rw[n]at h;exact h.elim
 |some z=>
  rw[n]at h;simp only[b_,R.bind_ok]at h;obtain⟨a,A,m,O,_,_,_⟩:=s.lstAt (jg n);refine je (A_ (va CG PySem.F.slot_list_append PySem.F.type_list_append Gs (fj P J N bo) (iH bD jU w) Y W T w Q) K) ⟨.ref a,m,.inl ⟨rfl,_,cE.of O⟩,?_⟩;refine M F S r o H _ s (h.bindE.imp λy l F1 S1 H1 u g1 q v C=>?_);cases j:eh l i with
  |none=>rw[j]at q;exact q.elim
  |some xs=>
   rw[j]at q;simp only[b_,R.bind_ok]at q;obtain⟨a',B,g,I,t,_,_⟩:=u.lstAt (jg j);rw[m]at g;cases g;split at q
   .rename_i L;obtain⟨G,Z⟩:=u.upd (jg j) m (t.app (.one C));exact⟨a,B,v,rfl,rfl,I,by rw[t.len];exact fU L kP,q F1 S1 o _ G Z (ju.refl _ _)⟩
   .exact q.elim
def OD:V->List V->Hp->VK->Prop:=λx c H Q=>∃l b xs a,x=.ref l/\c=[.ref b]/\H l=aa (.lst xs)/\Rd H b (.lst a)/\xs.length+a.length<=a_/\Q .non (L2.upd H l (.lst (xs++a)))
theorem Pe:vr X "list.extend" OD:=by
 intro L s A H x C v D Q I j m h;obtain⟨l,b,xs,B,rfl,rfl,i,t,J,q⟩:=h;cases j;obtain⟨u,rfl,o⟩:=m.one;cases o;obtain⟨z,c,n,r,K,e⟩:=I.lstM i;obtain⟨a,p,g,w,_⟩:=BD I t;have G:=g.length;have f:c.toArray.size+a.toArray.size<=a_:=by rw[cg,cg];lia
 have y:¬(!c.toArray.isEmpty&&IE (c.toArray.size+a.toArray.size))=ah:=by rw[Q1 f,Bool.and_false];exact fc
 refine tu F.slot_list_extend ⟨_,e,rfl⟩ F.entry_list_extend (F.args_list_extend_2 _ _)
  (AutoSeq1.list_extend_list_list_0 l c.toArray n b a.toArray p y (by rw[cg];lia) ∅) ⟨e,w,?_⟩
 refine⟨.non,_,I.lset (its':=c++a) i e (by simp) (r.append g) ?_,rfl,q⟩;rw[cL];lia
def xZ(i:Nat)(de:ak->R PV):ak->R aP:=λc=>(aF (eh c i) c).bind λ_ c=>(de c).bind λy a=>(aF (eh a i) a).bind λxs a=>match y with
 |.lst f=>if xs.length+f.length<=b8 then .ok .next (a.set i (.own (.lst (xs++f))))else .no
 |_=>.no
theorem FK(i:Nat){x:Str}{p g f:Pos}(P:DE X E e de)(Y:X.N[i]?=aa x:=by rfl)(M:ef X.env.scope x:=by first|exact Or.inl rfl|exact Or.inr (Or.inl rfl)|exact Or.inr (Or.inr rfl))(Q:(x==("__debug__":Str))=aj:=by decide)(bo:(x==("__classdict__":Str))=aj:=by decide) (h1:j0 (.Name x p) "extend" X.env (aK (.Name x p) X.env)=aK (.Name x p) X.env:=by rfl)(h2:((cZ f (aM [e] X.env)).all (λx=>!x.1)&&(qK f (qL [] X.env)).all (λx=>x.1.isSome)&&decide ([e].length+([]:List jE).length+(if([]:List jE).isEmpty then 0 else 1)<30))=ah:=by rfl)(h3:(g.endLine == f.line)=ah:=by rfl) (A:aM [e] X.env=(aj,aK e X.env)::aM [] X.env:=by rfl) (Z:(cZ f (aM [] X.env)).any (·.1)=aj:=by rfl)(N:kw (.Call (.Attribute (.Name x p) "extend" g) [e] [] f) ae d.line X.env=pure aj:=by rfl):DS X E pin (.Expr (.Call (.Attribute (.Name x p) "extend" g) [e] [] f) d) (xZ i de):=λF S s r H D t h=>by
 unfold xZ at h;cases o:eh s i with
 |none=>rw[o]at h;exact h.elim
 |some B=>
  rw[o]at h;simp only[b_,R.bind_ok]at h;obtain⟨a,C,n,W,_,_,_⟩:=t.lstAt (jg o);refine je (A_ (va CG PySem.F.slot_list_extend PySem.F.type_list_extend Pe (fj Y M Q bo) (iH bD jU A) h1 h2 h3 A Z) N) ⟨.ref a,n,.inl ⟨rfl,_,cE.of W⟩,?_⟩;refine P F S s r H _ t (h.bindE.imp λy m F1 S1 H1 z g1 q v J=>?_);cases l:eh m i with
  |none=>rw[l]at q;exact q.elim
  |some xs=>
   rw[l]at q;simp only[b_,R.bind_ok]at q;obtain⟨a',G,j,L,w,_,_⟩:=z.lstAt (jg l);rw[n]at j;cases j;split at q
   .rename_i ys;split at q
    .rename_i O;obtain⟨c,I,rfl,T,_,u⟩:=J;obtain⟨K,g2⟩:=z.upd (jg l) n (w.app u);exact⟨a,c,G,I,rfl,rfl,L,T,by rw[w.len,u.len];exact cQ O kP,q F1 S1 r _ K g2 (ju.refl _ _)⟩
    .exact q.elim
   .exact q.elim
def yN(i:Nat)(db de:ak->R PV):ak->R aP:=λf=>(de f).bind λy c=>(aF (eh c i) c).bind λ_ c=>(db c).bind λk a=>(aF (eh a i) a).bind λxs a=>match k with
 |.int k=>match kM xs.length k with
  |some j=>.ok .next (a.set i (.own (.lst (xs.set j y))))
  |none=>.no
 |_=>.no
theorem PP(i:Nat){x:Str}{p c:Pos}(Y:DE X E b db)(T:DE X E e de)(hN:X.N[i]?=aa x:=by rfl)(O:ef X.env.scope x:=by first|exact Or.inl rfl|exact Or.inr (Or.inl rfl)|exact Or.inr (Or.inr rfl))(W:(x==("__debug__":Str))=aj:=by decide)(bo:(x==("__classdict__":Str))=aj:=by decide) (ha:∀v,qC (.Subscript (.Name x p) b c) X.env v=(do
   let ov <-nR [v] (aK (.Name x p) X.env)
   let iv <-nR [v,ov] (aK b X.env)
   standAt c
   nR [v,ov,iv] (setItem ov iv v)
   release [v,ov,iv] []):=by intro _;rfl) (P:swapsWithSole [.Subscript (.Name x p) b c] e d.line X.env=pure aj:=by rfl) (N:swappedStores [.Subscript (.Name x p) b c] e X.env=pure ae:=by rfl)
  (h1:(assignEach [.Subscript (.Name x p) b c] X.env).map (·.2)=[qC (.Subscript (.Name x p) b c) X.env]:=by rfl):DS X E pin (.Assign [.Subscript (.Name x p) b c] e d) (yN i db de):=λF S A n H D K h=>by
 refine je (NH bD (JD (fj hN O W bo) bD SJ ha) P N h1) (T F S A n H _ K (h.bindE.imp λy g F1 S1 H1 r g1 q v I=>?_));cases t:eh g i with
 |none=>rw[t]at q;exact q.elim
 |some B=>
  rw[t]at q;simp only[b_,R.bind_ok]at q;obtain⟨a,C,s,Z,_,_,_⟩:=r.lstAt (jg t);refine⟨.ref a,s,Y F1 S1 g n H1 _ r (q.bindE.imp λk o F2 S2 H2 z g2 f u J=>?_)⟩;cases m:eh o i with
  |none=>rw[m]at f;exact f.elim
  |some xs=>
   rw[m]at f;simp only[b_,R.bind_ok]at f;obtain⟨a',G,l,M,w,_,_⟩:=z.lstAt (jg m);rw[s]at l;cases l;split at f
   .rename_i k;split at f
    .rename_i j Q;obtain⟨L,g3⟩:=z.upd (jg m) s (w.set (I.grow g2 r.fit) j);exact⟨a,G,k,j,rfl,J,M,by rw[w.len];exact Q,f F2 S2 n _ L g3 (ju.refl _ _)⟩
    .exact f.elim
   .exact f.elim
end
mutual
def imm:PV->Bool
 |.lst _=>aj
 |.tup xs=>m8 xs
 |_=>ah
def m8:List PV->Bool
 |[]=>ah
 |x::xs=>imm x&&m8 xs
end
mutual
theorem a8.imm{K:ax}{H:Hp}{F g:ag->Prop}:∀(x:PV) {v:V},imm x=ah->a8 K H F x v->a8 K H g x v
 |.non,_,_,h=>h
 |.bl _,_,_,h=>h
 |.int _,_,_,h=>h
 |.str _,_,_,h=>h
 |.raw _,_,_,h=>h
 |.exc _,_,_,h=>h
 |.lst _,_,e,_=>by simp[Pu.imm]at e
 |.tup xs,_,e,⟨a,b,f,d,c⟩=>⟨a,b,f,d,Reps.imm xs (by simpa[Pu.imm]using e) c⟩
theorem Reps.imm{K:ax}{H:Hp}{F g:ag->Prop}:∀(xs:List PV) {a:List V},m8 xs=ah->Reps K H F xs a->Reps K H g xs a
 |[],_,_,h=>h
 |x::xs,_,e,⟨v,r,f,d,c⟩=>by
  have b:imm x=ah/\m8 xs=ah:=by simpa[m8]using e
  exact⟨v,r,f,a8.imm x b.1 d,Reps.imm xs b.2 c⟩
end
section
variable{K:ax}{F:ag->Prop}{S:Nat->ag->Prop}{d:ak}{c:St}{H:Hp}{i:Nat}{f:List PV}
theorem aX.look(r:aX K F S d c H)(e:d[i]?=aa (.own (.lst f))):∃a,c[i]?=aa (aa (.ref a))/\¬F a/\a8 K H (λb=>F b\/b=a) (.lst f) (.ref a)/\(∀b,F b\/b=a->∃o,H b=aa o) /\ (∀{h g},Al (λb=>F b\/b=a) h H g->Al F (λb=>h b/\b≠a) H g):=by
 obtain⟨a,m,q,l,p,n,s⟩:=r.lstAt e;have j:¬F a:=(r.foot i a n).2.1;refine⟨a,q,j,⟨a,m,rfl,.inl l,.inr rfl,Reps.mono (λ_ z=>.inl z) (λ_ _ _ z=>z) (λ_ _ z _=>z) _ _ p⟩,λb z=>z.elim (r.ex b) λz=>by rw[z];exact⟨_,l⟩,λ{h g} al=>⟨λb z=>⟨al.fro b (.inl z),by rintro rfl;exact j z⟩,al.same,λb z=>?_⟩⟩;rcases al.fnew b z.1 with(w|w)|w
 .exact .inl w
 .exact absurd w z.2
 .exact .inr w
end
section
variable{X:Cx}{E:XK}{e b:az}{de db:ak->R PV}{d p:Pos}{x y:Str}{l T:String}{r:List V->Hp->VK->Prop}{f:List PV->Option PV}{g:List PV->Option PO}
def pW(o:Option PV):Option PV:=o.bind λv=>if imm v then aa v else ae
theorem J3{o:Option PV}{v:PV}(h:pW o=aa v):o=aa v/\imm v=ah:=by
 cases o with
 |none=>cases h
 |some w=>
  have h:(if imm w then aa w else ae)=aa v:=h;split at h
  .cases h;exact⟨rfl,by assumption⟩
  .cases h
def G8:PO->Bool
 |.lst xs=>m8 xs
 |_=>aj
def kn{c:Type}(f:List PV->Option c)(i:Nat):ak->R c:=λa=>(aF (eh a i) a).bind λxs a=>aF (f [.lst xs]) a
theorem S8{F:ag->Prop}{S:Nat->ag->Prop}{m:ak}{j:St}{H:Hp}{Q:VK}{i:Nat}(A:PL X.K r f)(s:aX X.K F S m j H)(h:Ok X.K E j F S H (kn (λxs=>pW (f xs)) i m) (λpv _ u _ c=>∀v,a8 X.K c u pv v->Q v c)):∃a,j[i]?=aa (aa (.ref a))/\r [.ref a] H Q:=by
 unfold kn at h;cases q:eh m i with
 |none=>rw[q]at h;exact h.elim
 |some xs=>
  rw[q]at h;simp only[b_,R.bind_ok]at h;obtain⟨a,C,I,z,B,t⟩:=s.look (jg q);refine⟨a,C,?_⟩;cases o:pW (f [.lst xs])with
  |none=>rw[o]at h;exact h.elim
  |some pv=>rw[o]at h;obtain⟨G,D⟩:=J3 o;exact A _ H [.lst xs] [.ref a] Q pv (.one z) G λw u c al n=>h _ S c (s.al (t al)) (t al).grow w (a8.imm pv D n)
theorem GT(i:Nat)(z:eM X (.builtin l) r)(s:PL X.K r f)(u:X.mg x=ae)(n:eF x=aa (.builtin l))(A:X.N[i]?=aa y:=by rfl)(C:ef X.env.scope y:=by first|exact Or.inl rfl|exact Or.inr (Or.inl rfl)|exact Or.inr (Or.inr rfl))(w:(y==("__debug__":Str))=aj:=by decide) (G:(y==("__classdict__":Str))=aj:=by decide) (v:Gl X x:=by rfl) (t:x≠"__name__":=by decide) (m:(x==("__debug__":Str))=aj:=by decide) {c:Pos}(h:aM [.Name y c] X.env=(aj,aK (.Name y c) X.env)::aM [] X.env:=by rfl) (D:(cZ d (aM [] X.env)).any (·.1)=aj:=by rfl):DE X E (.Call (.Name x p) [.Name y c] [] d) (kn (λxs=>pW (f xs)) i):=λF S J I H Q j q=>by obtain⟨a,B,o⟩:=S8 s j q;exact bU (o4 z v u n (iH (fj A C w G) jU h) t m h D) ⟨_,B,o⟩
def sH(o:Option PO):Option PO:=o.bind λv=>if G8 v then aa v else ae
theorem Rk{F:ag->Prop}{S:Nat->ag->Prop}{s:ak}{q:St}{H:Hp}{Q:VK}{i:Nat}(hp:l0 X.K r g)(v:aX X.K F S s q H)(h:Ok X.K E q F S H (kn (λxs=>sH (g xs)) i s) (λA _ I S' n=>∀a t,fO X.K n I A a t->(∀b,t b->H b=ae/\¬I b/\¬U S' b/\∃o,n b=aa o/\eE o)->Q (.ref a) n)):∃a,q[i]?=aa (aa (.ref a))/\r [.ref a] H Q:=by
 unfold kn at h;cases G:eh s i with
 |none=>rw[G]at h;exact h.elim
 |some xs=>
  rw[G]at h;simp only[b_,R.bind_ok]at h;obtain⟨a,ea,nF,W,B,L⟩:=v.look (jg G);refine⟨a,ea,?_⟩;cases D:g [.lst xs]with
  |none=>rw[D]at h;exact h.elim
  |some A=>
   rw[D]at h;cases A with
   |dK m=>exact h.elim
   |lls j8=>exact h.elim
   |ins C fs=>exact h.elim
   |dT m=>exact h.elim
   |dN m=>exact h.elim
   |inl C fs y xs=>exact h.elim
   |lst u=>
    have h:Ok X.K E q F S H (aF (if m8 u then aa (PO.lst u)else ae) s) _:=h;split at h
    .rename_i hi;refine hp _ H [.lst xs] [.ref a] Q _ B (.one W) D λc I n t al Y fr=>h _ S n (v.al (L al)) (L al).grow c t ?_ λb z=>?_
     .obtain⟨⟨P,o1,o2⟩,Z⟩:=Y;exact⟨⟨P,o1,Reps.imm u hi o2⟩,Z⟩
     .obtain⟨J,O,o,N,M⟩:=fr b z;refine⟨J,λw=>O w.1,λ⟨j,w⟩=>?_,o,N,M⟩;obtain⟨_,_,o',K,_⟩:=v.foot j b w;rw[J]at K;cases K
    .exact h.elim
theorem P4(i:Nat)(z:eM X (.builtin l) r)(s:l0 X.K r g)(u:X.mg x=ae)(n:eF x=aa (.builtin l))(A:X.N[i]?=aa y:=by rfl)(C:ef X.env.scope y:=by first|exact Or.inl rfl|exact Or.inr (Or.inl rfl)|exact Or.inr (Or.inr rfl))(w:(y==("__debug__":Str))=aj:=by decide) (G:(y==("__classdict__":Str))=aj:=by decide) (v:Gl X x:=by rfl) (t:x≠"__name__":=by decide) (m:(x==("__debug__":Str))=aj:=by decide) {c:Pos}(h:aM [.Name y c] X.env=(aj,aK (.Name y c) X.env)::aM [] X.env:=by rfl) (D:(cZ d (aM [] X.env)).any (·.1)=aj:=by rfl):DN X E (.Call (.Name x p) [.Name y c] [] d) (kn (λxs=>sH (g xs)) i):=λF S J I H Q j q=>by obtain⟨a,B,o⟩:=Rk s j q;exact bU (o4 z v u n (iH (fj A C w G) jU h) t m h D) ⟨_,B,o⟩
end
end Pu
namespace Pu
open L2
def lr(h:aB)(e T:ag)(c g:ai):Prop:=∃a b f d,h.get? e=aa a/\a.cls=c/\(a.data=.fields b/\a.dict=ae)/\b[1]?=aa (.ref T)/\T≠e/\h.get? T=aa f/\f.data=.fields d/\d[3]?=aa g
def Made(h:aB)(e:ag)(c:ai):Prop:=∃a b,h.get? e=aa a/\a.cls=c/\(a.data=.fields b/\a.dict=ae)/\b[1]?=aa .none
structure Kp(fs:List ag)(X:ag->Prop)(h h':aB):Prop where
 keep:∀b o,h.get? b=aa o->b∉fs->¬X b->h'.get? b=aa o
 slot:∀b o,h.get? b=aa o->b∈fs->¬X b->∃sl,h'.get? b=aa {o with slots:=sl}
 there:∀b o,h.get? b=aa o->∃o',h'.get? b=aa o'
theorem Kp.trans{fs:List ag}{X Y:ag->Prop}{h g f:aB}(a:Kp fs X h g)(b:Kp fs Y g f):Kp fs (λc=>X c\/Y c) h f where
 keep:=λc o e n x=>b.keep c o (a.keep c o e n λz=>x (.inl z)) n λz=>x (.inr z)
 slot:=λc o e n x=>by obtain⟨j,e1⟩:=a.slot c o e n λz=>x (.inl z);obtain⟨d,i⟩:=b.slot c _ e1 n λz=>x (.inr z);exact⟨d,i⟩
 there:=λc o e=>let ⟨o',e'⟩:=a.there c o e;b.there c o' e'
theorem Kp.imp{fs d:List ag}{X Y:ag->Prop}{h j:aB}(a:Kp fs X h j)(f:∀b,b∈fs->b∈d)(g:∀b o,h.get? b=aa o->X b->Y b):Kp d Y h j where
 keep:=λc o e n x=>a.keep c o e (λz=>n (f c z)) λz=>x (g c o e z)
 slot:=λc o e n x=>by
  by_cases i:c∈fs
  .exact a.slot c o e i λz=>x (g c o e z)
  .exact⟨o.slots,a.keep c o e i λz=>x (g c o e z)⟩
 there:=a.there
theorem M6(f:Array ai->Array ai)(o:Obj):(n9 f o).dict=o.dict:=by
 obtain⟨c,d,dt,a⟩:=o;cases dt <;> rfl
section
variable{M:Model}{A:aT}{E:ai->am->Prop}{s:am}
theorem Ff{y:aB}{l:Env}{g:List Env}{L e:ag}{v:Obj}{F:Array ai}{z:ai}{TZ:Bool}{Q:Unit->am->Prop}(Z:A.frames=aa (l::g)) (O:s.heap.FunFrames y (l::g)) (hf:l.frame=aa L) (P:s.heap.get? e=aa v) (H:v.data=.fields F) (Y:v.dict=ae) (u:1<F.size)(h:∀J T,Kp (fM (l::g)) (λb=>b=e) s.heap J->lr J e T v.cls .none->s.heap.objs.size<=T->Q () {s with heap:=J}):ar M A (do let a <-frameOf l;let r <-entryPlaceOf L TZ;let b <-EntryCells.newEntry z a .none (d9 L) .none r;n8 (.ref e) 1 b) (λ_ X=>ar M A (zt (.ref e) ae) Q E X) E s:=by
 have w:e∉(l::g).filterMap (·.frame):=λhm=>by obtain⟨_,o,D,W⟩:=O.mem hm;rw[P]at D;injection D with D;subst D;exact W F H
 refine ap (wpAny_frameOf_fun Z O hf λc d=>?_);refine ap (wpAny_entryPlaceOf λr S=>?_);unfold EntryCells.newEntry newFields;refine ap (nY ?_ (S.sizeOk5 _ _ _ _ _));have n:c.get? e=aa v:=(d.2.1 e w).trans P;have m:=bn (h:=c) {cls:=.type "traceback",dict:=ae,data:=.fields ([z,.ref L,.none,d9 L,.none]++(if r.isEmpty then bO 6 Value.none else r)).toArray} n;refine tL m H u ?_;have B:c.objs.size≠e:=mo (bK n);have j:=vQ H (·.setIfInBounds 1 (Value.ref c.objs.size));have i:=o8 (n9 (·.setIfInBounds 1 (Value.ref c.objs.size))) m (CH j);have p:=(o9 (c.push {cls:=.type "traceback",dict:=ae,data:=.fields ([z,.ref L,.none,d9 L,.none]++(if r.isEmpty then bO 6 Value.none else r)).toArray}) (n9 (·.setIfInBounds 1 (Value.ref c.objs.size))) (dY B)).trans (cy c rfl);unfold zt;refine ap (qH i j (x:=.ref c.objs.size) (by simp[u]) ?_);rw[if_pos (show(Value.ref c.objs.size != Value.none)=ah from by simp)];refine tL p rfl (by simp only[cg,cL,d_,j3] <;> lia) (h _ c.objs.size ?_ ?_ ?_)
 .have keep:∀b o,b≠e->c.get? b=aa o ->
    (((c.push {cls:=.type "traceback",dict:=ae,data:=.fields ([z,.ref L,.none,d9 L,.none]++(if r.isEmpty then bO 6 Value.none else r)).toArray}).update e (n9 (·.setIfInBounds 1 (Value.ref c.objs.size)))).update c.objs.size (n9 (·.setIfInBounds 3 ((ae:Option ag).elim Value.none λf=>d9 f)))).get? b=aa o:=λb o C t=>by
   have I:c.objs.size≠b:=mo (bK t);rw[o9 _ _ I,o9 _ _ (dY C)];exact bn _ t
  refine⟨λb o t N G=>keep b o G ((d.2.1 b N).trans t),λb o t N G=>?_,λb o t=>?_⟩
  .obtain⟨K,q⟩:=d.2.2 b o t;exact⟨K,keep b _ G q⟩
  .by_cases C:b=e
   .subst C;exact⟨_,(o9 _ _ B).trans i⟩
   .obtain⟨K,q⟩:=d.2.2 b o t;exact⟨_,keep b _ C q⟩
 .refine⟨_,_,_,_,(o9 _ _ B).trans i,Obj.cls_mapFields _ _,⟨j,by rw[M6];exact Y⟩,by simp[u],B,o8 _ p (CH (vQ rfl _)),vQ rfl _,by first | (simp;done) | (rcases S with rfl|⟨_,_,_,_,_,_,_,rfl⟩ <;> simp)⟩
 .exact mx d.1.symm
theorem P7{f:aB}{d:Env}{a:List Env}{L e:ag}{c:ai}{Q:Unit->am->Prop}(o:A.frames=aa (d::a))(q:s.heap.FunFrames f (d::a))(i:d.frame=aa L)(p:Made s.heap e c)(h:∀g T,Kp (fM (d::a)) (λb=>b=e) s.heap g->lr g e T c .none->s.heap.objs.size<=T->Q () {s with heap:=g}):ar M A (leaving d (.ref e)) Q E s:=by obtain⟨u,t,j,r,⟨l,n⟩,m⟩:=p;subst r;unfold leaving noteFrame;simp only[i];refine ap (ap (qH j l m ?_));rw[if_neg (by decide)];exact Ff o q i j l n (qM.mp m).1 h
theorem GG{l:aB}{g:Env}{outer:List Env}{L e T:ag}{c:ai}{Q:Unit->am->Prop}(G:A.frames=aa (g::outer))(K:s.heap.FunFrames l (g::outer))(t:g.frame=aa L)(I:lr s.heap e T c .none)(h:∀j T',Kp (fM (g::outer)) (λb=>b=e\/b=T) s.heap j->lr j e T' c .none->s.heap.objs.size<=T'->Q () {s with heap:=j}):ar M A (noteFrame (.ref e) g) (λ_ B=>ar M A (zt (.ref e) ae) Q E B) E s:=by
 obtain⟨P,r,S,y,u,F,⟨v,C⟩,x,D,n,m,w⟩:=I;subst F;unfold noteFrame;simp only[t];refine ap (qH u v x ?_);rw[if_pos (show(Value.ref T != Value.none)=ah from by simp)];refine ap (qH n m w ?_);rw[if_neg (show ¬((Value.none == d9 L)=ah)from by simp[d9])];refine ap (tL n m (qM.mp w).1 ?_);have a:∀b,b≠T->(s.heap.update T (n9 (·.setIfInBounds 3 Value.none))).get? b=s.heap.get? b:=λb d=>o9 _ _ (dY d);have f:∀b o,s.heap.get? b=aa o->(∀r,o.data≠.fields r)->b≠T:=λb o d p q=>by rw[q,n]at d;injection d with d;subst d;exact p y m
 refine Ff G (K.of_keeps λb o d p=>⟨o,(a b (f b o d p)).trans d,rfl⟩) t ((a e (dY D)).trans u) v C (qM.mp x).1 λj T' k N J=>?_;have H:Kp (fM (g::outer)) (λb=>b=T) s.heap (s.heap.update T (n9 (·.setIfInBounds 3 Value.none))):=by
  refine⟨λb o d _ i=>(a b i).trans d,λb o d _ i=>⟨o.slots,(a b i).trans d⟩,λb o d=>?_⟩;by_cases i:b=T
  .subst i;exact⟨_,o8 _ n (CH (vQ m _))⟩
  .exact⟨o,(a b i).trans d⟩
 refine h j T' ((H.trans k).imp (λ_ z=>z) λb o _ z=>z.symm) N ?_;have O:(s.heap.update T (n9 (·.setIfInBounds 3 Value.none))).objs.size<=T':=J;rwa[IU]at O
theorem RS{f:aB}{d:Env}{a:List Env}{L e T:ag}{c:ai}{Q:Unit->am->Prop}(j:A.frames=aa (d::a))(m:s.heap.FunFrames f (d::a))(n:d.frame=aa L)(l:lr s.heap e T c .none)(h:∀g i,Kp (fM (d::a)) (λb=>b=e\/b=T) s.heap g->lr g e i c .none->s.heap.objs.size<=i->Q () {s with heap:=g}):ar M A (leaving d (.ref e)) Q E s:=by unfold leaving;exact ap (GG j m n l h)
theorem Rw{e T:ag}{c C:ai}{Q:Unit->am->Prop}(z:lr s.heap e T c C)(h:∀l,Kp [] (λb=>b=T) s.heap l->lr l e T c .none->Q () {s with heap:=l}):ar M A (zt (.ref e) ae) Q E s:=by
 obtain⟨y,u,D,v,n,x,⟨p,w⟩,r,m,q,j,B⟩:=z;have t:3<v.size:=(qM.mp B).1;have a:∀b,b≠T->(s.heap.update T (n9 (·.setIfInBounds 3 ((ae:Option ag).elim Value.none λf=>d9 f)))).get? b=s.heap.get? b:=λb g=>o9 _ _ (dY g);have d:=o8 (n9 (·.setIfInBounds 3 ((ae:Option ag).elim Value.none λf=>d9 f))) q (CH (vQ j _));unfold zt;refine ap (qH n p r ?_);rw[if_pos (show(Value.ref T != Value.none)=ah from by simp)];refine tL q j t (h _ ⟨λb o g _ i=>(a b i).trans g,λb o g _ i=>⟨o.slots,(a b i).trans g⟩,λb o g=>?_⟩ ⟨y,u,_,_,(a e (dY m)).trans n,x,⟨p,w⟩,r,m,d,vQ j _,by simp[t]⟩);by_cases i:b=T
 .subst i;exact⟨_,d⟩
 .exact⟨o,(a b i).trans g⟩
end
def cr(P:aQ)(w:aE):gu:=λb H s E e s'=>∃(a T:ag) (c:ai) (d:Hp),e=.ref a/\s'.os=s.os/\nM s'.gens/\Un (fM b) [] H d s.heap s'.heap/\dj P w d s'.heap/\lr s'.heap a T c .none /\
 (s.heap.get? a=ae/\s.heap.get? T=ae/\d a=ae/\d T=ae)/\E c ae d
theorem JV{P:aQ}{w:aE}{H:Hp}{h:aB}{a:ag}{o:HO}(x:cq P w H h a o):∃u,h.get? a=aa u:=by
 cases o with
 |lst xs=>obtain⟨_,_,_,_,e⟩:=x;exact⟨_,e⟩
 |tup xs=>obtain⟨_,_,_,⟨o,e,_⟩,_⟩:=x;exact⟨_,e⟩
 |dK b=>obtain⟨_,_,_,_,o,_,_,e,_⟩:=x;exact⟨_,e⟩
 |dT b=>obtain⟨_,_,_,_,o,_,_,e,_⟩:=x;exact⟨_,e⟩
 |dN b=>obtain⟨_,_,_,_,o,_,_,e,_⟩:=x;exact⟨_,e⟩
 |set S n=>obtain⟨o,_,_,_,e,_⟩:=x;exact⟨_,e⟩
 |ins C l fs=>obtain⟨_,_,_,e,_⟩:=x;exact⟨_,e⟩
 |own y=>exact x
 |xd fs=>obtain⟨_,⟨_,_,_,e,_⟩,_⟩:=x;exact⟨_,e⟩
 |rng i j=>obtain⟨_,_,_,e⟩:=x;exact⟨_,e⟩
 |frz g u=>obtain⟨e,_⟩:=x;exact⟨_,e⟩
 |tbl d=>obtain⟨_,e,_⟩:=x;exact⟨_,e⟩
 |met f y=>exact⟨_,x⟩
 |ext c=>obtain⟨_,e,_⟩:=x;exact e
theorem Mi{P:aQ}{w:aE}{H:Hp}{h:aB}{a:ag}(x:dj P w H h)(e:h.get? a=ae):H a=ae:=by
 cases q:H a with
 |none=>rfl
 |some u=>obtain⟨o,z⟩:=JV (x a u q);rw[e]at z;cases z
theorem sN{fs:List ag}{H c:Hp}{h b:aB}{a:ag}(u:Un fs [] H c h b)(e:b.get? a=ae):h.get? a=ae:=by
 cases q:h.get? a with
 |none=>rfl
 |some o=>obtain⟨d,z⟩:=u.there a o q (by simp);rw[e]at z;cases z
theorem BL{fs a:List ag}{H p:Hp}{h l j:aB}{X:ag->Prop}(u:Un fs [] H p h l)(k:Kp a X l j)(r:∀b o,h.get? b=aa o->b∈a->b∈fs)(g:∀b o,h.get? b=aa o->¬X b):Un fs [] H p h j where
 keep:=λb o e n d c=>k.keep b o (u.keep b o e n d c) (λz=>d (r b o e z)) (g b o e)
 slot:=λb o e n d c=>by
  obtain⟨q,m⟩:=u.slot b o e n d c;by_cases i:b∈a
  .obtain⟨f,s⟩:=k.slot b _ m i (g b o e);exact⟨f,s⟩
  .exact⟨q,k.keep b _ m i (g b o e)⟩
 free:=u.free
 there:=λb o e c=>let ⟨o',e'⟩:=u.there b o e c;k.there b o' e'
 tups:=u.tups
 frzs:=u.frzs
 tbls:=u.tbls
theorem AV{P:aQ}{w:aE}{fs:List ag}{H:Hp}{h d:aB}{X:ag->Prop}(x:dj P w H h)(k:Kp fs X h d)(f:∀b∈fs,H b=ae)(g:∀b,X b->H b=ae):dj P w H d:=λb u e=>
 (x b u e).stay (λc v a q=>k.keep c v q (λz=>by
   have:=f c z;rcases a with rfl|a
   .rw[e]at this;cases this
   .rw[a]at this;cases this) λz=>by
   have:=g c z;rcases a with rfl|a
   .rw[e]at this;cases this
   .rw[a]at this;cases this) (λ_ q=>q) λ_ _ q=>q
section
variable{P:aQ}{w:aE}{K:ax}{n:Str->Option ai}{l:aB}{N:List Str}{j:Str}{g:dy}{f:ag}{p:ai}{A:aT}{i:List Env}{d:am}{m:Hp}{E:XK}
theorem cR:sv (cr P w) (iF (cr P w) P w K n l N j g f p A i d m E) E:=λaf X H s e s' I h=>by
 obtain⟨a,T,c,W,rfl,G,J,un,y,O,⟨Q,S,F,Y⟩,M⟩:=h;have r:=I.call' (s':=s') (ch:=[]) G un y J (λb z=>absurd z (by simp));refine RS (L:=d.heap.objs.size) I.ok.frames r.stack rfl O λZ D k B x=>?_;have qa:(iF (cr P w) P w K n l N j g f p A i d m E).ex=[]:=rfl;have u:d.heap.get? a=ae:=sN I.base Q;have C:d.heap.get? T=ae:=sN I.base S;have v:d.heap.get? D=ae:=sN r.base (vz x);have t:∀b o,d.heap.get? b=aa o->b≠a/\b≠T:=λb o e=>⟨(by rintro rfl;rw[u]at e;cases e),(by rintro rfl;rw[C]at e;cases e)⟩
 refine⟨a,D,c,W,rfl,r.os,r.bare,BL r.base k (λb o e z=>?_) (λb o e z=>z.elim (t b o e).1 (t b o e).2),AV r.hok k r.stkFree (λb z=>by rcases z with rfl|rfl <;> assumption),B,⟨u,v,F,r.hok.fresh x⟩,M⟩;rcases bE.mp (I.stkSub b z)with q|q
 .exact absurd (bK e) (by rw[q];exact fA _)
 .exact q
end
section
variable{X:Cx}{E:XK}{pin:List Nat}{e:az}{de:ak->R PV}{x:Str}{C:ag}{i:List ai}{d f B:String}{l g j:Pos}
def Dm(X:Cx)(E:XK):Prop:=∀(n:List (ag×Obj)) (m:St) (H:Hp) (s:am) (a:ag) (c:ai) (h:aB),Inv X n m H s->(∀b o,s.heap.get? b=aa o->h.get? b=aa o)->Made h a c->s.heap.get? a=ae->(E c ae H)->X.xe (.ref a) {s with heap:=h}
def xo(c:ai)(de:ak->R PV):ak->R aP:=λb=>(de b).bind λ_ a=>.er c a
theorem O6{h c:aB}{e:ag}{a:ai}{b:List ai}(m:Heap.MadeExcOf h c e a b):Made c e a:=by obtain⟨t,n,_,_⟩:=m.there;exact⟨_,_,n,rfl,⟨rfl,rfl⟩,rfl⟩
theorem GC(hx:Dm X E)(hc:X.calm=ah)(O:OwnCls x C i d X.mg X.base)(P:ExcBaseFacts B d f i)(he:DE X.nox E0 e de)(hg:Gl X x:=by rfl)(hd:(x==("__debug__":Str))=aj:=by decide)(L:aM [e] X.env=[(aj,aK e X.env)]:=by rfl):DS X E pin (.Raise (aa (.Call (.Name x l) [e] [] g)) ae j) (xo (.ref C) (λt=>dW (de t))):=λF S t n H D Y q=>Bx.mk λM s I=>by
 obtain⟨Q,N,nm,Z,bs,hdct,sn,sub,ab,col,dd,k0,k1,k2,k3,k5,mN,hC,hN,G,T⟩:=O.obj;refine wpAny_Raise_call_subT (C:=C) (nm:=nm) (q:=Z) (N:=N) (bs:=bs) (bm:=Q) (hdct:=hdct) (sn:=sn) (sub:=sub) (ab:=ab) (col:=col) (dd:=dd) (k0:=k0) (k1:=k1) (k2:=k2) (k3:=k3) (k5:=k5)
  P (mN:=mN) (T.hasType P.hasBase) (I.ok.hd hc) (by rw[L];rfl) G (sU I hg O.bound ⟨rfl,?_⟩ hd)
 have q2:Ok X.K E0 n F S H (de t) (λ_ b r o p=>hU X.K E pin n r o p (.er (.ref C) b) D):=by
  have q:hU X.K E pin n F S H ((dW (de t)).bind λ_ b=>.er (.ref C) b) D:=q;cases J:de t with
  |no=>rw[J]at q;exact q.elim
  |er c y=>rw[J]at q;exact q.elim
  |ok v y=>rw[J]at q;exact λF' S' H' r' g'=>q.from g' (ju.refl _ _)
 rw[L];refine Cr (ez (s_ (ez ((he F S t n H (λv p=>∃r o b,aX X.K r o b n p/\hU X.K E pin n r o p (.er (.ref C) b) D) Y (q2.imp λv b r o p K g1 h v' rv=>⟨r,o,b,K,h⟩)).run M s (I.wish _)) (λu W ⟨v,p,w,K,r,o,b,A,ok⟩=>?_) λ_ _ z=>z.elim)) (λ_ _ z=>z) λ_ _ z=>z);have w:=w.unwish;refine y0 ⟨rfl,(by show 1<=a_;decide),w.bk _ _ hC,hN.keeps w.bk,T.keeps w.bk,λh' a m=>?_⟩;exact hx M n p W a (.ref C) h' w m.keeps (O6 m) m.new (ok ae r o n p A (bz.refl ..) (ju.refl _ _))
end
section
variable{P:aQ}{w:aE}{K:ax}{m:Str->Option ai}{j:aB}{N:List Str}{i:Str}{g:dy}{f:ag}{n:ai}{A:aT}{h:List Env}{d:am}{l:Hp}{E:XK}
theorem Ei:Dm (iF (cr P w) P w K m j N i g f n A h d l E) E:=λJ C H s a c y I F D new G=>by
 have p:Inv _ J C H {s with heap:=y}:=I.kept (t':=s.toks) F;refine P7 (s:={s with heap:=y}) (L:=d.heap.objs.size) I.ok.frames p.stack rfl D λM B k v u=>?_;have r:d.heap.get? a=ae:=sN I.base new;have t:d.heap.get? B=ae:=sN p.base (vz u);have x:H a=ae:=Mi I.hok new;refine⟨a,B,c,H,rfl,p.os,p.bare,BL p.base k (λb o e z=>?_) (λb o e z=>by rw[show b=a from z,r]at e;cases e),AV p.hok k p.stkFree (λb z=>by rw[show b=a from z];exact x),v,⟨r,t,x,p.hok.fresh u⟩,G⟩;rcases bE.mp (I.stkSub b z)with q|q
 .exact absurd (bK e) (by rw[q];exact fA _)
 .exact q
end
section
variable{X:Cx}{f:List (ag×Obj)}{a:St}{H:Hp}{s:am}
theorem Mz{M:Model}{A:aT}{E:ai->am->Prop}{i:Nat}{x:Str}{v:V}{Q:Unit->am->Prop}(I:Inv X f a H s)(hN:X.N.Nodup)(S:X.N[i]?=aa x)(F:X.env.scope.names.lookup x=aa .local)(N:a[i]?=aa (aa v))(h:∀s',Inv X f (a.set i ae) H s'->Q () s'):ar M A (unbindName X.env x) Q E s:=by
 obtain⟨m,O,P⟩:=id I.loc;have oj:(X.env.scope.kind == .class||(X.env.scope.kind == .module&&X.env.locals != X.env.globals))=aj:=by rw[I.ok.kind];rfl
 have r:i<a.length:=(dR.mp N).1;obtain⟨u,_,lk⟩:=P i x v S N (.inl F);have hm:m x=aa u:=by
  rcases lk with⟨_,z⟩|⟨z,_⟩
  .exact z
  .have z:X.env.scope.names.lookup x=aa .cell\/X.env.scope.names.lookup x=aa .free:=z;rcases z with z|z <;> rw[F]at z <;> cases z
 refine wpAny_unbindName_local F O hm oj λh' u' D l=>?_;obtain⟨oL,_,_,tY,_⟩:=id O;have C:∀b o,X.s₀.heap.get? b=aa o->h'.get? b=s.heap.get? b:=λb o e=>l.2 b (cY (fU (bK e) I.ok.above));refine h _ ⟨I.ok,I.os,I.bare,⟨λb o e n J g=>(C b o e).trans (I.base.keep b o e n J g),λb o e n J g=>?_,I.base.free,λb o e g=>?_,I.base.tups,I.base.frzs,I.base.tbls⟩,⟨_,D,λj y W T B e3=>?_⟩,λy c e=>?_,I.free,I.freeC,λp hp=>?_,λb ob e=>?_,by rw[gR];exact I.len⟩
 .obtain⟨Y,q⟩:=I.base.slot b o e n J g;exact⟨Y,(C b o e).trans q⟩
 .obtain⟨o',q⟩:=I.base.there b o e g;exact⟨o',(C b o e).trans q⟩
 .by_cases G:j=i
  .subst G;rw[gB r]at B;cases B
  .rw[eU (dY G)]at B;obtain⟨w,Z,q⟩:=P j y W T B e3;refine⟨w,Z,?_⟩;rcases q with⟨k,e⟩|⟨k,c,e,z⟩
   .have:y≠x:=λe=>G (z5 hN T (e ▸ S));exact .inl ⟨k,by simp[this,e]⟩
   .exact .inr ⟨k,c,e,z.sameBut l (I.cne y c e)⟩
 .obtain⟨K,z⟩:=I.cell y c e;exact⟨K,z.sameBut l (I.cne y c e)⟩
 .obtain⟨e,n,L,nf,d⟩:=I.pin p hp;exact⟨(l.2 p.1 L).trans e,n,L,nf,d⟩
 .refine(I.hok b ob e).stay (λc K t q=>(l.2 c ?_).trans q) (λ_ q=>q) λ_ _ q=>q;rintro rfl;rcases t with rfl|t
  .rw[I.free]at e;cases e
  .rw[I.free]at t;cases t
end
def XP(X:Cx)(g:List (ag×Obj))(d:St)(h:ai->Hp->Prop)(e:ai)(f:am):Prop:=∃a b,Inv X g d b a/\cr X.prog X.w X.stack b a (λc _ i=>h c i) e f
def DX(X:Cx)(e:az)(d:ak->R Slot):Prop :=
 ∀F S h a H Q (i:ai->Hp->Prop),aX X.K F S h a H->Ok X.K (λc _ f=>i c f) a F S H (d h) (λs _ l m f=>∀v j,ny X.K f l s v j->(∀b,j b->H b=ae/\¬l b/\¬U m b/\∃o,f b=aa o/\eE o)->Q v f) ->
  ∀g s,Inv X g a H s->ar (aw X.prog X.w) X.A (aK e X.env) (EP X g a Q) (XP X g a i) s
section
variable{X:Cx}{e:az}{a:List az}{l:ak->R (List cf)}{j:Pos}{x:Str}{k:Nat}{m:List Str}{g:ak->R Slot}{p:Pos}{d:ak->R Slot}
def xX(g:ak->R Slot)(l:ak->R (List cf)):ak->R Slot:=λf=>(dW (l f)).bind λc b=>(aF (if(cI c).Nodup then eu b c else ae) b).bind λh b=>fg b c (g h)
theorem Lu(c:cU (cr X.prog X.w) X.prog X.w X.K X.mg X.base x k m (bM X.K g))(hr:Room k X.A)(ha:DG X.nox E0 (e::a) l)(hg:Gl X x:=by rfl)(hd:(x==("__debug__":Str))=aj:=by decide) (h1:aM (e::a) X.env=(aj,aK e X.env)::aM a X.env:=by rfl) (h2:(cZ j (aM a X.env)).any (·.1)=aj:=by rfl):DX X (.Call (.Name x p) (e::a) [] j) (xX g l):=λF S ε M H Q XE rl h af s I=>by
 obtain⟨f,fd,hm,Fn,hb,hk⟩:=c.ex;have q0:Ok X.K E0 M F S H (l ε) (λt n C D B=>Ok X.K (λc _ A=>XE c A) M C D B ((aF (if(cI t).Nodup then eu n t else ae) n).bind λN n=>fg n t (g N)) (λs _ E Y A=>∀v K,ny X.K A E s v K->(∀b,K b->H b=ae/\¬E b/\¬U Y b/\∃o,A b=aa o/\eE o)->Q v A)):=by
  unfold xX at h;cases e0:l ε with
  |no=>rw[e0]at h;exact h.elim
  |er c ε'=>rw[e0]at h;exact h.elim
  |ok t n=>rw[e0]at h;exact λC D B G g1=>Ok.from h g1
 refine tj (sU I hg hm ?_ hd);have wa:=(ha F S ε M H (λO B=>∃C D n t,aX X.K C D n M B/\jt X.K M C B t O/\(∀b,B b=ae->H b=ae)/\Ok X.K (λc _ A=>XE c A) M C D B ((aF (if(cI t).Nodup then eu n t else ae) n).bind λN n=>fg n t (g N)) (λs _ E Y A=>∀v K,ny X.K A E s v K->(∀b,K b->H b=ae/\¬E b/\¬U Y b/\∃o,A b=aa o/\eE o)->Q v A)) rl (q0.imp λt n C D B G g1 q O W=>⟨C,D,n,t,G,W,λb z=>oQ g1 z,q⟩)).run j af s (I.wish _);refine Iv (h₀:=X.base) I.ok.mod.kin hk (ez wa (λZ s1 ⟨O,B,L,r,C,D,n,t,G,W,fb,q⟩=>⟨L.unwish.kIn,?_⟩) λ_ _ z=>z.elim) h1 h2;have L:=L.unwish;have q:=Ok.bind q;by_cases P:(cI t).Nodup
 .rw[if_pos P]at q;cases a:eu n t with
  |none=>rw[a]at q;exact q.elim
  |some N=>
   rw[a]at q;have q:=q C D B G (bz.refl ..);dsimp only at q;have ix:bM X.K g O B Q (λc _ A=>XE c A):=by
    refine⟨C,l_ t D,N,G.cal W a P,?_⟩;cases eg:g N with
    |no=>rw[eg]at q;exact q.elim
    |er cv aN=>
     rw[eg]at q;intro y E Y A r' g';unfold fg at q;dsimp only at q;by_cases J:fz t aN=ah
     .rw[if_pos J]at q;obtain⟨S2,r2,g2,_⟩:=G.called W a P r' g' (λ_ z=>z) (nj J);exact q ae E S2 A r2 g2
     .rw[if_neg J]at q;exact q.elim
    |ok sl aN=>
     rw[eg]at q;intro v E Y A K r' g' rv lo fr;unfold fg at q;dsimp only at q;by_cases J:fz t aN=ah
     .rw[if_pos J]at q;obtain⟨S2,r2,g2,u2⟩:=G.called W a P r' g' (λ_ z=>.inl z) (nj J);refine q E S2 A r2 g2 v K rv λb z=>⟨fb b (fr b z),(lo b z).1,λw=>?_,(lo b z).2.2⟩
      rcases u2 b w with w|⟨i,w⟩
      .exact(lo b z).2.1 w
      .obtain⟨_,_,o,y1,_⟩:=G.foot i b w;rw[fr b z]at y1;cases y1
     .rw[if_neg J]at q;exact q.elim
   have hl:Z.length=m.length:=by rw[<-r.length];exact Fn.len _ _ _ _ ix
   refine tf (nW (Fn.run X.A X.stack s1 B ⟨Z,[]⟩ Z O Q _ hr L.env0 (by have:=hb s1 Z L.kIn (by rw[fW];exact hl);rwa[fW]at this) r ix) λrr s' T=>?_);cases rr with
   |error er=>exact⟨s1,B,L,T⟩
   |ok fl=>
    cases fl with
    |ret u=>exact L.after T
    |next=>exact im T
    |brk=>exact im T
    |cont=>exact im T
 .rw[if_neg P]at q;exact q.elim
end
abbrev hand(X:Cx)(a:ag):Cx:={X with A:=X.A.mark (aa (.ref a)),calm:=aj,xe:=λ_ _=>False}
section
variable{X:Cx}{c:List (ag×Obj)}{b:St}{H:Hp}{s:am}{a:ag}
theorem Inv.hand(I:Inv X c b H s)(d:(X.A.mark (aa (.ref a))).frames=X.A.frames:=by rfl):Inv (Pu.hand X a) c b H s :=
 ⟨⟨I.ok.mod,I.ok.kind,I.ok.glob,I.ok.blt,I.ok.above,I.ok.inj,I.ok.has,I.ok.cab,(λz=>by cases z),d.trans I.ok.frames,I.ok.stk,I.ok.exf,I.ok.bs,I.ok.bsz,I.ok.noex,I.ok.exfs,I.ok.funs,I.ok.frf,I.ok.tab⟩,I.os,I.bare,I.base,I.loc,I.cell,I.free,I.freeC,I.pin,I.hok,I.len⟩
theorem Inv.unhand(I:Inv (Pu.hand X a) c b H s)(ok:X.Ok):Inv X c b H s:=⟨ok,I.os,I.bare,I.base,I.loc,I.cell,I.free,I.freeC,I.pin,I.hok,I.len⟩
end
def Under(h:aB)(D:ag)(c:ai):Prop:=∃C g N j q bs b i d s f r p o n m l a,c=.ref C/\h.get? C=aa (CI j q C N bs g b i d s f r p o n m l a)/\(Value.ref C::g).contains (.ref D)=ah
def qo(h:aB)(D:ag):Prop:=∃f N i q bs b g c r d p o n m l j a,h.get? D=aa (CI i q D N bs f b g c r d p o n m l j a)/\f.contains (.type "BaseException")=ah
theorem Under.keeps{h d:aB}{D:ag}{c:ai}(x:Under h D c)(k:∀b o,h.get? b=aa o->d.get? b=aa o):Under d D c:=by obtain⟨C,bm,N,nm,q,bs,hdct,sn,sub,ab,col,dd,k0,k1,k2,k3,k5,a,e,g,f⟩:=x;exact⟨C,bm,N,nm,q,bs,hdct,sn,sub,ab,col,dd,k0,k1,k2,k3,k5,a,e,k _ _ g,f⟩
theorem qo.keeps{h c:aB}{D:ag}(x:qo h D)(k:∀b o,h.get? b=aa o->c.get? b=aa o):qo c D:=by obtain⟨bm,N,nm,q,bs,hdct,sn,sub,ab,col,dd,k0,k1,k2,k3,k5,a,f,d⟩:=x;exact⟨bm,N,nm,q,bs,hdct,sn,sub,ab,col,dd,k0,k1,k2,k3,k5,a,k _ _ f,d⟩
theorem KW{M:Model}{A:aT}{E:ai->am->Prop}{s:am}{e D:ag}{o:Obj}{c:ai}{Q:Bool->am->Prop}(J:Under s.heap D c)(b:qo s.heap D)(L:s.heap.get? e=aa o)(x:o.cls=c)(K:Q ah s):ar M A (excMatches (.ref e) (.ref D)) Q E s:=by
 obtain⟨C,bm,N,nm,q,bs,p,X,v,ab,S,dd,k0,k1,k2,k3,k5,i,rfl,r,z⟩:=J;obtain⟨m,N',y,Y,T,j,w,n,W,u,P,I,H,G,F,B,a,b,O⟩:=b;obtain⟨h,g,d,t,Z⟩:=s;have l:(Value.ref D::m).contains (.type "BaseException")=ah:=by rw[List.contains_cons,O,Bool.or_true]
 have f:=tc_notTuple;unfold excMatches
 repeat (first | (with_reducible refine IV L ?_;rw[x])|with_reducible refine IV r ?_|with_reducible refine IV b ?_ | (with_reducible refine wpAny_isSubtype_exc r ?_;rw[z]) | (with_reducible refine wpAny_isSubtype_exc b ?_;rw[l])|wp_step)
 exact K
def uS(i:Nat)(b:ai->Bool)(h:ak->R Slot)(j:ak->R aP):ak->R aP:=λg=>match h g with
 |.ok s a=>.ok (.ret s) a
 |.er c a=>if b c=ah/\i<a.length then(match j (a.set i (.val (.exc c)))with
  |.ok f d=>(match d[i]? with
   |some (.val _)=>.ok f (d.set i .none)
   |_=>.no)
  |_=>.no)else .no
 |.no=>.no
section
variable{X:Cx}{E:XK}{pin:List Nat}{e:az}{x:ak->R Slot}{A:ak->R aP}{G J C B:Pos}{t n:Str}{D:ag}{l:List ba}{m:ba}{g:ai->Bool}
theorem aX.unset{K:ax}{F:ag->Prop}{S:Nat->ag->Prop}{a:ak}{h:St}{H:Hp}{i:Nat}(r:aX K F S a h H):aX K F (λj b=>S j b/\j≠i) (a.set i .none) (h.set i ae) H:=by
 have c:=r.drop i;have o:∀{j:Nat}{s:Slot},(a.set i .none)[j]?=aa s->s≠.none->j≠i:=λ{j s} e q z=>by
  subst z;by_cases u:j<a.length
  .rw[gB u]at e;exact q (dQ e).symm
  .rw[tN (by rw[gR];lia)]at e;cases e
 refine⟨by rw[gR,gR];exact r.len,r.ex,λj pv e=>?_,λj p e=>?_,c.foot,c.dist⟩
 .obtain⟨v,f,d⟩:=c.val j pv e;exact⟨v,by rw[eU (dY (o e (by intro z;cases z)))];exact f,d⟩
 .obtain⟨v,f,d⟩:=c.own j p e;exact⟨v,by rw[eU (dY (o e (by intro z;cases z)))];exact f,d⟩
theorem RU{P:aQ}{w:aE}{H:Hp}{h:aB}{a T:ag}{c I:ai}(ok:dj P w H h)(j:H a=ae)(f:lr h a T c I):dj P w (upd H a (mZ a c)) h:=λb u q=>by
 by_cases r:b=a
 .subst r;rw[upd_same]at q;cases q;obtain⟨i,v,_,_,p,F,y,_⟩:=f;exact⟨⟨i,v,p,F,y⟩,⟨i,p⟩,λO N ⟨o,s,M,L,K⟩ k=>⟨o,s,k o M,L,K⟩⟩
 .rw[bj r]at q;exact(ok b u q).stay (λ_ _ _ z=>z) (λd z=>by rw[bj (l8 z j)];exact z) λd xs z=>by rw[bj (l8 z j)];exact z
def HM(X:Cx)(r:List ba)(d:ak->R Slot):Prop :=
 ∀F S i a H Q (j:ai->Hp->Prop),aX X.K F S i a H->Ok X.K (λc _ f=>j c f) a F S H (d i) (λs _ q y f=>∀v p,ny X.K f q s v p->(∀b,p b->H b=ae/\¬q b/\¬U y b/\∃o,f b=aa o/\eE o)->Q v f) ->
  ∀h s,Inv X h a H s->ar (aw X.prog X.w) X.A (execs r X.env) (λw s'=>∃u,w=.ret u/\EP X h a Q u s') (XP X h a j) s
theorem RN(d:DX X e x):HM X [.Return (aa e) G] x:=λF S b a H Q i c h f s I=>Ip (wpAny_Return_some (ez (d F S b a H Q i c h f s I) (λu j q=>⟨u,rfl,q⟩) λ_ _ q=>q))
theorem L8{ss:List ba}(i:Nat)(hN:X.N.Nodup)(hx:HM X ss x)(hD:X.mg t=aa (.ref D))(hE:qo X.base D)(hcg:∀c,g c=ah->Under X.base D c)(hh:∀a,gq (hand X a) E0 pin (m::l) A)(fF:i∉pin:=by decide) (hi:X.N[i]?=aa n:=by rfl) (hl:X.env.scope.names.lookup n=aa .local:=by rfl) (hg:Gl X t:=by rfl) (hd:(t==("__debug__":Str))=aj:=by decide) (cN:X.stack=X.env::X.outer:=by rfl) (hfm:X.env.frame=aa X.env.locals:=by rfl) (hf:X.fn n=ah\/X.env.scope.names.lookup n=aa .local:=by first|exact .inl rfl|exact .inr rfl):DS X E pin (.Try ss [.ExceptHandler (aa (.Name t J)) (aa n) (m::l) C] [] [] B) (uS i g x A):=λF S ε σ H Dn rl q=>Bx.mk λaf s I=>by
 refine wpAny_Try_except ?_;have body:=hx F S ε σ H (λv r=>Dn.rt v r) (λc r=>∃K P M,aX X.K K P M σ r/\bz (U S) (U P) F K H r/\g c=ah/\i<M.length/\hU X.K E pin σ F S H (match A (M.set i (.val (.exc c)))with
  |.ok f ε2=>(match ε2[i]? with
   |some (.val _)=>.ok f (ε2.set i .none)
   |_=>.no)
  |_=>.no) Dn) rl (by
  unfold uS at q;cases e0:x ε with
  |no=>rw[e0]at q;exact q.elim
  |ok sl M=>rw[e0]at q;intro K P r r' N v Sr rv fr;exact q v K P σ r Sr r' ⟨N.fro,N.keep,N.there,N.fnew,λb z=>z.elim (N.onew b) λw=>.inr (fr b w).1⟩ (ju.refl _ _) rv λb z=>(fr b z).2
  |er c M=>
   rw[e0]at q;intro y K P r r' N;dsimp only at q;by_cases hc:g c=ah/\i<M.length
   .rw[if_pos hc]at q;exact⟨K,P,M,r',N,hc.1,hc.2,q⟩
   .rw[if_neg hc]at q;exact q.elim) af s I
 refine ez body (λfl W ⟨u,efl,v,Z,I1,r1,q1⟩=>?_) λev W xp=>?_
 .subst efl;exact⟨v,σ,Z,I1,r1,q1⟩
 obtain⟨s0,H0,I0,a,T,c,Z,rfl,ho,hg1,un,hok,fl,⟨fa,fT,na,nT⟩,F1,S1,ε1,rl1,g1,hcc,bh,h⟩:=xp;have I1:=I0.call' (s':=W) (ch:=[]) ho un hok hg1 (λb z=>absurd z (by simp));have kpI:∀{h2:aB}{Y:ag->Prop}{T':ag},Kp (fM X.stack) Y W.heap h2->(∀b o,s0.heap.get? b=aa o->¬Y b)->(∀b,Y b->Z b=ae)->lr h2 a T' c .none->∀tk,Inv X af σ (upd Z a (mZ a c)) {W with heap:=h2,toks:=tk}:=λ{h2 Y T'} k hY1 hY2 f2 tk=>by
  refine I0.call' (s':={W with heap:=h2,toks:=tk}) (ch:=[]) ho ?_ (RU (AV hok k (λb hb=>I1.stkFree b hb) hY2) na f2) hg1 (λb z=>absurd z (by simp));have u2:=BL un k (λb o _ z=>z) hY1;have na':∀b o,Z b=aa o->b≠a:=λb o e=>l8 e na;refine⟨u2.keep,u2.slot,λb o e n hx=>?_,u2.there,λb xs e=>?_,λb o u e=>?_,λb ps e=>?_⟩
  .rw[bj (by rintro rfl;rw[fa]at e;cases e)];exact u2.free b o e n hx
  .have:=u2.tups b xs e;rw[bj (na' b _ this)];exact this
  .have:=u2.frzs b o u e;rw[bj (na' b _ this)];exact this
  .have:=u2.tbls b ps e;rw[bj (na' b _ this)];exact this
 have H1T:∀b,b=a\/b=T->Z b=ae:=λb z=>by rcases z with rfl|rfl <;> assumption
 have old1:∀b o,s0.heap.get? b=aa o->¬(b=a\/b=T):=λb o e z=>by
  rcases z with rfl|rfl
  .rw[fa]at e;cases e
  .rw[fT]at e;cases e
 refine GG (outer:=X.outer) (by rw[I0.ok.frames,cN]) (by rw[<-cN];exact I1.stack) hfm fl λh2 T' k fl2 fT'=>?_;rw[<-cN]at k;have I2:=kpI k old1 H1T fl2 W.toks;refine wpAny_handleBy_cons (codeAny_handlers_test ?_) (by intro z;cases z);have I2h:Inv (hand X a) af σ (upd Z a (mZ a c)) {W with heap:=h2}:=Inv.hand I2;refine sU (X:=hand X a) I2h hg hD ?_ hd;obtain⟨oe,vs,oT,ts,he2,T_,_⟩:=id fl2;refine KW (s:={W with heap:=h2}) ((hcg c hcc).keeps I2.bk) (hE.keeps I2.bk) he2 T_ ?_;show lK _ _ _ _ _;refine codeAny_handlers_suite_as (Rw (s:={W with heap:=h2}) fl2 λh3 k3 fl3=>?_);have k':Kp (fM X.stack) (λb=>(b=a\/b=T)\/b=T') W.heap h3:=k.trans (k3.imp (λb z=>by simp at z) λb o _ z=>z);have I3:=kpI (T':=T') k' (λb o e z=>by
  rcases z with z|rfl
  .exact old1 b o e z
  .rw[sN un (vz fT')]at e;cases e) (λb z=>by
  rcases z with z|rfl
  .exact H1T b z
  .exact I1.hok.fresh fT') fl3 W.toks
 have I3h:Inv (hand X a) af σ (upd Z a (mZ a c)) {W with heap:=h3}:=Inv.hand I3;refine yd (X:=hand X a) (v:=.ref a) I3h hN hi (.inl hl) rfl (λs4 I4=>?_) hf;have al:Al F1 F1 Z (upd Z a (mZ a c)):=Al.new0 na;have r2:=rl1.al al;have r3:=r2.set (i:=i) (pv:=.exc c) (v:=.ref a) ⟨a,rfl,upd_same⟩;have g3:bz (U S) (U λj b=>S1 j b/\j≠i) F F1 H (upd Z a (mZ a c)):=(g1.trans al.grow).trans (bz.less i);have less:∀{P:Nat->ag->Prop}{K:ag->Prop}{r:Hp},bz (U P) (U λj b=>P j b/\j≠i) K K r r:=λ{P K r}=>bz.less i;have pn:∀{d:St},ju pin (σ.set i (aa (.ref a))) d->ju pin σ (d.set i ae):=λ{d} p=>((ju.set fF).trans p).trans (ju.set fF);have okd:hU (hand X a).K E0 pin (σ.set i (aa (.ref a))) F1 (λj b=>S1 j b/\j≠i) (upd Z a (mZ a c)) (A (ε1.set i (.val (.exc c)))) {nx:=λd r=>Dn.nx (d.set i ae) r,rt:=Dn.rt,bk:=λd r=>Dn.bk (d.set i ae) r,ct:=λd r=>Dn.ct (d.set i ae) r}:=by
  cases ed:A (ε1.set i (.val (.exc c)))with
  |no=>rw[ed]at h;exact h.elim
  |er c' ε2=>rw[ed]at h;exact h.elim
  |ok f ε2=>
   rw[ed]at h;dsimp only at h;split at h
   .cases f with
    |next=>exact λK P d r r' N p'=>h K _ _ r r'.unset ((g3.trans N).trans less) (pn p')
    |brk=>exact λK P d r r' N p'=>h K _ _ r r'.unset ((g3.trans N).trans less) (pn p')
    |cont=>exact λK P d r r' N p'=>h K _ _ r r'.unset ((g3.trans N).trans less) (pn p')
    |ret sl=>
     intro v K P d r Sr r' N p' rv lo;refine h v K _ _ r Sr r'.unset ?_ (pn p') rv λb z=>⟨(lo b z).1,λ⟨j,w⟩=>(lo b z).2.1 ⟨j,w.1⟩,(lo b z).2.2⟩
     have gg:=g3.trans N;exact⟨gg.fro,gg.keep,gg.there,gg.fnew,λb z=>gg.onew b (z.imp (λ⟨j,w⟩=>⟨j,w.1⟩) id)⟩
   .exact h.elim
 refine ez ((hh a F1 _ _ _ _ _ r3 okd).run af s4 I4) (λf s5 sp=>?_) λ_ _ z=>z.elim;have O:∀{L:St}{H5:Hp}{Q:Unit->am->Prop},Inv (hand X a) af L H5 s5->(∀s6,Inv X af (L.set i ae) H5 s6->Q () s6)->ar (aw X.prog X.w) X.A (do bindName X.env n .none;unbindBehindTheSuite X.env n C) Q X.xe s5:=λ{L H5 Q} I5 hQ=>by
  have I5':=Inv.unhand I5 I0.ok;refine ap (wpAny_bindName (yd (v:=.non) I5' hN hi (.inl hl) rfl (λs6 I6=>?_) hf));unfold unbindBehindTheSuite;refine wpAny_onRaise ?_;have hiσ:i<L.length:=by rw[I5'.len];exact(dR.mp hi).1
  refine Mz I6 hN hi hl (gB hiσ) λs7 I7=>hQ s7 ?_;rw[List.set_set]at I7;exact I7
 cases f with
 |next=>obtain⟨L,H5,I5,q5⟩:=sp;exact O I5 λs6 I6=>⟨_,H5,I6,q5⟩
 |brk=>obtain⟨L,H5,I5,q5⟩:=sp;exact O I5 λs6 I6=>⟨_,H5,I6,q5⟩
 |cont=>obtain⟨L,H5,I5,q5⟩:=sp;exact O I5 λs6 I6=>⟨_,H5,I6,q5⟩
 |ret u=>obtain⟨v,L,H5,I5,rv,q5⟩:=sp;exact O I5 λs6 I6=>⟨v,_,H5,I6,rv,q5⟩
theorem MY(i:Nat)(s:X.N.Nodup)(f:DX X e x)(v:X.mg t=aa (.ref D))(u:qo X.base D)(d:∀c,g c=ah->Under X.base D c)(o:∀a,gq (hand X a) E0 pin (m::l) A)(w:i∉pin:=by decide) (j:X.N[i]?=aa n:=by rfl) (h:X.env.scope.names.lookup n=aa .local:=by rfl) (p:Gl X t:=by rfl) (r:(t==("__debug__":Str))=aj:=by decide) (y:X.stack=X.env::X.outer:=by rfl) (b:X.env.frame=aa X.env.locals:=by rfl) (q:X.fn n=ah\/X.env.scope.names.lookup n=aa .local:=by first|exact .inl rfl|exact .inr rfl):DS X E pin (.Try [.Return (aa e) G] [.ExceptHandler (aa (.Name t J)) (aa n) (m::l) C] [] [] B) (uS i g x A):=L8 i s (RN f) v u d o w j h p r y b q
end
structure kR(k:Nat)(A:aT):Prop where
 dp:A.depth+3*k+5<vB
 un:A.units+16*k+200<cLine
theorem Room.hand{k:Nat}{A:aT}{v:Option ai}(r:Room k A):kR k (A.mark v):=⟨r.dp,r.un⟩
theorem kR.mono{j k:Nat}{A:aT}(r:kR k A)(h:j<=k):kR j A:=⟨by have:=r.dp;lia,by have:=r.un;lia⟩
theorem kR.deeper{k:Nat}{A:aT}(r:kR (k+1) A)(a:Env):kR k (A.deeper a) :=⟨by have:=r.dp;show A.depth+1+3*k+5<_;lia,by have:=r.un;show A.units+3+16*k+200<_;lia⟩
theorem kR.units{k:Nat}{A:aT}(r:kR k A):A.units+64<cLine:=by have:=r.un;lia
def vk(P:aQ)(w:aE)(K:ax)(g:Str->Option ai)(d:aB)(N:List Str)(c:Str)(a:dy)(f:ag)(h:ai)(A:aT)(b:List Env)(s:am)(H:Hp):Cx :=
 {(iF AB P w K g d N c a f h A b s H E0)with calm:=aj,xe:=λ_ _=>False}
structure Ah(P:aQ)(w:aE)(K:ax)(mg:Str->Option ai)(base:aB)(k:Nat)(f:ag)(fd:il)(ps:List Str)(sp:Sp):Prop where
 len:∀vs H Q E,sp vs H Q E->vs.length=ps.length
 run:∀(A:aT) (outer:List Env) (s:am) (H:Hp) (args:Args) (us:List ai) (vs:List V) (Q:VK),kR k A->r_ P w K mg base A outer s H->BindsTo s fd args (ps.zip us)->bv vs us->sp vs H Q E0 ->
  lK (aw P w) A (.call (.ref f) args) (CR AB outer P w H s Q E0) s
structure xu(P:aQ)(w:aE)(K:ax)(mg:Str->Option ai)(base:aB)(x:Str)(k:Nat)(ps:List Str)(sp:Sp):Prop where
 ex:∃f fd,mg x=aa (.ref f)/\Ah P w K mg base k f fd ps sp/\Binds K fd ps []/\qE K (.ref f)=ah
theorem MG{P:aQ}{w:aE}{K:ax}{D:Str->Option ai}{h:aB}{k:Nat}{f:ag}{t g:Str}{i:qG}{l:List ba}{a:dy}{dV kV L pm B ct oc:ai}{an od:Option ag}{Y:Array (Option ai)}{N M:List Str}{O:Sp} (lk:K.lookup f=aa ⟨oc,od,.func (iT t g i l a dV kV L pm an B ct),Y⟩) (bo:vC K B g=ah) (S:cb N M a)(len:∀p H Q E,O p H Q E->p.length=M.length)(gX:∀(A:aT) (c:List Env) (s:am) (H:Hp) (p:List V) (Q:VK),kR k (A.deeper (jo g a s.heap.objs.size f B))->O p H Q E0 -> qb (vk P w K D h N g a f B A c s H) l {nx:=λ_ C=>Q .non C,rt:=Q} (L2.start N p) H):Ah P w K D h (k+1) f (iT t g i l a dV kV L pm an B ct) M O:=by
 refine⟨len,λA c s H args us p Q hr j hb r ix=>?_⟩;have hl:=len _ _ _ _ ix;have KX:K.In s.heap:=j.mod.kin.keeps λb o e=>(j.bs b o e).1;have Z:s.heap.NoLimit:=j.mod.nolimit.keeps λb o e=>(j.bs b o e).1;have Db:∀y∈M.zip us,a.names.lookup y.1=aa .local\/(a.names.lookup y.1=aa .cell/\((fX (s.heap.objs.size+1) a.names []).lookup y.1).isSome=ah):=λ⟨n,v⟩ hy=>(S.par n (Ci hy).1).imp id λq=>⟨q,Iw _ _ _ (.inl q)⟩
 refine codeAny_call_function (by have:=hr.dp;lia) (KX _ _ lk) rfl S.co S.gen rfl (PySem.W.codeRec_of KX bo) (hb _ _ _ _ ?_);refine wpAny_newFunctionEnv_cells S.kind Db λenv he T x=>?_;subst he;refine⟨Z.keeps x.toInCall.keep,codeAny_func ?_⟩;have e1:r_ P w K D h {A with handled:=ae} c s H:=⟨j.frames,j.mod,j.bs,j.bsz,j.funs,j.frf,j.hok,j.bare,j.tab⟩
 have d:Inv (iF AB P w K D h N g a f B {A with handled:=ae} c s H E0) [] (L2.start N p) H T:=FY S rfl e1 hl r x;have I:Inv (vk P w K D h N g a f B A c s H) [] (L2.start N p) H T :=
  ⟨⟨d.ok.mod,d.ok.kind,d.ok.glob,d.ok.blt,d.ok.above,d.ok.inj,d.ok.has,d.ok.cab,(λz=>by cases z),Around.frames_deeper j.frames,d.ok.stk,d.ok.exf,d.ok.bs,d.ok.bsz,d.ok.noex,d.ok.exfs,d.ok.funs,d.ok.frf,d.ok.tab⟩,d.os,d.bare,d.base,d.loc,d.cell,d.free,d.freeC,d.pin,d.hok,d.len⟩
 refine ez ((gX A c s H p Q (hr.deeper _) ix).run [] T I) (λfl W F=>?_) λe W F=>F.elim;have G:∀{m:St}{C:Hp}{v:V}{u:ai},Inv (vk P w K D h N g a f B A c s H) [] m C W->RelV v u->Q v C->CE c P w H s Q u W:=λ{m C v u} J X q=>⟨v,C,J.os,J.bare,J.base,J.hok,X,q⟩
 cases fl with
 |ret u=>obtain⟨v,m,C,J,X,q⟩:=F;exact G J X q
 |next=>obtain⟨m,C,J,q⟩:=F;exact G (v:=V.non) (u:=Value.none) J rfl q
 |brk=>obtain⟨_,_,_,q⟩:=F;exact im q
 |cont=>obtain⟨_,_,_,q⟩:=F;exact im q
theorem JG{P:aQ}{w:aE}{K:ax}{t:Str->Option ai}{j:aB}{x:Str}{c:ba}{N l:List Str}{k n:Nat}{g:ak->R Slot}{d:ak->R aP}{p:List Nat}(D:cK K t x c)(X:cb N l (aZ c))(J:N.length=l.length+n)(O:∀(kV q v:ai) (C:Option ag) (o z:ai) (r:List ai),r.length=l.length->fV (iT x x (jT c) (fR c) (aZ c) .none kV q v C o z) ⟨r,[]⟩=pure (l.zip r))(B:∀b,g b≠.no->b.length=l.length) (y:∀b,g b≠.no->∀(i:Nat) m,b[i]?=aa (.own m)->i∈p/\fk m=ah) (M:∀b,g b≠.no->bu n d b=g b)(S:∀(f:ag) (o:ai) (A:aT) (a:List Env) (s:am) (H:Hp),kR k (A.deeper (jo x (aZ c) s.heap.objs.size f o))->gq (vk P w K t j N x (aZ c) f o A a s H) E0 p (fR c) d):xu P w K t j x (k+1) l (bM K g):=by obtain⟨f,T,L,u⟩:=D.ex;refine⟨f,T,L,?_,u.binds O,u.kp⟩;obtain⟨oc,od,kV,q,v,C,o,z,E,rfl,F,W⟩:=u.ex;exact MG F W X (Ec B) λA a s H Y Q I G=>HK J B (λb h i m e=>(y b h i m e).1) (λb Z aN h=>.inr λi m e=>(y b (by rw[h];exact nofun) i m e).2) M (S f o A a s H I) G
section
variable{X:Cx}{E:XK}{e:az}{d:List az}{j:ak->R (List cf)}{b:Pos}{x:Str}{k:Nat}{i:List Str}{g:ak->R Slot}{p:Pos}
theorem Qh{f:ag}{y:il}{v:Sp}{t:TA}(z:Ah X.prog X.w X.K X.mg X.base k f y i v)(B:kR k X.A)(G:Gl X x)(C:X.mg x=aa (.ref f))(F:qE X.K (.ref f)=ah)(L:Binds X.K y i [])(M:PA X (e::d) t) (K:(x==("__debug__":Str))=aj) (J:aM (e::d) X.env=(aj,aK e X.env)::aM d X.env) (O:(cZ b (aM d X.env)).any (·.1)=aj):PE X (.Call (.Name x p) (e::d) [] b) (λm H Q=>t m H λn o=>v n o Q E0):=λP s m H Q I h=>by
 refine tj (sU I G C ?_ K);refine Iv (h₀:=X.base) I.ok.mod.kin F (aL (M b P s m H _ I h) λc w ⟨n,o,l,r,q⟩=>⟨l.kIn,?_⟩) J O;have D:c.length=i.length:=by rw[<-r.length];exact z.len _ _ _ _ q
 refine tf (nW (z.run X.A X.stack w o ⟨c,[]⟩ c n Q B l.env0 (by have:=L w c l.kIn (by rw[fW];exact D);rwa[fW]at this) r q) λA S a=>?_);cases A with
 |error er=>exact(show False from a).elim
 |ok N=>
  cases N with
  |ret u=>exact l.after a
  |next=>exact im a
  |brk=>exact im a
  |cont=>exact im a
theorem JE{n m:Type}{K:ax}{E o:XK}{c:St}{F:ag->Prop}{S:Nat->ag->Prop}{H:Hp}{C:m->ak->(ag->Prop)->(Nat->ag->Prop)->Hp->Prop}{r:R n}{f:n->ak->R m}(h:Ok K E c F S H (dW (r.bind f)) C):Ok K E c F S H r λa l F S H=>Ok K o c F S H (f a l) C:=by
 cases r with
 |ok a l=>
  intro v t u s q;have h:Ok K E c F S H (dW (f a l)) C:=h;cases e:f a l with
  |ok=>rw[e]at h;exact Ok.from (E:=o) h q
  |_=>rw[e]at h;exact h.elim
 |_=>exact h.elim
theorem OM(c:xu X.prog X.w X.K X.mg X.base x k i (bM X.K g))(r:kR k X.A)(y:DG X E (e::d) j)(u:Gl X x:=by rfl)(v:(x==("__debug__":Str))=aj:=by decide) (A:aM (e::d) X.env=(aj,aK e X.env)::aM d X.env:=by rfl) (z:(cZ b (aM d X.env)).any (·.1)=aj:=by rfl):DR X E (.Call (.Name x p) (e::d) [] b) (λa=>dW (bd g j a)):=λF S a l H Q n h=>by obtain⟨f,I,s,D,w,t⟩:=c.ex;exact bU (Qh D r u s t w gL v A z) (y F S a l H _ n ((JE h).imp λJ m M K L o B q G C=>G3 o B C q))
end
structure oV(K:ax)(C:ag):Prop where
 ga:qD K (.ref C) "__getattribute__"=aa (aa (.builtin "BaseException.__getattribute__"))
 gt:qD K (.ref C) "__getattr__"=aa ae
 cl:qD K (.ref C) "__class__"=aa (aa (.builtin "object.__class__"))
 gs:Iu K (.builtin "object.__class__") "__get__"=aa (aa (.builtin "getset_descriptor.__get__"))
 tk:PySem.W.takesIn K (.builtin "object.__class__")=aa ah
 ob:yZ K C (.type "object")=aa ah
 be:yZ K C (.type "BaseException")=aa ah
 cs:(CJ K C).isSome=ah
section
variable{b:aQ}{w:aE}{A:aT}{E:ai->am->Prop}{K:ax}{h:aB}{g:Array GenState}{d:Drawn}{t:Nat}{c:OsState}{a C:ag}{o:Obj}
theorem Rs{M:Model}{f:ai}{Q:Unit->am->Prop}(X:K.In h)(k:oV K C)(I:vA h a o C ae)(j:Q () ⟨h,g,d,t,c⟩):ar M A (IP "BaseException.__getattribute__" ⟨[.ref a,f],[]⟩) Q E ⟨h,g,d,t,c⟩:=by
 have l:builtinKind "BaseException.__getattribute__"=aa .slot:=by decide +kernel
 have n:splitId "BaseException.__getattribute__"=aa ("BaseException","__getattribute__"):=by decide +kernel
 have p:=F.args_bexc_ga (.ref a) f;have m:=I.type (M:=M);have i:=PySem.W.looks_mroIn (M:=M) X k.be;simp only[IP,l,n];refine ap ?_
 .unfold zi
  repeat (first|with_reducible refine ap (m.at ?_)|with_reducible refine i.at ?_|with_reducible refine ap (i.at ?_)|wp_step)
  exact j
theorem P5{i:Tok}{Q:Fin->am->Prop}(X:K.In h)(k:oV K C)(I:vA h a o C ae)(j:Q (.done (.ret (.ref C))) ⟨h,g,d,t,c⟩):ar (aw b w) A (Builtin.«object.__getattribute__» ⟨[.ref a,.str "__class__" i],[]⟩) Q E ⟨h,g,d,t,c⟩:=by
 have q:=I.type (M:=aw b w);have l:PySem.W.findObj K C ae "__class__"=aa (.bind (.builtin "getset_descriptor.__get__") (.builtin "object.__class__")):=by obtain⟨u,m⟩:=Cj.mp k.cs;unfold PySem.W.findObj;rw[m,gT,k.cl,gT];simp[k.gs,k.tk]
 have p:=PySem.W.looks_find (M:=aw b w) X I l;have n:lK (aw b w) A (.call (.builtin "getset_descriptor.__get__") ⟨[.builtin "object.__class__",.ref a,.ref C],[]⟩) (λr f=>r=.ok (.ret (.ref C))/\f=⟨h,g,d,t,c⟩) ⟨h,g,d,t,c⟩:=PySem.W.class_get (s:=⟨h,g,d,t,c⟩) X I k.ob ⟨rfl,rfl⟩;refine ap (aG (ap (aG (ap (q.at (ap (p.at ?_)))))));show ar _ _ (do ret (<-nR [Value.builtin "object.__class__"] (call (.builtin "getset_descriptor.__get__") [.builtin "object.__class__",.ref a,.ref C]))) _ _ _;refine ap (jn (tf (nW n λr f z=>?_)));obtain⟨rfl,rfl⟩:=z;exact aG j
theorem Kv{i:Tok}{Q:ai->am->Prop}(X:K.In h)(k:oV K C)(I:vA h a o C ae)(q:Q (.ref C) ⟨h,g,d,t,c⟩):ar (aw b w) A (getAttrBy (.ref a) (.str "__class__" i) aj) Q E ⟨h,g,d,t,c⟩:=by
 have n:=I.type (M:=aw b w);have m:=PySem.W.looks_findIn (M:=aw b w) X k.ga;have f:=PySem.W.looks_findIn (M:=aw b w) X k.gt;have j:(Value.builtin "BaseException.__getattribute__" == Value.builtin "object.__getattribute__")=aj:=by decide +kernel
 have l:(onTheHeap (Value.ref C)&&Value.builtin "BaseException.__getattribute__" == Value.builtin "object.__getattribute__")=aj:=by rw[j];rfl
 unfold getAttrBy;refine jn (ap (n.at (ap (m.at ?_))));dsimp only;rw[l];rw[if_neg (by decide)];have f3:=F.attr_ValueError.ga.bind (.ref a);have p:(aj&&onTheHeap (Value.builtin "BaseException.__getattribute__"))=aj:=rfl
 repeat (any_goals (first|assumption|with_reducible refine f.at ?_|with_reducible refine ap (f.at ?_)|wp_step))
 refine IS F.attr_ValueError.ga.plain F.entry_bexc_ga (Rs X k I (P5 X k I ?_))
 repeat (any_goals (first|assumption|wp_step))
theorem JJ{Q:Option ai->am->Prop}(X:K.In h)(k:oV K C)(I:vA h a o C ae)(f:Q (aa (.ref C)) ⟨h,g,d,t+1,c⟩):ar (aw b w) A (getAttr? (.ref a) "__class__") Q E ⟨h,g,d,t,c⟩:=by
 unfold getAttr? getAttrBy?
 repeat (any_goals (first|assumption|with_reducible apply Kv X k I|wp_step))
theorem My(k:oV K C):PySem.W.KitX K (.ref a) (.ref C) (λh=>∃o,vA h a o C ae) where
 ty:=λ_ _ _ ⟨o,I⟩=>I.type
 it:=λ_ _ X _=>by
  obtain⟨x,f⟩:=Cj.mp k.cs;unfold CJ at f;split at f
  .rename_i y v m i l;intro J G H D r q;unfold isType loadHead;exact ap (wpAny_loadPart (r _ _ (X _ _ l)) (aG q))
  .cases f
 ne:=λh p F u n B X j=>by
  obtain⟨x,f⟩:=Cj.mp k.cs;refine IW.mpr λq=>?_;have e:C=p:=Value.ref.inj (beq_iff_eq.mp q);subst e;unfold CJ at f;split at f
  .rename_i y v m i l;have z:=(X _ _ l).symm.trans j;cases z
  .cases f
 ca:=λ{_ _ _ _ _ s} X I q=>by obtain⟨o,I⟩:=I;obtain⟨h,g,d,t,c⟩:=s;exact JJ X k I q
end
def ya:V->Option ai
 |.ref D=>aa (.ref D)
 |.ty T=>aa (.type T)
 |_=>ae
theorem KS{v:V}{u a:ai}(e:ya v=aa u)(r:RelV v a):a=u:=by
 cases v <;> simp[ya]at e <;> subst e <;> exact r
section
variable{X:Cx}{K:ax}
def Ig(K:ax):List V->Hp->VK->Prop:=λxs H Q=>∃a C D u b,xs=[.ref a,D]/\H a=aa (mZ a (.ref C))/\oV K C/\ya D=aa u/\eO K (.ref C) u=aa b/\Q (.bl b) H
theorem Uh:eM X (.builtin "isinstance") (Ig X.K):=by
 intro A s v H xs x Q I r h;obtain⟨a,C,D,u,b,rfl,j,k,i,e,q⟩:=h;cases r with
 |cons g f=>
  cases f with
  |cons d c=>
   cases c;cases g;have t:=KS i d;subst t;obtain⟨⟨o,w,p,n,m,l⟩,_,_⟩:=I.hok a _ j;refine lJ (My (a:=a) k) I.kIn ⟨o,p,n,?_,?_⟩ e (by intro z;cases z) λy=>⟨.bl b,H,I.tok _,rfl,q⟩
   .unfold PySem.W.notCls;rw[m]
   .rw[l];trivial
def jR(tab:ai->V->Option Bool):List PV->Option PV
 |[.exc c,.raw D]=>(tab c D).map .bl
 |xs=>e_ xs
def FX(K:ax):List V->Hp->VK->Prop:=λxs H Q=>Ig K xs H Q\/∃x t T b,xs=[x,.ty T]/\jk K H x (.type t)/\eO K (.type t) (.type T)=aa b/\Q (.bl b) H
theorem kW:eM X (.builtin "isinstance") (FX X.K):=Uh.or rO
def Ax(K:ax)(tab:ai->V->Option Bool):Prop:=∀c D b,tab c D=aa b->∃C u,c=.ref C/\oV K C/\ya D=aa u/\eO K (.ref C) u=aa b
theorem kQ{tab:ai->V->Option Bool}(j:Ax K tab):PL K (FX K) (jR tab):=λF H xs g Q pv f e q=>by
 unfold jR at e;split at e
 .rename_i c D;cases d:tab c D with
  |none=>rw[d]at e;cases e
  |some b=>
   rw[d]at e;cases e;obtain⟨C,u,rfl,k,i,l⟩:=j c D b d;obtain⟨v,p,rfl,⟨a,rfl,m⟩,o⟩:=f;obtain⟨h,rfl,n⟩:=gH o;rw[show h=D from n];exact .inl ⟨a,C,D,u,b,rfl,m,k,i,l,q _ F H (Al.refl ..) rfl⟩
 .exact .inr (sm F H _ g Q pv f e q)
theorem lw{E:XK}{x:Str}{D:ag}{d:Pos}(a:X.mg x=aa (.ref D))(b:Gl X x:=by rfl)(c:(x==("__debug__":Str))=aj:=by decide):DE X E (.Name x d) (dC (.raw (.ref D))):=λF S g f H Q r q=>bU (Be (v:=.ref D) b a rfl c) (q F S H r (bz.refl ..) _ rfl)
variable{E:XK}{e:az}{de:ak->R PV}{d:Pos}{y:Str}
def AF(xs:List PV)(y:PV):Option PV:=(dU y).bind λv=>(jz xs).map λa=>.int (a.countP λz=>dJ z v)
def nA(xs:List PV)(y:PV):Option PV:=(dU y).bind λv=>(jz xs).bind λa=>(a.findIdx? λz=>dJ z v).map λj=>.int j
def sq(f:List PV->PV->Option PV)(i:Nat)(de:ak->R PV):ak->R PV:=λb=>(aF (eh b i) b).bind λ_ b=>(de b).bind λk a=>(aF (eh a i) a).bind λxs a=>aF (f xs k) a
theorem Mg(i:Nat){p c b:Pos}(M:DE X E e de)(P:X.N[i]?=aa y:=by rfl)(J:ef X.env.scope y:=by first|exact Or.inl rfl|exact Or.inr (Or.inl rfl)|exact Or.inr (Or.inr rfl))(N:(y==("__debug__":Str))=aj:=by decide)(bo:(y==("__classdict__":Str))=aj:=by decide) (Z:j0 (.Name y p) "count" X.env (aK (.Name y p) X.env)=aK (.Name y p) X.env:=by rfl)(Y:((cZ b (aM [e] X.env)).all (λx=>!x.1)&&(qK b (qL [] X.env)).all (λx=>x.1.isSome)&&decide ([e].length+([]:List jE).length+(if([]:List jE).isEmpty then 0 else 1)<30))=ah:=by rfl)(W:(c.endLine == b.line)=ah:=by rfl) (t:aM [e] X.env=(aj,aK e X.env)::aM [] X.env:=by rfl) (T:(cZ b (aM [] X.env)).any (·.1)=aj:=by rfl):DE X E (.Call (.Attribute (.Name y p) "count" c) [e] [] b) (sq AF i de):=λF S o z H Q r h=>by
 unfold sq at h;cases n:eh o i with
 |none=>rw[n]at h;exact h.elim
 |some A=>
  rw[n]at h;simp only[b_,R.bind_ok]at h;obtain⟨a,B,u,O,_,_,_⟩:=r.lstAt (jg n);refine bU (va CG PySem.F.slot_list_count PySem.F.type_list_count Ms (fj P J N bo) (iH bD jU t) Z Y W t T) ⟨.ref a,u,.inl ⟨rfl,_,cE.of O⟩,?_⟩;refine M F S o z H _ r ((Ok.bind h).imp λk j F1 S1 H1 s g1 q v D=>?_);cases m:eh j i with
  |none=>rw[m]at q;exact q.elim
  |some xs=>
   rw[m]at q;simp only[b_,R.bind_ok]at q;obtain⟨a',C,g,I,G,_,_⟩:=s.lstAt (jg m);rw[u]at g;cases g;unfold AF at q;cases f:dU k with
   |none=>rw[f]at q;exact q.elim
   |some w=>
    cases l:jz xs with
    |none=>rw[f,l]at q;exact q.elim
    |some ws=>rw[f,l]at q;obtain⟨rfl,L⟩:=ud G l;rw[jP D f];exact⟨a,C,w,rfl,rfl,I,rD f,L,q F1 S1 H1 s (bz.refl ..) _ rfl⟩
theorem KG(i:Nat){p c b:Pos}(he:DE X E e de)(hN:X.N[i]?=aa y:=by rfl)(W:ef X.env.scope y:=by first|exact Or.inl rfl|exact Or.inr (Or.inl rfl)|exact Or.inr (Or.inr rfl))(hd:(y==("__debug__":Str))=aj:=by decide)(bo:(y==("__classdict__":Str))=aj:=by decide) (h1:j0 (.Name y p) "index" X.env (aK (.Name y p) X.env)=aK (.Name y p) X.env:=by rfl)(h2:((cZ b (aM [e] X.env)).all (λx=>!x.1)&&(qK b (qL [] X.env)).all (λx=>x.1.isSome)&&decide ([e].length+([]:List jE).length+(if([]:List jE).isEmpty then 0 else 1)<30))=ah:=by rfl)(h3:(c.endLine == b.line)=ah:=by rfl) (D:aM [e] X.env=(aj,aK e X.env)::aM [] X.env:=by rfl) (h5:(cZ b (aM [] X.env)).any (·.1)=aj:=by rfl):DE X E (.Call (.Attribute (.Name y p) "index" c) [e] [] b) (sq nA i de):=λF S u I H Q A h=>by
 unfold sq at h;cases t:eh u i with
 |none=>rw[t]at h;exact h.elim
 |some J=>
  rw[t]at h;simp only[b_,R.bind_ok]at h;obtain⟨a,M,G,ha,_,_,_⟩:=A.lstAt (jg t);refine bU (va CG PySem.F.slot_list_index PySem.F.type_list_index PJ (fj hN W hd bo) (iH bD jU D) h1 h2 h3 D h5) ⟨.ref a,G,.inl ⟨rfl,_,cE.of ha⟩,?_⟩;refine he F S u I H _ A ((Ok.bind h).imp λk r F1 S1 H1 B g1 q v O=>?_);cases s:eh r i with
  |none=>rw[s]at q;exact q.elim
  |some xs=>
   rw[s]at q;simp only[b_,R.bind_ok]at q;obtain⟨a',N,l,T,P,_,_⟩:=B.lstAt (jg s);rw[G]at l;cases l;unfold nA at q;cases f:dU k with
   |none=>rw[f]at q;exact q.elim
   |some w=>
    cases o:jz xs with
    |none=>rw[f,o]at q;exact q.elim
    |some L=>
     cases n:L.findIdx? λz=>dJ z w with
     |none=>rw[f,o]at q;simp only[gT]at q;rw[n]at q;exact q.elim
     |some j=>
      rw[f,o]at q;simp only[gT]at q;rw[n]at q;obtain⟨rfl,Z⟩:=ud P o;rw[jP O f];rw[IM]at n;obtain⟨C,h6,h7⟩:=n;refine⟨a,N,w,j,rfl,rfl,T,rD f,Z,C,λz g=>?_,λm z Y g=>?_,q F1 S1 H1 B (bz.refl ..) _ rfl⟩
      .rw[eW C]at g;cases g;exact h6
      .have:=h7 m Y;rw[eW ∅]at g;cases g;simpa using this
end
theorem KY(c:Nat)(x:Tx):wS [c] x=x.contains c:=by unfold wS;have:=StrLaws.found_one (tS x) c;rw[oX]at this;rw[show(tS [c])=⟨#[c]⟩from rfl,this];simp[List.contains_eq_mem]
section
variable{X:Cx}{K:ax}
def PM(K:ax)(r:V->List V->Hp->VK->Prop)(f:Tx->List PV->Option PV):Prop:=∀(F:ag->Prop) (H:Hp) (x:Tx) (xs:List PV) (b:List V) (Q:VK) (pv:PV),x.length<=b8->Reps K H F xs b->f x xs=aa pv->(∀w c a,Al F c H a->a8 K a c pv w->Q w a)->r (tV x) b H Q
def Bi:PV->Option Tx
 |.str x=>aa x
 |_=>ae
def uB(f:Tx->List PV->Option PV)(d:ak->R PV)(i:ak->R (List PV)):ak->R PV:=λc=>(d c).bind λx a=>(aF (Bi x) a).bind λy a=>(i a).bind λg b=>aF (f y g) b
variable{E:XK}{o e:az}{g:List az}{d:ak->R PV}{i:ak->R (List PV)}{b:Str}{c a:Pos}{j:String}{r:V->List V->Hp->VK->Prop}{f:Tx->List PV->Option PV}
theorem NG(n:PySem.Slot "str" b j)(O:typeOf (.builtin j)=pure (.type "method_descriptor"))(hm:sX X j r)(hp:PM X.K r f)(ho:DE X E o d)(ha:DA X E (e::g) i)(W:j0 o b X.env (aK o X.env)=aK o X.env:=by rfl)(I:((cZ a (aM (e::g) X.env)).all (λx=>!x.1)&&(qK a (qL [] X.env)).all (λx=>x.1.isSome)&&decide ((e::g).length+([]:List jE).length+(if([]:List jE).isEmpty then 0 else 1)<30))=ah:=by rfl)(T:(c.endLine == a.line)=ah:=by rfl) (Z:aM (e::g) X.env=(aj,aK e X.env)::aM g X.env:=by rfl) (G:(cZ a (aM g X.env)).any (·.1)=aj:=by rfl):DE X E (.Call (.Attribute o b c) (e::g) [] a) (uB f d i):=λF S B s H Q L h=>by
 refine bU (va PySem.F.plainAttrs_str n O hm bD gL W I T Z G) (ho F S B s H _ L ((Ok.bind h).imp λx m A u z N g1 q v J=>?_));cases x <;> first|exact(show False from q).elim|skip
 rename_i y;obtain⟨rfl,Y⟩:=J;refine⟨rfl,?_⟩;have q:Ok X.K E s A u z ((i m).bind λC l=>aF (f y C) l) _:=q;refine ha A u m s z _ N ((Ok.bind q).imp λxs l F2 S2 H2 M g2 p D P=>?_);cases e:f y xs with
 |none=>rw[e]at p;exact p.elim
 |some pv=>rw[e]at p;exact hp F2 H2 y xs D Q pv Y P e λw F' H' al t=>p F' S2 H' (M.al al) al.grow w t
end
theorem SU:fillsNumberSlot (.type "tuple") "mul"=pure aj :=PySem.fillsNumberSlot_seq (id:="tuple.__mul__") (r:=aa (.builtin "tuple.__rmul__")) F.slot_tuple_mul.lookup (by decide +kernel) F.slot_tuple_rmul.lookup (by decide +kernel)
theorem Pm:seqRepeat? (.type "tuple")=pure (aa (.builtin "tuple.__mul__")):=by unfold seqRepeat?;rw[PySem.seqSlot_of (T:="tuple") (name:="__mul__") (id:="tuple.__mul__") F.slot_tuple_mul.lookup (by decide +kernel),PySem.seqSlot_of (T:="tuple") (name:="__rmul__") (id:="tuple.__rmul__") F.slot_tuple_rmul.lookup (by decide +kernel)];rfl
theorem To(a:Int)(t:Tok)(l:ag)(b:Array ai)(n:Nat)(i:Option ag)(f:Array (Option ai)):Meets (Builtin.«int.__rmul__» ⟨[.int a t,.ref l],[]⟩) (λ_ R s=>s.heap.get? l=aa {cls:=.type "tuple",dict:=i,data:=.seq b n,slots:=f}/\R (.ok (.ret Value.notImplemented)) s) :=.of_wp λc w A R s h=>by obtain⟨o,g,d,j,m⟩:=s;obtain⟨p,h⟩:=h;wp_walk;exact⟨_,rfl,h⟩
theorem NC(l:ag)(a:Array ai)(n:Nat)(j:Option ag)(c:Array (Option ai))(x:Int)(u:Tok)(i:(decide (x < -(2^63))||decide (x ≥ 2^63))=aj)(y:(a.isEmpty||x == 1)=aj)(v:(decide (x<=0)||a.isEmpty)=aj)(f:¬(a.size*x > (2^63-1) / 8))(t:Builtin.Tuple.tupleTooMany (a.size*x)=aj)(r:((bO x.toNat a).foldl (·++·) #[]).size<=a_):Meets (Builtin.«tuple.__mul__» ⟨[.ref l,.int x u],[]⟩) (λ_ R s=>s.heap.get? l=aa {cls:=.type "tuple",dict:=j,data:=.seq a n,slots:=c}/\R (.ok (.ret (.ref s.heap.objs.size))) {s with heap:=s.heap.push {cls:=.type "tuple",data:=.seq ((bO x.toNat a).foldl (·++·) #[])}}) :=
 .of_wp λb w A R s h=>by
  obtain⟨p,g,d,m,o⟩:=s;obtain⟨q,h⟩:=h
  wp_walk
  refine wpAny_ite_false (decide_eq_false (by rw[i];exact fc)) ?_
  wp_walk
  refine wpAny_ite_false (decide_eq_false f) ?_
  wp_walk
  exact⟨_,rfl,h⟩
section
variable{X:Cx}{K:ax}
def GV(K:ax):R2:=λx y H Q=>∃a k xs,x=.ref a/\y=.int k/\cW K H a xs/\xs≠[]/\2<=k/\k<=1000/\xs.length<=1000/\∀p,H p=ae->Q (.ref p) (upd H p (.tup (bO k.toNat xs).flatten))
theorem Tp:b7 X (iS .Mult) (GV X.K):=by
 intro af s W H x y v u Q I E D h;obtain⟨l,k,xs,rfl,rfl,M,S,h1,N,J,q⟩:=h;cases E;obtain⟨t,rfl⟩:=D;obtain⟨a,r,G,_⟩:=I.tuple M;obtain⟨⟨P,p,w,f⟩,c,j,n,i⟩:=id G;simp only at j i;subst j i;have hl:=r.length;have d:a≠[]:=λz=>S (r.nil_iff.mp z);have m:List.foldl (λB A=>B++A) #[] (bO k.toNat a.toArray)=(bO k.toNat a).flatten.toArray:=by have:=foldl_rep a k.toNat [];rw[iq]at this;exact this
 have g:a.toArray.isEmpty=aj:=by cases a with|nil=>exact absurd rfl d|cons=>rfl
 have O:(k == 1)=aj:=by rw[beq_eq_false_iff_ne];lia
 have Y:a.toArray.size*k<=1000000:=by
  rw[cg];have L:(a.length:Int)<=1000:=∅
  have:=Int.mul_le_mul L N ∅ ∅;lia
 refine wpAny_binaryOp_repeat_ref (T:="tuple") (U:="int") (by decide) ⟨_,c,rfl⟩ (λC=>typeIs_int C k t) SU F.fills_int_mul F.slot_int_rmul Pm F.slot_int_index.lookup
  (tu F.slot_int_rmul (typeIs_int s k t) F.entry_int_rmul (F.args_int_rmul_2 _ _) (To k t l a.toArray n p f) ⟨c,rfl,⟨_,c,rfl⟩,tu F.slot_tuple_mul ⟨_,c,rfl⟩ F.entry_tuple_mul (F.args_tuple_mul_2 _ _) (NC l a.toArray n p f k t ?_ ?_ ?_ ?_ ?_ ?_) ⟨c,?_⟩⟩)
 .rw[decide_eq_false ∅,decide_eq_false ∅];rfl
 .rw[g,O];rfl
 .rw[g,decide_eq_false ∅];rfl
 .lia
 .unfold Builtin.Tuple.tupleTooMany;exact decide_eq_false (by rw[k8];lia)
 .rw[m,cg,AZ,k8];have:=zg (show k.toNat<=1000 by lia) (show a.length<=1000 by lia);lia
 .rw[m];refine⟨.ref s.heap.objs.size,_,I.laid (t':=s.toks) (o:=.tup (bO k.toNat xs).flatten) (λb Z q=>bn _ q) (aY _) ?_,rfl,q _ (I.hok.fresh (aY _))⟩;refine⟨?_,_,r.rep k.toNat,Ii.new _ _⟩;rw[AZ,k8];have:=zg (show k.toNat<=1000 by lia) J;lia
theorem _root_.Pu.Reps.rep{H:Hp}{F:ag->Prop}{xs:List PV}{a:List V}(r:Reps K H F xs a):∀n:Nat,Reps K H F (bO n xs).flatten (bO n a).flatten
 |0=>rfl
 |n+1=>by rw[o_,o_,tt,tt];exact r.app (r.rep n)
def xt:PV->PV->Option PV
 |.tup xs,.int k=>if xs≠[]/\2<=k/\k<=1000/\xs.length<=1000 then aa (.tup (bO k.toNat xs).flatten)else ae
 |_,_=>ae
theorem SW:P2 K (GV K) xt:=λF H x y v u Q pv i g e q=>by
 unfold xt at e;split at e
 .split at e
  .rename_i xs k h;cases e;obtain⟨a,f,rfl,j,b⟩:=i;have d:=b.len;exact⟨a,k,f,rfl,g,cW.of j,(λz=>h.1 (by rw[z]at d;exact lf d.symm)),h.2.1,h.2.2.1,∅,λp c=>q _ F _ (Al.new0 c) ⟨p,_,rfl,upd_same,(Al.new0 c).reps (b.rep _)⟩⟩
  .cases e
 .cases e
end
section
variable{X:Cx}{E:XK}{n:dy}{x:Str}{N':List Str}{cap:List Nat}
variable{pin:List Nat}
theorem K8{F:ag->Prop}{S:Nat->ag->Prop}{m:ak}{f:St}{H:Hp}{D:lu}{i:Nat}{dn:ak->R PO}(O:i∉pin)(Z:aX X.K F S m f H)(h:hU X.K E pin f F S H (cu i (dF dn) m) D):Ok X.K E f F S H (dn m) (λr _ q t l=>∀a d,fO X.K l q r a d->(∀b,d b->H b=ae/\¬q b/\¬U t b/\∃o,l b=aa o/\eE o)->D.nx (f.set i (aa (.ref a))) l):=by
 unfold cu dF at h;cases s:dn m with
 |no=>rw[s]at h;exact h.elim
 |er c G=>rw[s]at h;exact λx q t l L Y=>h x q t f l L Y (ju.refl _ _)
 |ok r B=>
  rw[s]at h;intro A v p K j a d M u;cases r with
  |dK g=>exact h.elim
  |lls j8=>exact h.elim
  |ins C fs=>exact h.elim
  |dT g=>exact h.elim
  |dN g=>exact h.elim
  |inl C fs y xs=>exact h.elim
  |lst xs=>
   have T:∀b,d b->¬U v b/\∃o,p b=aa o:=λb z=>let ⟨_,_,x3,o,x4,_⟩:=u b z;⟨x3,o,x4⟩
   obtain⟨⟨I,P,N⟩,Q⟩:=M;have W:bz (U S) (U v) F (λb=>A b\/d b) H p:=⟨λb z=>.inl (j.fro b z),j.keep,j.there,λb z=>z.elim (j.fnew b) λw=>.inr (.inl (u b w).1),j.onew⟩
   have J:a8 X.K p (λb=>A b\/d b) (.lst xs) (.ref a):=⟨a,I,rfl,.inl P,.inr ((Q a).mpr rfl),Reps.mono (λ_ z=>.inl z) (λ_ _ _ z=>z) (λ_ _ z _=>z) _ _ N⟩
   exact h _ _ _ p ((K.more T).set J) (W.trans (bz.less i)) (ju.set O)
section
variable{c a:az}{y:Str}{g j f d:Pos}{l:ak->R (List PV)}{dt:ak->R Bool}{de:ak->R PV}{m:ak->R PO}{b:List az}
theorem Kc(i:Nat)(P:X.N.Nodup)(B:jx X n x N' cap)(O:X.calm=ah)(L:DI X E (.Name x g) a l)(G:∀C o p r q,DF (cx X n N' C o p r q) E0 b dt) (N:∀C o p r q,DE (cx X n N' C o p r q) E0 c de)(K:i∉pin:=by decide) (z:X.N[i]?=aa y:=by rfl) (A:Loc X.env.scope y:=by first|exact Or.inl rfl|exact Or.inr rfl) (w:kw (.ListComp c [⟨.Name x g,a,b,0⟩] n f) (aa (.Name y j)) d.line X.env=pure ah:=by rfl)(M:X.fn y=ah\/X.env.scope.names.lookup y=aa .local:=by first|exact .inl rfl|exact .inr rfl) (J:∀x,nV a X.env x=pure x:=by intro _;rfl):DS X E pin (.Assign [.Name y j] (.ListComp c [⟨.Name x g,a,b,0⟩] n f) d) (cu i (dF (dX cap l dt de))):=λF S T t H D v h=>je (Sy (wi:=sR X (.Name x g) a) (ts:=λt H Q=>∀C o p r q,xS (cx X n N' C o p r q) b t H Q) (te:=λt H Q=>∀C o p r q,jv (cx X n N' C o p r q) c t H Q) B O B8 (λC o p r q u s t H Q I h=>(h C o p r q).run u s I) (λC o p r q u s t H Q I h=>(h C o p r q).run u s I) P z A w M J) (F8 L G N v (K8 K v h))
end
end
def et(a:List Nat):Nat->ak->Bool
 |_,[]=>ah
 |i,.own c::b=>a.contains i&&fk c&&et a (i+1) b
 |i,_::b=>et a (i+1) b
theorem oM{c:List Nat}:∀{b:ak}{k:Nat},et c k b=ah->∀(i:Nat) a,b[i]?=aa (.own a)->k+i∈c/\fk a=ah
 |[],_,_,i,a,e=>by simp at e
 |.own q::b,k,h,0,a,e=>by simp only[List.getElem?_cons_zero,Option.some.injEq,Slot.own.injEq]at e;subst e;simp only[et,ge]at h;exact⟨by simpa using h.1.1,h.1.2⟩
 |.own q::b,k,h,i+1,a,e=>by simp only[et,ge]at h;have:=oM (k:=k+1) h.2 i a (by simpa using e);rwa[IX,ph]at this
 |.val q::b,k,h,0,a,e=>by simp at e
 |.none::b,k,h,0,a,e=>by simp at e
 |.val q::b,k,h,i+1,a,e=>by have:=oM (k:=k+1) (by simpa[et]using h) i a (by simpa using e);rwa[IX,ph]at this
 |.none::b,k,h,i+1,a,e=>by have:=oM (k:=k+1) (by simpa[et]using h) i a (by simpa using e);rwa[IX,ph]at this
def bp(len:Nat)(b:List Nat)(g:ak->R Slot):ak->R Slot:=λa=>if a.length=len/\et b 0 a=ah then g a else .no
theorem dA{q:gu}{P:aQ}{w:aE}{K:ax}{o:Str->Option ai}{g:aB}{x:Str}{c:ba}{N b:List Str}{k n:Nat}{d:ak->R aP}{pin:List Nat}(D:cK K o x c)(F:cb N b (aZ c))(u:N.length=b.length+n)(v:∀(kV p t:ai) (C:Option ag) (l B:ai) (m:List ai),m.length=b.length->fV (iT x x (jT c) (fR c) (aZ c) .none kV p t C l B) ⟨m,[]⟩=pure (b.zip m))(y:∀(f:ag) (l:ai) (A:aT) (j:List Env) (s:am) (H:Hp) (E:XK),Room k (A.deeper (jo x (aZ c) s.heap.objs.size f l))->gq (iF q P w K o g N x (aZ c) f l A j s H E) E pin (fR c) d):cU q P w K o g x (k+1) b (bM K (bp b.length pin (bu n d))):=by
 have no:∀{a},bp b.length pin (bu n d) a≠.no->a.length=b.length/\et pin 0 a=ah:=λ{a} h=>by
  unfold bp at h;by_cases z:a.length=b.length/\et pin 0 a=ah
  .exact z
  .rw[if_neg z]at h;exact absurd rfl h
 exact Tk D F u v (λa h=>(no h).1) (λa h i r e=>by have:=oM (no h).2 i r e;rwa[mC]at this) (λa h=>by unfold bp;rw[if_pos (no h)]) y
theorem Nq{f:ag}{r:il}{t:gu}{P:aQ}{w:aE}{K:ax}{q:Str->Option ai}{j:aB}{x a:Str}{g:ba}{N c:List Str}{k n:Nat}{d:ak->R aP}{pin:List Nat}(I:pY K x a g f r)(G:cb N c (aZ g))(y:N.length=c.length+n)(B:∀(kV p v:ai) (F:Option ag) (m D:ai) (o:List ai),o.length=c.length->fV (iT x a (jT g) (fR g) (aZ g) .none kV p v F m D) ⟨o,[]⟩=pure (c.zip o))(C:∀(f:ag) (m:ai) (A:aT) (l:List Env) (s:am) (H:Hp) (E:XK),Room k (A.deeper (jo a (aZ g) s.heap.objs.size f m))->gq (iF t P w K q j N a (aZ g) f m A l s H E) E pin (fR g) d):lp P w K q j t (k+1) f r c (bM K (bp c.length pin (bu n d))):=by
 have no:∀{b},bp c.length pin (bu n d) b≠.no->b.length=c.length/\et pin 0 b=ah:=λ{b} h=>by
  unfold bp at h;by_cases z:b.length=c.length/\et pin 0 b=ah
  .exact z
  .rw[if_neg z]at h;exact absurd rfl h
 exact Gi I G y B (λb h=>(no h).1) (λb h i u e=>by have:=oM (no h).2 i u e;rwa[mC]at this) (λb h=>by unfold bp;rw[if_pos (no h)]) C
theorem LI{P:aQ}{w:aE}{K:ax}{o:Str->Option ai}{g:aB}{x:Str}{c:ba}{N b:List Str}{k n:Nat}{d:ak->R aP}{pin:List Nat}(D:cK K o x c)(C:cb N b (aZ c))(t:N.length=b.length+n)(u:∀(kV p r:ai) (B:Option ag) (l y:ai) (m:List ai),m.length=b.length->fV (iT x x (jT c) (fR c) (aZ c) .none kV p r B l y) ⟨m,[]⟩=pure (b.zip m))(v:∀(f:ag) (l:ai) (A:aT) (j:List Env) (s:am) (H:Hp),kR k (A.deeper (jo x (aZ c) s.heap.objs.size f l))->gq (vk P w K o g N x (aZ c) f l A j s H) E0 pin (fR c) d):xu P w K o g x (k+1) b (bM K (bp b.length pin (bu n d))):=by
 have no:∀{a},bp b.length pin (bu n d) a≠.no->a.length=b.length/\et pin 0 a=ah:=λ{a} h=>by
  unfold bp at h;by_cases z:a.length=b.length/\et pin 0 a=ah
  .exact z
  .rw[if_neg z]at h;exact absurd rfl h
 exact JG D C t u (λa h=>(no h).1) (λa h i q e=>by have:=oM (no h).2 i q e;rwa[mC]at this) (λa h=>by unfold bp;rw[if_pos (no h)]) v
theorem Hu{P:List ai->Prop}(h:∀a,P [a])(c:List ai)(d:c.length=1):P c:=by
 cases c with
 |nil=>cases d
 |cons a r=>cases r with
  |nil=>exact h a
  |cons b r=>cases d
theorem HL{P:List ai->Prop}(h:∀a b,P [a,b])(c:List ai)(d:c.length=2):P c:=by
 cases c with
 |nil=>cases d
 |cons a r=>exact Hu (P:=λr=>P (a::r)) (h a) r (CL d)
theorem EY{P:List ai->Prop}(h:∀a b c,P [a,b,c])(d:List ai)(f:d.length=3):P d:=by
 cases d with
 |nil=>cases f
 |cons a r=>exact HL (P:=λr=>P (a::r)) (h a) r (CL f)
theorem Se{P:List ai->Prop}(h:∀a b c d,P [a,b,c,d])(f:List ai)(g:f.length=4):P f:=by
 cases f with
 |nil=>cases g
 |cons a r=>exact EY (P:=λr=>P (a::r)) (h a) r (CL g)
theorem Uw{d:il}{c:List Str}(h:∀a,fV d ⟨[a],[]⟩=pure (c.zip [a]))(b:List ai)(f:b.length=1):fV d ⟨b,[]⟩=pure (c.zip b):=Hu (P:=λb=>fV d ⟨b,[]⟩=pure (c.zip b)) h b f
theorem Ui{f:il}{d:List Str}(h:∀a b,fV f ⟨[a,b],[]⟩=pure (d.zip [a,b]))(c:List ai)(g:c.length=2):fV f ⟨c,[]⟩=pure (d.zip c):=HL (P:=λc=>fV f ⟨c,[]⟩=pure (d.zip c)) h c g
theorem Ut{g:il}{f:List Str}(h:∀a b c,fV g ⟨[a,b,c],[]⟩=pure (f.zip [a,b,c]))(d:List ai)(i:d.length=3):fV g ⟨d,[]⟩=pure (f.zip d):=EY (P:=λd=>fV g ⟨d,[]⟩=pure (f.zip d)) h d i
theorem UG{i:il}{g:List Str}(h:∀a b c d,fV i ⟨[a,b,c,d],[]⟩=pure (g.zip [a,b,c,d]))(f:List ai)(j:f.length=4):fV i ⟨f,[]⟩=pure (g.zip f):=Se (P:=λf=>fV i ⟨f,[]⟩=pure (g.zip f)) h f j
theorem kq{P:aQ}{w:aE}{X:Cx}:sv (cr P w) X E0:=λ_ _ _ _ _ _ _ h=>by obtain⟨a,T,c,b,_,_,_,_,_,_,_,z⟩:=h;exact z.elim
theorem g6:eF "len"=aa (.builtin "len"):=by decide +kernel
theorem HW:eF "all"=aa (.builtin "all"):=by decide +kernel
theorem Pp:eF "any"=aa (.builtin "any"):=by decide +kernel
theorem oU:eF "sorted"=aa (.builtin "sorted"):=by decide +kernel
theorem iJ:eF "isinstance"=aa (.builtin "isinstance"):=by decide +kernel
theorem PN:eF "int"=aa (.type "int"):=by decide +kernel
theorem Pq:eF "bool"=aa (.type "bool"):=by decide +kernel
theorem NU:eF "str"=aa (.type "str"):=by decide +kernel
theorem EQ:eF "list"=aa (.type "list"):=by decide +kernel
theorem sd:eF "tuple"=aa (.type "tuple"):=by decide +kernel
theorem FO:eF "set"=aa (.type "set"):=by decide +kernel
theorem Q4:eF "ValueError"=aa (.type "ValueError"):=by decide +kernel
def me:az->Bool
 |.Starred _ _=>ah
 |_=>aj
theorem ka{e:az}{es:List az}{env:Env}(h:me e=aj):aM (e::es) env=(aj,aK e env)::aM es env:=by
 cases e <;> first|rfl|cases h
section
variable{X:Cx}{E:XK}{e:az}{a:List az}{d:ak->R PV}{b:ak->R (List PV)}{c:ak->R (List cf)}
theorem ay(g:DE X E e d)(f:DA X E a b)(h:me e=aj:=by rfl):DA X E (e::a) (aq d b):=N9 g f (ka h)
theorem a9(g:DE X E e d)(f:DG X E a c)(h:me e=aj:=by rfl):DG X E (e::a) (gV d c):=Lp g f (ka h)
end
def uP:List ai:=[.type "ValueError",.type "Exception",.type "BaseException",.type "object"]
theorem BO{K:ax}{h:aB}{C:ag}{B:List ai}{nw:String}(X:K.In h)(q:pi K C B nw=ah):∃i N v p bs D j a F c E A z y x w g,h.get? C=aa (CI v p C N bs i D j a F c E A z y x w nw)/\h.Ns N g/\g "__init__"=ae/\OwnTail h B i:=by
 unfold pi at q;split at q
 case h_2=>cases q
 case h_1 d0 cdata slots look=>
  split at q
  case h_2=>cases q
  case h_1 C2 tl s0 s1 s2 s3 nn s5 em es=>
   rw[ge,ge,ge,ge,ge]at q;obtain⟨⟨⟨⟨⟨u,t⟩,f⟩,s⟩,b⟩,r⟩:=q;have o:=beq_iff_eq.mp u;have n:=beq_iff_eq.mp t;have d:=beq_iff_eq.mp r;subst o n;cases cdata;dsimp only at em f b d;subst em;have m:=IY _ |>.mp f
   subst m;have l:slots=#[s0,s1,s2,s3,aa (.builtin nn),s5]:=by cases slots;exact congrArg Array.mk es
   subst l;exact⟨tl,_,_,_,_,_,_,_,_,_,d0,s0,s1,s2,s3,s5,_,X _ _ look,Heap.Ns.of_isNs (PySem.W.isNs_of_in X b),PySem.W.nsMap_none_of_in X b d,PySem.W.tail_of_in X s⟩
theorem Ly{K:ax}{h:aB}{a:Str->Option ai}{x:Str}{C:ag}{B:List ai}{nw:String}(X:K.In h)(e:a x=aa (.ref C))(q:pi K C B nw=ah):OwnCls x C B nw a h:=⟨e,BO X q⟩
theorem RC{K:ax}{h:aB}{C:ag}{nw:String}(X:K.In h)(q:pi K C uP nw=ah):qo h C:=by obtain⟨p,N,f,d,bs,n,c,a,r,b,o,m,l,j,i,g,s,e,_,_,t⟩:=BO X q;exact⟨p,N,f,d,bs,n,c,a,r,b,o,m,l,j,i,g,nw,e,t.hasType rfl⟩
def subB(K:ax)(D C:ag):Bool:=match K.lookup C with
 |some ⟨_,_,.cls a,_⟩=>a.mro.contains (.ref D)
 |_=>aj
theorem Md{K:ax}{h:aB}{C D:ag}{B:List ai}{nw:String}(X:K.In h)(q:pi K C B nw=ah)(s:subB K D C=ah):Under h D (.ref C):=by
 obtain⟨r,N,g,f,bs,o,d,a,t,c,p,n,m,l,j,i,x,e,_⟩:=BO X q;refine⟨C,r,N,g,f,bs,o,d,a,t,c,p,n,m,l,j,i,nw,rfl,e,?_⟩;unfold subB at s;split at s
 .rename_i w v y u look;have b:=X _ _ look;rw[e]at b;unfold CI at b;cases b;exact s
 .cases s
def xM(K:ax)(C:ag):Bool :=
 qD K (.ref C) "__getattribute__" == aa (aa (.builtin "BaseException.__getattribute__"))&&qD K (.ref C) "__getattr__" == aa ae&&qD K (.ref C) "__class__" == aa (aa (.builtin "object.__class__")) &&
 Iu K (.builtin "object.__class__") "__get__" == aa (aa (.builtin "getset_descriptor.__get__"))&&PySem.W.takesIn K (.builtin "object.__class__") == aa ah&&yZ K C (.type "object") == aa ah&&yZ K C (.type "BaseException") == aa ah&&(CJ K C).isSome
theorem E4{K:ax}{C:ag}(h:xM K C=ah):oV K C:=by simp only[xM,ge,beq_iff_eq]at h;obtain⟨⟨⟨⟨⟨⟨⟨j,i⟩,g⟩,f⟩,d⟩,c⟩,b⟩,a⟩:=h;exact⟨j,i,g,f,d,c,b,a⟩
def zJ(K:ax):Bool:=K.all λp=>match p.2.cls with
 |.type t=>t != "list"
 |_=>ah
theorem He{a:ag}{o:Obj}:∀{K:ax},K.lookup a=aa o->(a,o)∈K
 |[],e=>by cases e
 | (b,u)::K,e=>by
  rw[lc]at e;cases q:a == b with
  |true=>rw[q]at e;cases e;rw[beq_iff_eq.mp q];exact lI ..
  |false=>rw[q]at e;exact k6 _ (He e)
theorem Gc{K:ax}{H:Hp}{F:ag->Prop}:∀a:List Int,Reps K H F (a.map .int) (a.map V.int)
 |[]=>rfl
 |x::a=>⟨.int x,a.map V.int,rfl,rfl,Gc a⟩
theorem Rb{K:ax}{H:Hp}{a:ag}{xs:List V}(h:zJ K=ah)(s:cE K H a xs):Rd H a (.lst xs):=by
 rcases s with s|⟨o,c,n,b,d,_⟩
 .exact s
 .have:=qN.mp h _ (He b);rw[d]at this;simp at this
theorem R6{K:ax}{g:ak->R Slot}{H:Hp}{a:ag}{c:List Int}{E:XK}(d:Rd H a (.lst (c.map V.int)))(h:g [.val (.lst (c.map .int))]=.ok (.val (.bl ah)) [.val (.lst (c.map .int))]):bM K g [.ref a] H (λv _=>v=.bl ah) E:=by
 refine⟨λb=>b=a,λ_ _=>False,[.val (.lst (c.map .int))],⟨rfl,λb e=>?_,λi pv e=>?_,λi l e=>?_,λi b z=>z.elim,λi j b z=>z.elim⟩,?_⟩
 .subst e;rcases d with d|⟨o,d⟩ <;> exact⟨_,d⟩
 .cases i with
  |zero=>cases e;exact⟨_,rfl,a,_,rfl,d,rfl,Gc c⟩
  |succ i=>simp at e
 .cases i with
  |zero=>cases e
  |succ i=>simp at e
 .rw[h];exact λv q n p m _ _ f _ _=>f.1
theorem UB{K:ax}{x:Str}{i:Int}{t:Tok}(e:c7 K bQ x=aa (aa (.int i t))):∃t,c7 K bQ x=aa (aa (.int i t)):=⟨t,e⟩
theorem Ux{K:ax}{x:Str}{l:Tx}{t:Tok}(e:c7 K bQ x=aa (aa (.str (tS l) t))):∃t,c7 K bQ x=aa (aa (.str (tS l) t)):=⟨t,e⟩
def c_(K:ax)(x:Str)(a:ba):Prop:=∃f oc g kV h d j b i c,c7 K bQ x=aa (aa (.ref f))/\K.lookup f=aa ⟨oc,g,.func (iT x x (jT a) (fR a) (aZ a) .none kV h d j b i),c⟩/\vC K b x=ah/\qE K (.ref f)=ah
theorem Ug{K:ax}{x:Str}{b:ba}{f:ag}{oc kV j h d m:ai}{i n:Option ag}{g:Array (Option ai)}(a:c7 K bQ x=aa (aa (.ref f)))(l:K.lookup f=aa ⟨oc,i,.func (iT x x (jT b) (fR b) (aZ b) .none kV j h n d m),g⟩)(c:vC K d x=ah) (k:qE K (.ref f)=ah):c_ K x b:=⟨f,oc,i,kV,j,h,n,d,m,g,a,l,c,k⟩
theorem c_.at{K:ax}{h:aB}{mg:Str->Option ai}{x:Str}{st:ba}(d:c_ K x st)(X:K.In h)(G:h.Ns bQ mg):cK K mg x st:=by obtain⟨f,oc,i,kV,j,g,n,m,ct,b,a,l,c,k⟩:=d;exact⟨f,_,ir X G a,G7 l c k⟩
def jS(a:List (aD×PV))(k:aD):Option PV:=(a.find? λb=>decide (b.1=k)).map (·.2)
def oK(a:List (aD×PV))(k:aD)(v:PV):List (aD×PV):=if(a.any λb=>decide (b.1=k))=ah then a.map (λb=>if b.1=k then(b.1,v)else b)else a++[(k,v)]
def jb:PV->Option aD
 |.int i=>aa (.inl i)
 |.str x=>aa (.inr (tS x))
 |_=>ae
section
variable{K:ax}{F:ag->Prop}{S:Nat->ag->Prop}{ε:ak}{l:St}{H:Hp}{i:Nat}{d:List (aD×PV)}{f:List (aD×V)}{a:ag}
theorem vd{x:PV}{v:V}{k:aD}(r:a8 K H F x v)(e:jb x=aa k):v=kV k:=by
 cases x <;> simp[jb]at e
 .subst e;exact r
 .subst e;exact r.1
theorem ik.len(h:ik K H F d f):f.length=d.length:=by
 unfold ik at h
 induction h with
 |nil=>rfl
 |cons _ _ b=>simp[b]
theorem ik.val(h:ik K H F d f)(k:aD):(∃x v,jS d k=aa x/\fP f k=aa v/\a8 K H F x v)\/(jS d k=ae/\fP f k=ae):=by
 unfold ik at h
 induction h with
 |nil=>exact .inr ⟨rfl,rfl⟩
 |@cons p q ps qs r _ ih=>
  by_cases e:p.1=k
  .refine .inl ⟨p.2,q.2,by simp[jS,iU,e],?_,r.2⟩;rw[sF (by rw[<-r.1];exact e)]
  .have b:¬q.1=k:=by rw[<-r.1];exact e
   rw[sj b];have:jS (p::ps) k=jS ps k:=by simp[jS,iU,e]
   rw[this];exact ih
theorem ik.any(h:ik K H F d f)(k:aD):(d.any λb=>decide (b.1=k))=f.any λb=>decide (b.1=k):=by
 unfold ik at h
 induction h with
 |nil=>rfl
 |cons r _ c=>rw[qJ,qJ,c,r.1]
theorem ik.put(h:ik K H F d f)(k:aD){x:PV}{v:V}(r:a8 K H F x v):ik K H F (oK d k x) (h_ f k v):=by
 unfold oK h_;rw[h.any k];split
 .rename_i b;clear b;unfold ik at h ⊢
  induction h with
  |nil=>exact .nil
  |@cons p q ps qs r1 _ ih=>
   refine .cons ?_ ih;dsimp only;by_cases e:p.1=k
   .rw[if_pos e,if_pos (by rw[<-r1.1];exact e)];exact⟨r1.1,r⟩
   .rw[if_neg e,if_neg (by rw[<-r1.1];exact e)];exact r1
 .exact y8 h ⟨rfl,r⟩
theorem aX.dkAt(r:aX K F S ε l H)(e:ε[i]?=aa (.own (.dK d))):∃a f,l[i]?=aa (aa (.ref a))/\H a=aa (.dK f)/\ik K H F d f/\S i a/\∀b,S i b->b=a:=by obtain⟨a,n,⟨g,m,j⟩,c⟩:=r.own i _ e;exact⟨a,g,n,m,j,(c a).mpr rfl,λb h=>(c b).mp h⟩
theorem aX.updO{p po':PO}{o':HO}(r:aX K F S ε l H)(e:ε[i]?=aa (.own p))(O:fk p=ah)(E:l[i]?=aa (aa (.ref a)))(N:eE o')(h:∀y,(∀x v,a8 K H F x v->a8 K y F x v)->(∀x v,Reps K H F x v->Reps K y F x v)->y a=aa o'->∀I:ag->Prop,(∀b,I b↔b=a)->fO K y F po' a I):aX K F S (ε.set i (.own po')) l (L2.upd H a o')/\bz (U S) (U S) F F H (L2.upd H a o'):=by
 obtain⟨P,G,M⟩:=r.own i p e;rw[E]at G;cases G;have s:=Fe M O;have B:S i a:=(s a).mpr rfl;have D:∀b,S i b->b=a:=λb z=>(s b).mp z;have A:i<ε.length:=(dR.mp e).1;have g:bz (U S) (U S) F F H (L2.upd H a o'):=⟨λ_ z=>z,λb o q n=>by rw[bj (by rintro rfl;exact n ⟨i,B⟩)];exact q,λb o q=>by
  by_cases C:b=a
  .subst C;exact⟨_,upd_same⟩
  .exact⟨o,by rw[bj C];exact q⟩,λ_ z=>.inl z,λ_ z=>.inl z⟩
 refine⟨⟨by rw[gR];exact r.len,λb z=>let ⟨o,q⟩:=r.ex b z;g.there b o q,λj pv q=>?_,λj p q=>?_,λj b z=>?_,r.dist⟩,g⟩
 .have m:i≠j:=by rintro rfl;rw[gB A]at q;cases q
  rw[eU m]at q;obtain⟨v,u,t⟩:=r.val j pv q;exact⟨v,u,t.grow g r.fit⟩
 .by_cases m:i=j
  .subst m;rw[gB A]at q;cases q;exact⟨a,E,h _ (λ_ _ z=>z.grow g r.fit) (λ_ _ z=>z.grow g r.fit) upd_same _ s⟩
  .rw[eU m]at q;obtain⟨c,u,t⟩:=r.own j p q;refine⟨c,u,t.mono (λ_ _ z=>z.grow g r.fit) (λ_ _ z=>z.grow g r.fit) λb o z w=>?_⟩;rw[bj (by rintro rfl;exact m (r.dist i j b B z))];exact w
 .obtain⟨⟨p,u⟩,t,o,L,J⟩:=r.foot j b z;by_cases m:i=j
  .subst m;rw[D b z];exact⟨⟨_,gB A⟩,by rw[<-D b z];exact t,_,upd_same,N⟩
  .exact⟨⟨p,by rw[eU m];exact u⟩,t,o,by rw[bj (by rintro rfl;exact m (r.dist i j b B z))];exact L,J⟩
end
def dm(b:ak)(i:Nat):Option (List (aD×PV)):=match b[i]? with
 |some (.own (.dK a))=>aa a
 |_=>ae
theorem lE{b:ak}{i:Nat}{a:List (aD×PV)}(h:dm b i=aa a):b[i]?=aa (.own (.dK a)):=by
 unfold dm at h;split at h
 .cases h;assumption
 .cases h
section
variable{X:Cx}{E:XK}{pin:List Nat}{e b c:az}{de db f:ak->R PV}{d:Pos}
def si:ak->R PO:=λa=>.ok (.dK []) a
theorem EA:DN X E (.Dict [] [] d) si:=λF S l i H Q g h=>bU Mr λp a=>by
 have al:Al F F H (upd H p (.dK [])):=Al.new0 a;refine h F S _ (g.al al) al.grow p (λb=>b=p) ⟨⟨[],upd_same,.nil⟩,λb=>qR⟩ λb z=>?_;subst z;refine⟨a,λz=>?_,λ⟨j,z⟩=>?_,_,upd_same,trivial⟩
 .obtain⟨o,q⟩:=g.ex b z;rw[a]at q;cases q
 .obtain⟨_,_,o,q,_⟩:=g.foot j b z;rw[a]at q;cases q
def nH(i:Nat)(db:ak->R PV):ak->R PV:=λg=>(aF (dm g i) g).bind λ_ g=>(db g).bind λk a=>(aF (dm a i) a).bind λh a=>aF ((jb k).bind λk=>jS h k) a
theorem FH(i:Nat){y:Str}{z:Pos}(Z:X.A.units+64<cLine)(K:DE X E b db)(M:X.N[i]?=aa y:=by rfl)(N:ef X.env.scope y:=by first|exact Or.inl rfl|exact Or.inr (Or.inl rfl)|exact Or.inr (Or.inr rfl))(J:(y==("__debug__":Str))=aj:=by decide) (O:(y==("__classdict__":Str))=aj:=by decide) (G:uN b:=by exact λ_ _=>rfl):DE X E (.Subscript (.Name y z) b d) (nH i db):=λF S o w H Q p h=>by
 unfold nH at h;cases n:dm o i with
 |none=>rw[n]at h;exact h.elim
 |some s=>
  rw[n]at h;simp only[b_,R.bind_ok]at h;obtain⟨a,A,t,_⟩:=p.dkAt (lE n);refine bU (JP ∅ (fj M N J O) bD G) ⟨.ref a,t,K F S o w H _ p ((Ok.bind h).imp λk j W P T r g1 q u B=>?_)⟩;cases m:dm j i with
  |none=>rw[m]at q;exact q.elim
  |some D=>
   rw[m]at q;simp only[b_,R.bind_ok]at q;obtain⟨a',Y,g,L,I,_⟩:=r.dkAt (lE m);rw[t]at g;cases g;cases l:jb k with
   |none=>rw[l]at q;exact q.elim
   |some C=>
    rw[l,gT]at q;rw[vd B l];rcases I.val C with⟨x,v,h1,h2,h3⟩|⟨h1,h2⟩
    .rw[h1]at q;exact⟨a,v,rfl,by rw[<-h2];exact ln.k L,q W P T r (bz.refl ..) v h3⟩
    .rw[h1]at q;exact q.elim
def iN(i:Nat)(db f:ak->R PV):ak->R PV:=λg=>(aF (dm g i) g).bind λ_ g=>(db g).bind λk h=>(f h).bind λz a=>(aF (dm a i) a).bind λj a=>aF ((jb k).map λk=>(jS j k).getD z) a
theorem ym(i:Nat){y:Str}{j g:Pos}(hu:X.A.units+64<cLine)(hb:DE X E b db)(hc:DE X E c f)(hN:X.N[i]?=aa y:=by rfl)(dS:ef X.env.scope y:=by first|exact Or.inl rfl|exact Or.inr (Or.inl rfl)|exact Or.inr (Or.inr rfl))(hd:(y==("__debug__":Str))=aj:=by decide) (bo:(y==("__classdict__":Str))=aj:=by decide)(l:j0 (.Name y j) "get" X.env (aK (.Name y j) X.env)=aK (.Name y j) X.env:=by rfl) (A:(g.endLine == d.line)=ah:=by rfl) (Z:me b=aj:=by rfl) (Y:me c=aj:=by rfl):DE X E (.Call (.Attribute (.Name y j) "get" g) [b,c] [] d) (iN i db f):=λF S I G H Q K h=>by
 have J:aM [b,c] X.env=[(aj,aK b X.env),(aj,aK c X.env)]:=by rw[ka Z,ka Y];rfl
 have m:M2 X (.Name y j) "get" g b c d:=⟨l,by rw[J];rfl,A,by rw[J];rfl⟩
 unfold iN at h;cases D:dm I i with
 |none=>rw[D]at h;exact h.elim
 |some L=>
  rw[D]at h;simp only[b_,R.bind_ok]at h;obtain⟨a,W,N,t,_⟩:=K.dkAt (lE D);refine bU (Mw ∅ (fj hN dS hd bo) bD bD m) ⟨.ref a,N,a,rfl,.inl ⟨_,.inl t⟩,hb F S I G H _ K ((Ok.bind h).imp λk p F1 S1 H1 r1 g1 q u ru=>?_)⟩;refine hc F1 S1 p G H1 _ r1 ((Ok.bind q).imp λz o T O P s g2 q w r=>?_);cases C:dm o i with
  |none=>rw[C]at q;exact q.elim
  |some kvs=>
   rw[C]at q;simp only[b_,R.bind_ok]at q;obtain⟨a',ws,n,M,hk,_⟩:=s.dkAt (lE C);rw[N]at n;cases n;cases B:jb k with
   |none=>rw[B]at q;exact q.elim
   |some ky=>
    rw[B,pf]at q;rw[vd ru B];rcases hk.val ky with⟨x,v,l,h2,A⟩|⟨l,h2⟩
    .rw[l]at q;exact⟨aa v,by rw[<-h2];exact ln.k M,q T O P s (bz.refl ..) v A⟩
    .rw[l]at q;exact⟨ae,by rw[<-h2];exact ln.k M,q T O P s (bz.refl ..) w r⟩
def fH(i:Nat)(db de:ak->R PV):ak->R aP:=λj=>(de j).bind λy g=>(aF (dm g i) g).bind λ_ g=>(db g).bind λk a=>(aF (dm a i) a).bind λh a=>(aF (jb k) a).bind λk a=>if h.length<b8 then .ok .next (a.set i (.own (.dK (oK h k y))))else .no
theorem qw(i:Nat){y:Str}{C j:Pos}(hu:X.A.units+64<cLine)(hb:DE X E b db)(Z:DE X E e de)(hN:X.N[i]?=aa y:=by rfl)(dS:ef X.env.scope y:=by first|exact Or.inl rfl|exact Or.inr (Or.inl rfl)|exact Or.inr (Or.inr rfl))(hd:(y==("__debug__":Str))=aj:=by decide) (bo:(y==("__classdict__":Str))=aj:=by decide) (W:kw e (aa (.Subscript (.Name y C) b j)) d.line X.env=pure aj:=by rfl):DS X E pin (.Assign [.Subscript (.Name y C) b j] e d) (fH i db de):=λF S K o H D P h=>by
 refine je (Li ∅ (fj hN dS hd bo) bD bD W) (Z F S K o H _ P (h.bindE.imp λy l F1 S1 H1 r g1 q v N=>?_));cases B:dm l i with
 |none=>rw[B]at q;exact q.elim
 |some I=>
  rw[B]at q;simp only[b_,R.bind_ok]at q;obtain⟨a,L,z,ha0,_⟩:=r.dkAt (lE B);refine⟨.ref a,z,hb F1 S1 l o H1 _ r (q.bindE.imp λk p F2 S2 H2 G g2 g u O=>?_)⟩;cases n:dm p i with
  |none=>rw[n]at g;exact g.elim
  |some t=>
   rw[n]at g;simp only[b_,R.bind_ok]at g;obtain⟨a',M,m,ha,J,_⟩:=G.dkAt (lE n);rw[z]at m;cases m;cases A:jb k with
   |none=>rw[A]at g;exact g.elim
   |some s=>
    rw[A]at g;simp only[b_,R.bind_ok]at g;split at g
    .rename_i Y;rw[vd O A];have cD:=J.put s (N.grow g2 r.fit);obtain⟨Q,g3⟩:=G.updO (po':=.dK (oK t s y)) (o':=.dK (h_ M s v)) (lE n) rfl z trivial λH' T m2 x Sa w=>⟨⟨_,x,cD.mono T⟩,w⟩
     exact⟨a,_,rfl,Ca.k ha (by rw[J.len];exact fU Y kP),g F2 S2 o _ Q g3 (ju.refl _ _)⟩
    .exact g.elim
end
section
variable{X:Cx}
def iM(a d:ag):HO:=.ext λh=>h.IsValuesView a d
theorem Go:sX X "dict.values" (λx xs H Q=>∃d b,x=.ref d/\xs=[]/\H d=aa (.dK b)/\∀a,H a=ae->Q (.ref a) (upd H a (iM a d))):=by
 intro y s r H x xs v t Q I g i h;obtain⟨d,b,rfl,rfl,p,q⟩:=h;cases g;cases i.zero;obtain⟨z,n,f,j,c⟩:=yb I.hok p;refine call_meetsIn IZ c.typeIs PySem.F.entry_dict_values (PySem.F.args_dict_values_1 _) (meets_dict_values (gK X.prog X.w) d n) ⟨⟨f,c⟩,?_⟩;refine⟨.ref s.heap.objs.size,_,I.laid (a:=s.heap.objs.size) (o:=iM s.heap.objs.size d) (t':=s.toks) (λ_ _ q=>bn _ q) (aY _) ?_,rfl,q _ I.fresh⟩;exact⟨⟨_,cy _ rfl,rfl,rfl⟩,⟨_,cy _ rfl⟩,λw u ⟨o,m,l⟩ k=>⟨o,k o m,l⟩⟩
theorem KV.at{a:List (aD×V)}{vs:List (aD×ai)}(r:KV a vs){i:Nat}{k:aD}{u:ai}(h:vs[i]?=aa (k,u)):∃v,a[i]?=aa (k,v)/\RelV v u:=by
 unfold KV at r
 induction r generalizing i with
 |nil=>simp at h
 |@cons p q ps qs r1 _ ih=>
  cases i with
  |zero=>simp at h;subst h;exact⟨p.2,by simp[show k=p.1 from r1.1.symm],r1.2⟩
  |succ i=>exact ih (by simpa using h)
def kX(a:List (aD×V)):Option Bool:=match a with
 |[]=>aa aj
 | (_,.int i)::r=>(kX r).map λb=>(decide (i≠0))||b
 |_=>ae
theorem FQ:∀{a:List (aD×V)}{b:Bool},kX a=aa b->(∀(i:Nat) k v,a[i]?=aa (k,v)->∃n,v=.int n)/\b=(cz a.length).any λi=>match a[i]? with|aa (_,.int n)=>decide (n≠0)|_=>aj
 |[],b,h=>by simp[kX]at h;subst h;exact⟨by simp,rfl⟩
 | (k,.int n)::r,b,h=>by
  simp only[kX,mw]at h;obtain⟨l,j,g⟩:=h;obtain⟨f,d⟩:=FQ j;refine⟨λi c v e=>?_,?_⟩
  .cases i with
   |zero=>simp at e;exact⟨n,e.2.symm⟩
   |succ i=>exact f i c v (by simpa using e)
  .rw[d_,vM,qJ,List.any_map,<-g,d];rfl
 | (_,.non)::_,_,h=>by simp[kX]at h
 | (_,.bl _)::_,_,h=>by simp[kX]at h
 | (_,.str _)::_,_,h=>by simp[kX]at h
 | (_,.ref _)::_,_,h=>by simp[kX]at h
 | (_,.ty _)::_,_,h=>by simp[kX]at h
theorem Lz(O:X.calm=ah):eM X (.builtin "any") (λxs H Q=>∃(p d:ag) (a:List (aD×V)) (b:Bool),xs=[.ref p]/\H p=aa (iM p d)/\H d=aa (.dK a)/\kX a=aa b/\Q (.bl b) H):=by
 intro Z s C H xs us Q I r h;obtain⟨p,d,a,b,rfl,m,N,S,q⟩:=h;obtain⟨u,rfl,E⟩:=vals1 r;cases E;obtain⟨l,_,_⟩:=(show cq X.prog X.w H s.heap p (iM p d)from I.hok p _ m)
 obtain⟨z,hs,j,g,Y⟩:=yb I.hok N;obtain⟨A,f⟩:=Y.dictAt;obtain⟨L,K⟩:=FQ S;refine call_any_walk (wpAny_pyIter_values l f ?_);refine⟨s.heap.objs.size,_,_,_,_,_,λi=>match a[i]? with|aa (_,.int n)=>decide (n≠0)|_=>aj,rfl,Walks.dictValues (zN (I.ok.hd O)) _ d (cY f.lt_size) j A,⟨⟨_,cy _ rfl,rfl,rfl⟩,f.push _⟩,λi v s' Q' E' l y=>?_,λh' D k=>?_⟩
 .obtain⟨J,M⟩:=l;obtain⟨w,B,W⟩:=KV.at g M;obtain⟨n,rfl⟩:=L i J w B;obtain⟨t,rfl⟩:=W;dsimp only at y;rw[B]at y;exact PyProof.Rows.truthy_int (by rw[show(n != 0)=decide (n≠0) by by_cases z:n=0 <;> simp[z]];exact y)
 .have I1:Inv X Z C H {s with heap:=s.heap.push {cls:=.type "dict_valueiterator",data:=.fields #[.ref d,.int 0 0,.int j.length 0,.int A 0]},toks:=s.toks}:=I.kept (t':=s.toks) λb o e=>bn _ e;have T:(cz j.length).any (λi=>match a[i]? with|aa (_,.int n)=>decide (n≠0)|_=>aj)=b:=by rw[<-g.length];exact K.symm
  rw[T];exact⟨.bl _,H,Inv.turned (t':=D) I1 (it:=s.heap.objs.size) (λb o P e=>k b o (by simpa using P) e) I.fresh (mo I.lt) (.inr I.sz) (λx c e z=>by obtain⟨v,F⟩:=I.cell x c e;exact absurd F.lt (by rw[z];exact fA _)) (λG m z=>absurd (bK (I.pin G m).1) (by rw[z];exact fA _)),rfl,q⟩
end
section
variable{X:Cx}{E:XK}{pin:List Nat}{e b c:az}{de db G:ak->R PV}{t:Pos}
def ql:List (aD×PV)->Option Bool
 |[]=>aa aj
 | (_,.int i)::r=>(ql r).map λb=>(decide (i≠0))||b
 |_=>ae
theorem P_{K:ax}{H:Hp}{F:ag->Prop}{a:List (aD×PV)}{d:List (aD×V)}{k:Bool}(h:ik K H F a d)(e:ql a=aa k):kX d=aa k:=by
 unfold ik at h
 induction h generalizing k with
 |nil=>exact e
 |@cons p q C qs r _ ih=>
  obtain⟨l,pv⟩:=p;obtain⟨j,g⟩:=q;cases pv <;> simp only[ql,mw]at e <;> try cases e
  obtain⟨i,f⟩:=r;obtain rfl:g=V.int _:=f;rename_i h;simp only[kX,ih h.1,pf];rw[<-h.2]
def uJ(i:Nat):ak->R PV:=λa=>(aF (dm a i) a).bind λd a=>aF ((ql d).map .bl) a
theorem OS(i:Nat){y:Str}{g p f d:Pos}(D:X.calm=ah)(z:X.mg "any"=ae)(I:X.N[i]?=aa y:=by rfl)(K:ef X.env.scope y:=by first|exact Or.inl rfl|exact Or.inr (Or.inl rfl)|exact Or.inr (Or.inr rfl))(C:(y==("__debug__":Str))=aj:=by decide) (M:(y==("__classdict__":Str))=aj:=by decide) (B:Gl X "any":=by rfl)(x:j0 (.Name y g) "values" X.env (aK (.Name y g) X.env)=aK (.Name y g) X.env:=by rfl) (w:(f.endLine == d.line)=ah:=by rfl)(u:aM [.Call (.Attribute (.Name y g) "values" f) [] [] d] X.env=(aj,aK (.Call (.Attribute (.Name y g) "values" f) [] [] d) X.env)::aM [] X.env:=by rfl) (L:(cZ t (aM [] X.env)).any (·.1)=aj:=by rfl):DE X E (.Call (.Name "any" p) [.Call (.Attribute (.Name y g) "values" f) [] [] d] [] t) (uJ i):=λF S v O H Q s h=>by
 unfold uJ at h;cases o:dm v i with
 |none=>rw[o]at h;exact h.elim
 |some l=>
  rw[o]at h;simp only[b_,R.bind_ok]at h;obtain⟨a,r,J,j,A,P,_⟩:=s.dkAt (lE o);cases n:ql l with
  |none=>rw[n]at h;exact h.elim
  |some k=>
   rw[n,pf]at h;refine bU (o4 (Lz D) B z Pp (iH (ER IG IZ PySem.F.type_dict_values Go (fj I K C M) x w) jU u) (by decide) (by decide) u L) ⟨.ref a,J,.inr (.inr (.inl ⟨rfl,.inl ⟨_,j⟩⟩)),a,r,rfl,rfl,j,λq m=>?_⟩;have al:Al F F H (L2.upd H q (iM q a)):=Al.new0 m;have N:a≠q:=by rintro rfl;rw[j]at m;cases m
   exact⟨q,a,r,k,rfl,upd_same,by rw[bj N];exact j,P_ A n,h F S _ (s.al al) al.grow _ rfl⟩
def xD(X:Cx)(E:XK)(m:List az)(d:ak->R (PO×List cf)):Prop :=
 ∀F S i f H Q,aX X.K F S i f H->Ok X.K E f F S H (d i) (λp _ h n g=>∀a l j,fO X.K g h p.1 a l->(∀b,l b->H b=ae/\¬h b/\¬U n b/\∃o,g b=aa o/\eE o)->jt X.K (f++[aa (.ref a)]) h g p.2 j->Q j g)->pL X m f H Q
theorem jt.app{K:ax}{g:St}{F:ag->Prop}{H:Hp}(d:St):∀{l:List cf}{j:List V},jt K g F H l j->jt K (g++d) F H l j
 |[],_,h=>h
 |.inl _::_,_,⟨v,r,e,a,f⟩=>⟨v,r,e,a,f.app d⟩
 |.inr i::_,_,⟨v,r,e,a,f⟩=>⟨v,r,e,by rw[jD (dR.mp a).1];exact a,f.app d⟩
theorem fO.stay{K:ax}{O l F i:ag->Prop}{H h:Hp}{j:PO}{a:ag}{d:ag->Prop}(q:fO K H F j a d)(g:bz O l F i H h)(fit:Fit O F H)(f:∀b,d b->¬F b/\¬O b/\∃o,H b=aa o/\eE o):fO K h i j a d/\∀b,d b->¬i b/\¬l b/\∃o,h b=aa o/\eE o:=by refine⟨q.mono (λ_ _ z=>z.grow g fit) (λ_ _ z=>z.grow g fit) λb o z w=>(g.stay w (f b z).2.1 (f b z).1).1,λb z=>?_⟩;obtain⟨v,u,o,s,r⟩:=f b z;obtain⟨p,n,m⟩:=g.stay s u v;exact⟨n,m,o,p,r⟩
variable{m:List az}{dn:ak->R PO}{B:ak->R (List cf)}{A:ak->R (PO×List cf)}
def gN(dn:ak->R PO)(B:ak->R (List cf)):ak->R (PO×List cf):=λf=>(dn f).bind λg d=>(B d).bind λh a=>.ok (g,.inr a.length::h) a
theorem Fa(w:DN X E e dn)(v:DG X E m B)(u:me e=aj:=by rfl):xD X E (e::m) (gN dn B):=λF S q i H Q r h=>by refine pX (iH bD gL (ka u)) (w F S q i H _ r ((Ok.bind h).imp λP d O K M n T y a I s o=>?_));refine v O K d i M _ n ((Ok.bind y).imp λW p N J L l C x j D=>?_);obtain⟨f,g⟩:=s.stay C n.fit λb z=>(o b z).2;refine x N J L l (bz.refl ..) a I (.ref a::j) f (λb z=>⟨(o b z).1,g b z⟩) ⟨.ref a,j,rfl,?_,D.app _⟩;rw[l.len,qF (aY _),CM];rfl
def nk(d:ak->R PV)(A:ak->R (PO×List cf)):ak->R (PO×List cf):=λg=>(d g).bind λx f=>(A f).bind λp a=>.ok (p.1,.inl x::p.2) a
theorem w8(y:DE X E e de)(w:xD X E m A)(u:me e=aj:=by rfl):xD X E (e::m) (nk de A):=λF S l f H Q q h=>by refine pX (iH bD gL (ka u)) (y F S l f H _ q ((Ok.bind h).imp λx d W N P g J D v o=>?_));refine w W N d f P _ g ((Ok.bind D).imp λp j T M O r I C a L n s i K=>?_);exact C T M O r (bz.refl ..) a L _ s (λb z=>⟨oQ J (i b z).1,(i b z).2⟩) ⟨v,n,rfl,o.grow I g.fit,K⟩
theorem aX.push{K:ax}{F:ag->Prop}{S:Nat->ag->Prop}{d:ak}{y:St}{H:Hp}{w:PO}{a:ag}{i:ag->Prop}(r:aX K F S d y H)(C:fO K H F w a i)(x:∀b,i b->¬F b/\¬U S b/\∃o,H b=aa o/\eE o):aX K F (λj b=>S j b\/(j=d.length/\i b)) (d++[.own w]) (y++[aa (.ref a)]) H:=by
 have lt:∀j b,S j b->j<d.length:=λj b z=>by obtain⟨⟨p,q⟩,_⟩:=r.foot j b z;exact(dR.mp q).1
 refine⟨by simp[r.len],r.ex,λj pv q=>?_,λj p q=>?_,λj b z=>?_,λj k b g f=>?_⟩
 .by_cases h:j<d.length
  .rw[jD h]at q;obtain⟨v,u,l⟩:=r.val j pv q;exact⟨v,by rw[jD (by rw[<-r.len];exact h)];exact u,l⟩
  .rw[qF ∅]at q;cases s:j-d.length with
   |zero=>rw[s]at q;simp at q
   |succ n=>rw[s]at q;simp at q
 .by_cases h:j<d.length
  .rw[jD h]at q;obtain⟨v,u,l⟩:=r.own j p q;refine⟨v,by rw[jD (by rw[<-r.len];exact h)];exact u,?_⟩;have:(λb=>S j b\/(j=d.length/\i b))=S j:=by funext b;exact propext ⟨λz=>z.elim id λz=>absurd z.1 (cY h),.inl⟩
   rw[this];exact l
  .rw[qF ∅]at q;cases s:j-d.length with
   |zero=>
    rw[s]at q;simp at q;subst q;have J:j=d.length:=∅
    subst J;refine⟨a,by rw[r.len,qF (aY _),CM];rfl,?_⟩;have:(λb=>S d.length b\/(d.length=d.length/\i b))=i:=by funext b;exact propext ⟨λz=>z.elim (λz=>absurd (lt _ _ z) (fA _)) (·.2),λz=>.inr ⟨rfl,z⟩⟩
    rw[this];exact C
   |succ n=>rw[s]at q;simp at q
 .rcases z with z|⟨rfl,z⟩
  .obtain⟨⟨p,q⟩,l⟩:=r.foot j b z;exact⟨⟨p,by rw[jD (lt j b z)];exact q⟩,l⟩
  .obtain⟨I,L,D⟩:=x b z;exact⟨⟨w,by rw[qF (aY _),CM];rfl⟩,I,D⟩
 .rcases g with g|⟨rfl,g⟩ <;> rcases f with f|⟨rfl,f⟩
  .exact r.dist j k b g f
  .exact absurd ⟨j,g⟩ (x b f).2.1
  .exact absurd ⟨k,f⟩ (x b g).2.1
  .rfl
theorem aX.pop{K:ax}{F:ag->Prop}{S:Nat->ag->Prop}{d:ak}{n:Slot}{h:St}{u:Option V}{H:Hp}(r:aX K F S (d++[n]) (h++[u]) H):aX K F (λj b=>S j b/\j<d.length) d h H:=by
 have len:d.length=h.length:=by have:=r.len;simpa using this
 refine⟨len,r.ex,λj pv q=>?_,λj p q=>?_,λj b z=>?_,λj k b l i=>r.dist j k b l.1 i.1⟩
 .have a:=(dR.mp q).1;obtain⟨v,g,f⟩:=r.val j pv (by rw[jD a];exact q);exact⟨v,by rw[jD (by rw[<-len];exact a)]at g;exact g,f⟩
 .have a:=(dR.mp q).1;obtain⟨v,g,f⟩:=r.own j p (by rw[jD a];exact q);refine⟨v,by rw[jD (by rw[<-len];exact a)]at g;exact g,?_⟩;have:(λb=>S j b/\j<d.length)=S j:=by funext b;simp[a]
  rw[this];exact f
 .obtain⟨⟨p,q⟩,f⟩:=r.foot j b z.1;exact⟨⟨p,by rw[jD z.2]at q;exact q⟩,f⟩
def AG{d:Type}:R d->R d
 |.ok s a=>.ok s a.dropLast
 |.er c a=>.er c a.dropLast
 |.no=>.no
def pJ(g:ak->R Slot)(A:ak->R (PO×List cf)):ak->R Slot:=λd=>(A d).bind λp a=>(aF (if(cI p.2).Nodup then eu (a++[.own p.1]) p.2 else ae) a).bind λf a=>AG (fg (a++[.own p.1]) p.2 (g f))
theorem DH{a:ak}{n:Nat}(h:a.length=n+1):∃l x,a=l++[x]/\l.length=n:=by
 refine⟨a.dropLast,a.getLast (by intro z;rw[z]at h;cases h),(List.dropLast_concat_getLast _).symm,by rw[CN,h];rfl⟩
theorem bz.pushed{K:ax}{F s:ag->Prop}{S i:Nat->ag->Prop}{f H p:Hp}{n:Nat}{h:ag->Prop}(g:bz (U λj b=>S j b\/(j=n/\h b)) (U i) F s H p){r:ag->Prop}{l:Nat->ag->Prop}(a:bz (U l) (U S) r F f H)(d:∀b,h b->f b=ae):bz (U l) (U λj b=>i j b/\j<n) r s f p where
 fro:=λb z=>g.fro b (a.fro b z)
 keep:=λb o q no=>g.keep b o (a.keep b o q no) λ⟨j,z⟩=>by
  rcases z with z|⟨_,z⟩
  .rcases a.onew b ⟨j,z⟩with w|w
   .exact no w
   .rw[w]at q;cases q
  .rw[d b z]at q;cases q
 there:=λb o q=>let ⟨o',q'⟩:=a.there b o q;g.there b o' q'
 fnew:=λb z=>by
  rcases g.fnew b z with w|w|⟨j,w|⟨_,w⟩⟩
  .exact a.fnew b w
  .exact .inr (.inl (oQ a w))
  .exact .inr ((a.onew b ⟨j,w⟩).symm)
  .exact .inr (.inl (d b w))
 onew:=λb ⟨j,z,_⟩=>by
  rcases g.onew b ⟨j,z⟩with⟨k,w|⟨_,w⟩⟩|w
  .exact a.onew b ⟨k,w⟩
  .exact .inr (d b w)
  .exact .inr (oQ a w)
variable{D:gu}{x:Str}{k:Nat}{C:List Str}{g:ak->R Slot}{p:Pos}
theorem Ha(c:cU D X.prog X.w X.K X.mg X.base x k C (bM X.K g))(hr:Room k X.A)(hx:sv D X E)(ha:xD X E (e::m) A)(hg:Gl X x:=by rfl)(hd:(x==("__debug__":Str))=aj:=by decide) (h1:aM (e::m) X.env=(aj,aK e X.env)::aM m X.env:=by rfl) (h2:(cZ t (aM m X.env)).any (·.1)=aj:=by rfl):DR X E (.Call (.Name x p) (e::m) [] t) (pJ g A):=λF S ε T H Q rl h=>by
 obtain⟨f,fd,hm,Fn,hb,hk⟩:=c.ex;refine bU (EW Fn hr hg hm hk hb .nil hx gL hd h1 h2) (ha F S ε T H _ rl ?_);unfold pJ at h;cases ed:A ε with
 |no=>rw[ed]at h;exact h.elim
 |er cv d=>rw[ed]at h;exact h
 |ok pa d=>
  obtain⟨O,q⟩:=pa;rw[ed]at h;simp only[R.bind_ok]at h;intro F1 S1 H1 r1 g1 a Sa vs ow Y P;dsimp only at h P ow;have N:=r1.push ow λb z=>(Y b z).2;by_cases J:(cI q).Nodup
  .rw[if_pos J]at h;cases m:eu (d++[.own O]) q with
   |none=>rw[m]at h;exact h.elim
   |some ss=>
    rw[m]at h;simp only[b_,R.bind_ok]at h;rw[fW];refine⟨F1,l_ q _,ss,N.cal P m J,?_⟩;have len:∀n,(fJ (d++[.own O]) q n).length=d.length+1:=λn=>by rw[xm];simp
    cases eg:g ss with
    |no=>rw[eg]at h;exact h.elim
    |er cv n=>
     rw[eg]at h;intro y F' S' H' W g';unfold fg at h;dsimp only at h;by_cases u:fz q n=ah
     .rw[if_pos u]at h;obtain⟨S2,I,g2,_⟩:=N.called P m J W g' (λ_ z=>z) (nj u);obtain⟨l,sl,M,Z⟩:=DH (len n);rw[M]at I;have h:Ok X.K E T F S H (R.er cv (fJ (d++[.own O]) q n).dropLast:R Slot) _:=h;rw[M,List.dropLast_concat]at h;have L:=bz.pushed (K:=X.K) g2 g1 λb z=>(Y b z).1;rw[<-Z]at L;exact h y F' _ H' I.pop L
     .rw[if_neg u]at h;exact h.elim
    |ok s n=>
     rw[eg]at h;intro v F' S' H' Sr W g' rv r fr;unfold fg at h;dsimp only at h;by_cases u:fz q n=ah
     .rw[if_pos u]at h;obtain⟨S2,I,g2,u2⟩:=N.called P m J W g' (λ_ z=>.inl z) (nj u);obtain⟨l,sl,M,Z⟩:=DH (len n);rw[M]at I;have h:Ok X.K E T F S H (R.ok s (fJ (d++[.own O]) q n).dropLast:R Slot) _:=h;rw[M,List.dropLast_concat]at h;have L:=bz.pushed (K:=X.K) g2 g1 λb z=>(Y b z).1;rw[<-Z]at L;refine h F' _ H' I.pop L v Sr rv λb z=>⟨oQ g1 (fr b z),(r b z).1,λ⟨j,w,_⟩=>?_,(r b z).2.2⟩
      rcases u2 b ⟨j,w⟩with w|⟨i,w⟩
      .exact(r b z).2.1 w
      .obtain⟨_,_,o,y1,_⟩:=N.foot i b w;rw[fr b z]at y1;cases y1
     .rw[if_neg u]at h;exact h.elim
  .rw[if_neg J]at h;exact h.elim
end
section
variable{X:Cx}{E:XK}{j:List Nat}{e b c o:az}{de n m d:ak->R PV}{l:ak->R (List PV)}{i p q g:Pos}
def Qg(X:Cx)(r:List V->Hp->VK->Prop):List V->Hp->VK->Prop:=λxs H Q=>∃(p:ag) (f:List Tx),xs=[.ref p]/\cE X.K H p (dG f)/\(b0 f).length<4000/\∀a,H a=ae->r [.ref a] (upd H a (lm X a (b0 f))) Q
def MV(K:ax)(r:V->List V->Hp->VK->Prop)(to:TE)(t:TA):TE:=λa H Q=>to a H λx f=>(∃p xs,x=.ref p/\f p=aa (.tup xs))/\t a f λxs h=>r x xs h Q
theorem Kg{u:Str}{A:String}{r:V->List V->Hp->VK->Prop}{to:TE}{t:TA}{w f:Pos}{es:List az}(y:PySem.Slot "tuple" u A)(mJ:typeOf (.builtin A)=pure (.type "method_descriptor"))(hm:sX X A r)(ho:PE X o to)(ha:PA X (e::es) t)(iX:j0 o u X.env (aK o X.env)=aK o X.env:=by rfl)(N:((cZ f (aM (e::es) X.env)).all (λx=>!x.1)&&(qK f (qL [] X.env)).all (λx=>x.1.isSome)&&decide ((e::es).length+([]:List jE).length+(if([]:List jE).isEmpty then 0 else 1)<30))=ah:=by rfl)(iY:(w.endLine == f.line)=ah:=by rfl) (hs:aM (e::es) X.env=(aj,aK e X.env)::aM es X.env:=by rfl) (L:(cZ f (aM es X.env)).any (·.1)=aj:=by rfl):PE X (.Call (.Attribute o u w) (e::es) [] f) (MV X.K r to t):=by
 intro C s B H Q I h;refine wpAny_Call_method_late iX N iY rfl (aL (ho C s B H _ I h) λv D h'=>?_);obtain⟨x,J,G,S,⟨p,xs,rfl,hp⟩,W⟩:=h';cases S;obtain⟨_,its,_,⟨Y,e1,e2,_⟩,Z,e3,e4⟩:=(show cq X.prog X.w J D.heap p (.tup xs)from G.hok p _ hp)
 refine⟨"tuple",A,PySem.F.plainAttrs_tuple,y,mJ,⟨Y,e1,e2⟩,λa z=>?_,?_⟩
 .cases z;exact⟨Z,e3,e4⟩
 have F:=ha f C D B J _ G W;rw[hs]at F ⊢;refine Cq (by show(aj||(cZ f (aM es X.env)).any (·.1))=aj;rw[L] <;> rfl) (Cr ?_);exact aL F λM O h2=>by obtain⟨K,H2,I2,P,T⟩:=h2;exact hm C O B H2 (.ref p) K (.ref p) M Q I2 rfl P T
def Ai(f:List PV->PV->Option PV)(d de:ak->R PV):ak->R PV:=λr=>(d r).bind λx h=>match x with
 |.tup xs=>(de h).bind λk a=>aF (f xs k) a
 |_=>.no
end
section
variable{X:Cx}
def GR:List (aD×PV)->Option (List Tx)
 |[]=>aa []
 | (.inr k,_)::r=>(GR r).map (k.cps.toList::·)
 |_=>ae
def M_(b:List (aD×PV)):Option PO:=(GR b).bind λa=>if a.length<64/\(∀x∈a,x.length<=b8)then aa (.lst (ao (aR a)))else ae
def SY(i:Nat):ak->R PO:=λa=>(aF (dm a i) a).bind λb a=>aF (M_ b) a
end
end Pu
namespace L2
def xN:Bool->Keyed->Array Keyed->Nat->Nat->Nat->StateT bH Sem (Option Nat):=sortPriv% PySem.Builtin.gallop
def GX:Array Keyed->Array Keyed->StateT bH Sem (Array Keyed):=sortPriv% PySem.Builtin.mergeLo
def GZ:Array Keyed->Array Keyed->StateT bH Sem (Array Keyed):=sortPriv% PySem.Builtin.mergeHi
def kO(a:KeyKind)(p:Keyed):a.α:=(a.keyOf p.1).getD a.dflt
def gZ(b:KeyKind)(p:Keyed):Prop:=∃a,b.keyOf p.1=aa a
theorem gZ.k{κ:KeyKind}{p:Keyed}(h:gZ κ p):κ.keyOf p.1=aa (kO κ p):=by obtain⟨a,e⟩:=h;unfold kO;rw[e];rfl
def jB(κ:KeyKind)(kz:jr)(c:aQ)(w:aE)(A:aT)(s:am):Prop :=
 ∀(E:ai->am->Prop) (x y:ai) (a b:κ.α) {Q:Bool->am->Prop},κ.keyOf x=aa a->κ.keyOf y=aa b->Q (κ.blt a b) s->ar (aw c w) A (keyLt' kz x y) Q E s
theorem OneLt.ok{κ:KeyKind}(f:κ.OneLt){prog:aQ}{w:aE}{A:aT}{s:am}:jB κ oneType' prog w A s:=λE x y a b _ d c h=>by rw[keyLt'_oneType];exact f prog w A E s x y a b d c h
structure SB(kz:jr)(st:bH):Prop where
 kind:kindOf st=kz
 failed:failedOf st=ae
section
variable{a:aQ}{w:aE}{A:aT}{E:ai->am->Prop}{s:am}{d:KeyKind}{f:jr}
theorem vq(j:jB d f a w A s){b:bH}{x y:Keyed}{Q:Option Bool->bH->Prop}(i:SB f b)(g:gZ d x)(c:gZ d y)(h:Q (aa (d.blt (kO d x) (kO d y))) b):wpS (aw a w) A E s (lt' x y) Q b:=by rw[lt'_eq];refine aH (lM ?_);rw[i.kind];exact aH (tO (wpAny_attempt (j _ x.1 y.1 _ _ g.k c.k ⟨rfl,aW h⟩)))
theorem fi{c:bH}{b:Array Keyed}{i:Nat}(g:i<b.size){Q:Keyed->bH->Prop}(h:Q b[i] c):wpS (aw a w) A E s (elem' b i) Q c:=by rw[elem'_eq,getElem?_pos b i g];exact aW h
def Dv(c:Bool)(g:Keyed)(j:Array Keyed)(h i:Nat):StateT bH Sem (Option Bool) :=elem' j (h+i) >>= λx=>if c=ah then lt' x g else lt' g x >>= λb=>pure (b.map (!·))
def l5(d:KeyKind)(b:Bool)(c x:Keyed):Bool:=if b=ah then d.blt (kO d x) (kO d c)else !d.blt (kO d c) (kO d x)
theorem Nm(p:jB d f a w A s){l:bH}{c:Bool}{j:Keyed}{g:Array Keyed}{b i:Nat}{Q:Option Bool->bH->Prop}(o:SB f l)(n:gZ d j)(q:b+i<g.size)(m:gZ d g[b+i])(h:Q (aa (l5 d c j g[b+i])) l):wpS (aw a w) A E s (Dv c j g b i) Q l:=by
 refine aH (fi q ?_);cases c
 .rw[if_neg (by simp)];exact aH (vq p o n m (aW h))
 .rw[if_pos rfl];exact vq p o m n h
theorem G5(hO:jB d f a w A s){J:bH}(hk:SB f J){F:Bool}{K:Keyed}{y:Array Keyed}{t n b:Nat}{Q:Option Nat->bH->Prop}(fD:gZ d K)(hn:t+n<=y.size)(hA:∀i (g:i<y.size),gZ d y[i]) (B:Nat->Bool) (hB:∀i (g:i<n),B i=l5 d F K (y[t+i]'∅))(mono:∀i j,i<=j->j<n->B j=ah->B i=ah) (hh:b<n)(h:∀r,r<=n->(∀i,i<r->B i=ah)->(∀i,r<=i->i<n->B i=aj)->Q (aa r) J):wpS (aw a w) A E s (xN F K y t n b) Q J:=by
 have N:∀{i:Nat}{Q:Option Bool->bH->Prop},i<n->Q (aa (B i)) J->wpS (aw a w) A E s (Dv F K y t i) Q J:=λ{i Q} g q=>Nm hO hk fD ∅ (hA _ _) (by rw[<-hB i g];exact q);have dn:∀{i j:Nat},i<=j->j<n->B i=aj->B j=aj:=λ{i j} bI hj hf=>by
  cases e:B j with
  |false=>rfl
  |true=>rw[mono i j bI hj e]at hf;cases hf
 unfold xN;refine aH (N hh ?_);cases hr:B b with
 |true=>
  dsimp only;rw[if_pos rfl];refine aH (gU (gW (I:=λx c m=>m=J/\∃l o,c=(ae,l,o)/\l<o/\x<o/\l<n-b/\B (b+l)=ah) (Q:=λc m=>m=J/\∃l o,c=(ae,l,o)/\l<o/\l<n-b/\B (b+l)=ah/\(n-b<=o\/(o<n-b/\B (b+o)=aj))) ?_ ?_ ?_) ?_)
  .rintro x c m _ O ⟨rfl,l,o,rfl,H,S,G,p⟩;dsimp only;by_cases u:o ≥ n-b
   .rw[if_pos u];exact aW ⟨rfl,l,o,rfl,H,G,p,.inl u⟩
   .rw[if_neg u];refine aH (N ∅ ?_);cases e:B (b+o)with
    |true=>exact aW ⟨rfl,o,2*o+1,rfl,∅,∅,∅,e⟩
    |false=>exact aW ⟨rfl,l,o,rfl,H,G,p,.inr ⟨∅,e⟩⟩
  .rintro c m ⟨rfl,l,o,rfl,H,S,G,p⟩;exact⟨rfl,l,o,rfl,H,G,p,.inl ∅⟩
  .exact⟨rfl,0,1,rfl,∅,∅,∅,hr⟩
  rintro c m ⟨rfl,l,o,rfl,H,G,p,L⟩;dsimp only;have Y:b+l+1<=b+min o (n-b):=∅
  have X:b+min o (n-b)<=n:=∅
  have W:∀i,i<b+l+1->B i=ah:=λi g=>mono i (b+l) ∅ ∅ p;have T:∀i,b+min o (n-b)<=i->i<n->B i=aj:=by
   intro i g M;rcases L with L|⟨L,P⟩
   .lia
   .exact dn (i:=b+o) ∅ M P
  clear L;generalize b+l+1=lo at *;generalize b+min o (n-b)=g at *;refine aH (gU (gW (I:=λx c v=>v=m/\∃l r,c=(ae,l,r)/\l<=r/\r<=n/\r-l<=n-x/\(∀i,i<l->B i=ah)/\(∀i,r<=i->i<n->B i=aj)) (Q:=λc v=>v=m/\∃l r,c=(ae,l,r)/\r<=n/\(∀i,i<r->B i=ah)/\(∀i,r<=i->i<n->B i=aj)) ?_ ?_ ?_) ?_)
  .rintro x c v _ O ⟨rfl,l,r,rfl,a1,D,Z,C,z⟩;dsimp only;by_cases u:l ≥ r
   .rw[if_pos u];have:l=r:=∅
    subst this;exact aW ⟨rfl,l,l,rfl,D,C,z⟩
   .rw[if_neg u];refine aH (N ∅ ?_);cases e:B (l+(r-l) / 2)with
    |true=>exact aW ⟨rfl,_,r,rfl,∅,D,∅,λi g=>mono _ _ ∅ ∅ e,z⟩
    |false=>exact aW ⟨rfl,l,_,rfl,∅,∅,∅,C,λi g M=>dn (i:=l+(r-l) / 2) g M e⟩
  .rintro c v ⟨rfl,l,r,rfl,a1,D,Z,C,z⟩;have:l=r:=∅
   subst this;exact⟨rfl,l,l,rfl,D,C,z⟩
  .exact⟨rfl,lo,g,rfl,Y,X,∅,W,T⟩
  .rintro c v ⟨rfl,l,r,rfl,D,C,z⟩;exact aW (h r D C z)
 |false=>
  dsimp only;rw[if_neg (by simp)];refine aH (gU (gW (I:=λx c m=>m=J/\∃l o,c=(ae,l,o)/\l<o/\x<o/\l<=b/\B (b-l)=aj) (Q:=λc m=>m=J/\∃l o,c=(ae,l,o)/\l<o/\l<=b/\B (b-l)=aj/\(b+1<=o\/(o<=b/\B (b-o)=ah))) ?_ ?_ ?_) ?_)
  .rintro x c m _ O ⟨rfl,l,o,rfl,H,S,G,p⟩;dsimp only;by_cases u:o ≥ b+1
   .rw[if_pos u];exact aW ⟨rfl,l,o,rfl,H,G,p,.inl u⟩
   .rw[if_neg u];refine aH (N ∅ ?_);cases e:B (b-o)with
    |false=>exact aW ⟨rfl,o,2*o+1,rfl,∅,∅,∅,e⟩
    |true=>exact aW ⟨rfl,l,o,rfl,H,G,p,.inr ⟨∅,e⟩⟩
  .rintro c m ⟨rfl,l,o,rfl,H,S,G,p⟩;exact⟨rfl,l,o,rfl,H,G,p,.inl ∅⟩
  .exact⟨rfl,0,1,rfl,∅,∅,∅,hr⟩
  rintro c m ⟨rfl,l,o,rfl,H,G,p,L⟩;dsimp only;have Y:b+1-min o (b+1)<=b-l:=∅
  have X:b-l<=n:=∅
  have W:∀i,i<b+1-min o (b+1)->B i=ah:=by
   intro i g;rcases L with L|⟨L,P⟩
   .lia
   .exact mono i (b-o) ∅ ∅ P
  have T:∀i,b-l<=i->i<n->B i=aj:=λi g M=>dn (i:=b-l) ∅ M p;clear L p;generalize b+1-min o (b+1)=lo at *;generalize b-l=g at *;refine aH (gU (gW (I:=λx c v=>v=m/\∃l r,c=(ae,l,r)/\l<=r/\r<=n/\r-l<=n-x/\(∀i,i<l->B i=ah)/\(∀i,r<=i->i<n->B i=aj)) (Q:=λc v=>v=m/\∃l r,c=(ae,l,r)/\r<=n/\(∀i,i<r->B i=ah)/\(∀i,r<=i->i<n->B i=aj)) ?_ ?_ ?_) ?_)
  .rintro x c v _ O ⟨rfl,l,r,rfl,a1,D,Z,C,z⟩;dsimp only;by_cases u:l ≥ r
   .rw[if_pos u];have:l=r:=∅
    subst this;exact aW ⟨rfl,l,l,rfl,D,C,z⟩
   .rw[if_neg u];refine aH (N ∅ ?_);cases e:B (l+(r-l) / 2)with
    |true=>exact aW ⟨rfl,_,r,rfl,∅,D,∅,λi g=>mono _ _ ∅ ∅ e,z⟩
    |false=>exact aW ⟨rfl,l,_,rfl,∅,∅,∅,C,λi g M=>dn (i:=l+(r-l) / 2) g M e⟩
  .rintro c v ⟨rfl,l,r,rfl,a1,D,Z,C,z⟩;have:l=r:=∅
   subst this;exact⟨rfl,l,l,rfl,D,C,z⟩
  .exact⟨rfl,lo,g,rfl,Y,X,∅,W,T⟩
  .rintro c v ⟨rfl,l,r,rfl,D,C,z⟩;exact aW (h r D C z)
end
section
variable{κ:KeyKind}{kz:jr}
def bN(κ:KeyKind)(x y:Keyed):Prop:=κ.kle (kO κ x) (kO κ y)
theorem bN.trans{x y z:Keyed}(b:bN κ x y)(a:bN κ y z):bN κ x z:=vR b a
structure MS(κ:KeyKind)(T o ra rb:List Keyed):Prop where
 perm:(o++(ra++rb)).Perm T
 so:o.Pairwise (bN κ)
 sa:ra.Pairwise (bN κ)
 sb:rb.Pairwise (bN κ)
 oa:∀x∈o,∀y∈ra,bN κ x y
 ob:∀x∈o,∀y∈rb,bN κ x y
theorem MS.stepA{T o x f d:List Keyed}(h:MS κ T o (x++f) d)(i:∀u∈x,∀v∈d,bN κ u v):MS κ T (o++x) f d:=by
 obtain⟨n,m,c,l,g,j⟩:=h;rw[I_]at c;refine⟨by simpa[eG]using n,?_,c.2.1,l,?_,?_⟩
 .rw[I_];exact⟨m,c.1,λu a v b=>g u a v (qB _ b)⟩
 .intro u a v b;rcases jm.mp a with a|a
  .exact g u a v (iR _ b)
  .exact c.2.2 u a v b
 .intro u a v b;rcases jm.mp a with a|a
  .exact j u a v b
  .exact i u a v b
theorem MS.swap{T o b a:List Keyed}(h:MS κ T o b a):MS κ T o a b :=⟨(zj _ TU).trans h.perm,h.so,h.sb,h.sa,h.ob,h.oa⟩
theorem MS.stepB{T o x a b:List Keyed}(h:MS κ T o a (x++b))(c:∀u∈x,∀v∈a,bN κ u v):MS κ T (o++x) a b :=(h.swap.stepA c).swap
def gP(κ:KeyKind)(T:List Keyed)(r:Array Keyed):Prop:=r.toList.Perm T/\r.toList.Pairwise (bN κ)
theorem MS.endA{T o a:List Keyed}{r:Array Keyed}(h:MS κ T o a [])(e:r.toList=o++a):gP κ T r:=by obtain⟨f,d,c,i,b,g⟩:=h;refine⟨by rw[e];simpa using f,?_⟩;rw[e,I_];exact⟨d,c,b⟩
theorem MS.last{T o b a:List Keyed}{r:Array Keyed}(h:MS κ T o b a)(c:∀u∈a,∀v∈b,bN κ u v)(e:r.toList=o++(a++b)):gP κ T r:=by
 have d:MS κ T o b (a++[]):=by simpa using h
 exact(d.stepB c).endA (by rw[e];simp)
theorem lF(a:Array Keyed)(i j:Nat):(a.extract i j).toList=(a.toList.drop i).take (j-i):=by simp[Array.toList_extract,List.extract_eq_take_drop]
theorem su(a:Array Keyed)(i:Nat):(a.extract i a.size).toList=a.toList.drop i:=by rw[lF,ip];simp
theorem FV{a:Array Keyed}{i:Nat}(h:i<a.size):a.toList.drop i=a[i]::a.toList.drop (i+1):=by rw[zr (by simpa using h)];simp
theorem HS(a:Array Keyed)(i k:Nat):a.toList.drop i=(a.extract i (i+k)).toList++a.toList.drop (i+k):=by rw[lF,show i+k-i=k by lia,<-List.drop_drop,my]
theorem rE{a:Array Keyed}{i:Nat}{x:Keyed}(h:x∈a.toList.drop i):∃j,∃d:j<a.size,i<=j/\a[j]=x:=by
 obtain⟨k,c,e⟩:=zu h;rw[CO]at e;have b:i+k<a.size:=by simp at c;lia
 exact⟨i+k,b,∅,by simpa using e⟩
theorem FR{a:Array Keyed}{i k:Nat}{x:Keyed}(h:x∈(a.extract i (i+k)).toList):∃j,∃c:j<a.size,i<=j/\j<i+k/\a[j]=x:=by
 rw[lF]at h;obtain⟨m,b,e⟩:=zu h;rw[CP,CO]at e;refine⟨i+m,?_,∅,?_,by simpa using e⟩
 all_goals simp at b;lia
def uO(κ:KeyKind)(a:Array Keyed):Prop:=∀i j (b:j<a.size) (c:i<=j),bN κ (a[i]'∅) a[j]
theorem uO.pw{a:Array Keyed}(h:uO κ a):a.toList.Pairwise (bN κ):=by rw[List.pairwise_iff_getElem];intro i j c b d;have:=h i j (by simpa using b) ∅;simpa using this
structure f8(κ:KeyKind)(a b c:Array Keyed)(d f:Nat):Prop where
 ms:MS κ (a.toList++b.toList) c.toList (a.toList.drop d) (b.toList.drop f)
 la:d<=a.size
 lb:f<=b.size
variable{a b c:Array Keyed}{d f:Nat}
theorem f8.pushA(h:f8 κ a b c d f)(i:d<a.size)(l:∀j (g:j<b.size),f<=j->bN κ a[d] b[j]):f8 κ a b (c.push a[d]) (d+1) f:=by refine⟨?_,i,h.lb⟩;rw[vN];refine MS.stepA (by rw[CQ,<-FV i];exact h.ms) λu n v m=>?_;obtain⟨j,g,o,rfl⟩:=rE m;rw[fe.mp n];exact l j g o
theorem f8.pushB(h:f8 κ a b c d f)(i:f<b.size)(l:∀j (g:j<a.size),d<=j->bN κ b[f] a[j]):f8 κ a b (c.push b[f]) d (f+1):=by refine⟨?_,h.la,i⟩;rw[vN];refine MS.stepB (by rw[CQ,<-FV i];exact h.ms) λu n v m=>?_;obtain⟨j,g,o,rfl⟩:=rE m;rw[fe.mp n];exact l j g o
theorem f8.extA{k:Nat}(h:f8 κ a b c d f)(p:d+k<=a.size)(m:∀i (l:i<a.size),d<=i->i<d+k->∀j (g:j<b.size),f<=j->bN κ a[i] b[j]):f8 κ a b (c++a.extract d (d+k)) (d+k) f:=by refine⟨?_,p,h.lb⟩;rw[iV];refine MS.stepA (by rw[<-HS];exact h.ms) λu o v n=>?_;obtain⟨j,g,s,rfl⟩:=rE n;obtain⟨i,l,r,q,rfl⟩:=FR o;exact m i l r q j g s
theorem f8.extB{k:Nat}(h:f8 κ a b c d f)(p:f+k<=b.size)(m:∀i (l:i<b.size),f<=i->i<f+k->∀j (g:j<a.size),d<=j->bN κ b[i] a[j]):f8 κ a b (c++b.extract f (f+k)) d (f+k):=by refine⟨?_,h.la,p⟩;rw[iV];refine MS.stepB (by rw[<-HS];exact h.ms) λu o v n=>?_;obtain⟨j,g,s,rfl⟩:=rE n;obtain⟨i,l,r,q,rfl⟩:=FR o;exact m i l r q j g s
theorem f8.doneA(h:f8 κ a b c d f)(e:f=b.size):gP κ (a.toList++b.toList) (c++a.extract d a.size++b.extract f b.size):=by have:=h.ms;rw[show b.toList.drop f=[] by rw[CS];simp[e]]at this;refine this.endA ?_;rw[iV,iV,su,su,show b.toList.drop f=[] by rw[CS];simp[e],fW]
theorem f8.doneB(h:f8 κ a b c d f)(e:d=a.size):gP κ (a.toList++b.toList) (c++a.extract d a.size++b.extract f b.size):=by have:=h.ms;rw[show a.toList.drop d=[] by rw[CS];simp[e]]at this;refine this.swap.endA ?_;rw[iV,iV,su,su,show a.toList.drop d=[] by rw[CS];simp[e],fW]
theorem f8.last(h:f8 κ a b c d f)(e:d+1=a.size)(n:∀j (g:j<b.size),bN κ b[j] (a[d]'∅)):gP κ (a.toList++b.toList) (c++b.extract f b.size++a.extract d a.size):=by
 refine h.ms.last (λu m v l=>?_) (by rw[iV,iV,su,su,eG]);obtain⟨j,g,q,rfl⟩:=rE m;obtain⟨i,o,p,rfl⟩:=rE l;have:i=d:=∅
 subst this;exact n j g
end
section
variable{b:aQ}{w:aE}{A:aT}{E:ai->am->Prop}{s:am}{a:KeyKind}{c:jr}
theorem BA(x:jB a c b w A s){l:bH}(t:SB c l){f:Keyed}{d:Array Keyed}{base n hint:Nat}{Q:Option Nat->bH->Prop}(C:gZ a f)(q:base+n<=d.size)(y:∀i (g:i<d.size),gZ a d[i]) (o:∀i j (F:i<=j) (m:j<base+n),base<=i->bN a (d[i]'∅) (d[j]'∅)) (u:hint<n)(h:∀r,r<=n->(∀i (g:i<d.size),base<=i->i<base+r->bN a d[i] f)->(∀i (g:i<d.size),base+r<=i->i<base+n->a.klt (kO a f) (kO a d[i]))->Q (aa r) l):wpS (aw b w) A E s (xN aj f d base n hint) Q l:=by
 refine G5 x t C q y (λi=>if g:i<n then l5 a aj f (d[base+i]'∅)else aj) (λi g=>by rw[dif_pos g]) ?_ u ?_
 .intro i j F m e;rw[dif_pos m]at e;rw[dif_pos ∅];simp only[l5,mz,if_false,IY]at e ⊢;exact vR (o (base+i) (base+j) ∅ ∅ ∅) e
 .intro r p B z;refine h r p (λi g v D=>?_) (λi g v D=>?_)
  .have:=B (i-base) ∅;rw[dif_pos ∅]at this;simp only[l5,mz,if_false,IY,show base+(i-base)=i by lia]at this;exact this
  .have:=z (i-base) ∅ ∅;rw[dif_pos ∅]at this;simp only[l5,mz,if_false,Bool.not_eq_false',show base+(i-base)=i by lia]at this;exact this
theorem A4(x:jB a c b w A s){l:bH}(t:SB c l){f:Keyed}{d:Array Keyed}{base n hint:Nat}{Q:Option Nat->bH->Prop}(C:gZ a f)(q:base+n<=d.size)(y:∀i (g:i<d.size),gZ a d[i]) (o:∀i j (F:i<=j) (m:j<base+n),base<=i->bN a (d[i]'∅) (d[j]'∅)) (u:hint<n)(h:∀r,r<=n->(∀i (g:i<d.size),base<=i->i<base+r->a.klt (kO a d[i]) (kO a f))->(∀i (g:i<d.size),base+r<=i->i<base+n->bN a f d[i])->Q (aa r) l):wpS (aw b w) A E s (xN ah f d base n hint) Q l:=by
 refine G5 x t C q y (λi=>if g:i<n then l5 a ah f (d[base+i]'∅)else aj) (λi g=>by rw[dif_pos g]) ?_ u ?_
 .intro i j F m e;rw[dif_pos m]at e;rw[dif_pos ∅];simp only[l5,if_true]at e ⊢;exact KeyOrd.klt_of_kle_of_klt (o (base+i) (base+j) ∅ ∅ ∅) e
 .intro r p B z;refine h r p (λi g v D=>?_) (λi g v D=>?_)
  .have:=B (i-base) ∅;rw[dif_pos ∅]at this;simp only[l5,if_true,show base+(i-base)=i by lia]at this;exact this
  .have:=z (i-base) ∅ ∅;rw[dif_pos ∅]at this;simp only[l5,if_true,show base+(i-base)=i by lia]at this;exact this
end
structure gM(st aA:bH):Prop where
 kind:kindOf aA=kindOf st
 arr:arrOf aA=arrOf st
 pend:br aA=br st
 failed:failedOf aA=failedOf st
theorem gM.rfl{st:bH}:gM st st:=⟨_root_.rfl,_root_.rfl,_root_.rfl,_root_.rfl⟩
theorem gM.sb{b:jr}{a c:bH}(h:gM a c)(k:SB b a):SB b c:=⟨h.kind.trans k.kind,h.failed.trans k.failed⟩
section
variable{prog:aQ}{w:aE}{A:aT}{E:ai->am->Prop}{s:am}{κ:KeyKind}{kz:jr}
theorem cT{a d:Type}{M:Model}{c:Prop}[Decidable c]{t e:StateT a Sem d}{Q:d->a->Prop}{b:a}(g:c->wpS M A E s t Q b)(f:¬c->wpS M A E s e Q b):wpS M A E s (if c then t else e) Q b:=by
 split
 .exact g ‹_›
 .exact f ‹_›
def O5:Nat->StateT bH Sem Unit:=sortPriv% PySem.Builtin.setMinGallop
theorem gM.trans{a b c:bH}(f:gM a b)(d:gM b c):gM a c:=⟨d.kind.trans f.kind,d.arr.trans f.arr,d.pend.trans f.pend,d.failed.trans f.failed⟩
theorem Ay{a b:bH}{g:Nat}{Q:Unit->bH->Prop}(d:gM b a)(h:∀c,gM b c->Q () c):wpS (aw prog w) A E s (O5 g) Q a :=n_ (h _ (d.trans ⟨rfl,rfl,rfl,rfl⟩))
theorem QC(hO:jB κ kz prog w A s){K:bH}(hk:SB kz K){a b:Array Keyed}{Q:Array Keyed->bH->Prop}(ha:0<a.size)(hb:0<b.size)(hA:∀i (N:i<a.size),gZ κ a[i]) (hB:∀i (N:i<b.size),gZ κ b[i]) (Z:uO κ a) (sb:uO κ b)(h0:bN κ b[0] a[0]) (hl:∀j (p:j<b.size),bN κ b[j] a[a.size-1])(h:∀r D,gM K D->gP κ (a.toList++b.toList) r->Q r D):wpS (aw prog w) A E s (GX a b) Q K:=by
 have eX:∀{i:Nat} (N:i<a.size),i+1=a.size->∀j (p:j<b.size),bN κ b[j] a[i]:=λ{i} N e j p=>by
  have:i=a.size-1:=∅
  subst this;exact hl j p
 have I0:f8 κ a b #[b[0]] 0 1:=by
  have v:f8 κ a b #[] 0 0:=⟨⟨by simp,by simp,by simpa using Z.pw,by simpa using sb.pw,by simp,by simp⟩,∅,∅⟩
  exact v.pushB hb λj p _=>h0.trans (Z 0 j p ∅)
 unfold GX;refine aH (tO (nZ ⟨rfl,?_⟩));refine aH (fi hb ?_);by_cases e1:1=b.size
 .rw[if_pos (by simp[<-e1])];exact aW (h _ _ .rfl (I0.doneA e1))
 rw[if_neg (by simpa using e1)];by_cases e2:0+1=a.size
 .rw[if_pos (by simp[<-e2])];exact aW (h _ _ .rfl (I0.last e2 (eX ∅ ∅)))
 rw[if_neg (by simpa using e2)];refine aH (lM ?_);refine aH (gU (gW (I:=λx c D=>gM K D/\∃d f l H,c=(ae,d,f,l,H)/\f8 κ a b d f l/\f+1<a.size/\l<b.size/\x+1<=f+l) (Q:=λc D=>gM K D/\∃r,c.1=aa r/\gP κ (a.toList++b.toList) r) ?_ ?_ ?_) ?_);rotate_left
 .rintro c D ⟨_,d,f,l,H,rfl,u,v,q,L⟩;lia
 .exact⟨.rfl,_,0,1,_,rfl,I0,∅,∅,∅⟩
 .rintro⟨c1,c⟩ D ⟨t,r,rfl,W⟩;exact aW (h r D t W)
 rintro x c D _ hx ⟨t,d,f,l,H,rfl,u,v,q,L⟩;refine aH (gU (gW (I:=λy c z=>z=D/\∃d f l C B,c=(ae,d,f,l,C,B)/\f8 κ a b d f l/\f+1<a.size/\l<b.size/\x+1+y<=f+l) (Q:=λc z=>z=D/\((∃r X,c=(aa r,X)/\gP κ (a.toList++b.toList) r)\/∃d f l C B,c=(ae,d,f,l,C,B)/\f8 κ a b d f l/\f+1<a.size/\l<b.size/\x+1+1<=f+l)) ?_ ?_ ?_) ?_)
 .rintro y c z _ hy ⟨rfl,d,f,l,C,B,rfl,u,v,q,L⟩;dsimp only;refine aH (fi q (aH (fi ∅ (aH (vq hO (t.sb hk) (hB l q) (hA f ∅) ?_)))));cases e:κ.blt (kO κ b[l]) (kO κ (a[f]'∅))with
  |true=>
   dsimp only;rw[if_pos rfl];refine aH (fi q ?_);have M:=u.pushB q λj p fZ=>bN.trans (lN e) (Z f j p fZ);by_cases G:l+1=b.size
   .rw[if_pos (by simp[G])];exact aW ⟨rfl,.inl ⟨_,_,rfl,M.doneA G⟩⟩
   rw[if_neg (by simpa using G)];split
   .exact aW ⟨rfl,.inr ⟨_,_,_,_,_,rfl,M,∅,∅,∅⟩⟩
   .exact aW ⟨rfl,_,_,_,_,_,rfl,M,∅,∅,∅⟩
  |false=>
   dsimp only;rw[if_neg (by simp)];refine aH (fi ∅ ?_);have M:=u.pushA ∅ λj p fZ=>bN.trans (show bN κ (a[f]'∅) b[l] from e) (sb l j p fZ);by_cases G:f+1+1=a.size
   .rw[if_pos (by simp[G])];exact aW ⟨rfl,.inl ⟨_,_,rfl,M.last G (eX ∅ ∅)⟩⟩
   rw[if_neg (by simpa using G)];split
   .exact aW ⟨rfl,.inr ⟨_,_,_,_,_,rfl,M,∅,∅,∅⟩⟩
   .exact aW ⟨rfl,_,_,_,_,_,rfl,M,∅,∅,∅⟩
 .rintro c z ⟨rfl,d,f,l,C,B,rfl,u,v,q,L⟩;lia
 .exact⟨rfl,_,_,_,_,_,rfl,u,v,q,∅⟩
 rintro c z ⟨rfl,⟨r,X,rfl,W⟩|⟨d,f,l,C,B,rfl,u,v,q,L⟩⟩
 .exact aW ⟨t,r,rfl,W⟩
 refine aH (tO (nZ ⟨rfl,?_⟩));refine aH (gU (gW (I:=λy c z=>gM K z/\∃d f l H C B,c=(ae,d,f,l,H,C,B)/\f8 κ a b d f l/\f+1<a.size/\l<b.size/\x+2+y<=f+l) (Q:=λc z=>gM K z/\((∃r X,c=(aa r,X)/\gP κ (a.toList++b.toList) r)\/∃d f l H C B,c=(ae,d,f,l,H,C,B)/\f8 κ a b d f l/\f+1<a.size/\l<b.size/\x+1+1<=f+l)) ?_ ?_ ?_) ?_);rotate_left
 .rintro c z ⟨_,d,f,l,H,C,B,rfl,u,v,q,L⟩;lia
 .exact⟨t,_,_,_,_,_,_,rfl,u,v,q,∅⟩
 .rintro c z ⟨t,⟨r,X,rfl,W⟩|⟨d,f,l,H,C,B,rfl,u,v,q,L⟩⟩
  .exact aW ⟨t,r,rfl,W⟩
  .dsimp only;refine aH (n_ (aW ⟨⟨t.kind,t.arr,t.pend,t.failed⟩,_,_,_,_,rfl,u,v,q,∅⟩))
 clear v q L u t I0 e1 e2;rintro y c z _ hy ⟨t,d,f,l,H,C,B,rfl,u,v,q,L⟩;clear hx hy;have jK:∀{i j:Nat} (J:i<=j) (p:j<b.size),bN κ (b[i]'∅) b[j]:=λ{i j} J p=>sb i j p J;have q8:∀{i j:Nat} (J:i<=j) (p:j<a.size),bN κ (a[i]'∅) a[j]:=λ{i j} J p=>Z i j p J;refine(?_:wpS (aw prog w) A E s _ ?Q _);extract_lets -merge x1 x2 x3 x4 x5 x6 x7 x8 x9 xa xb xc jp;have p:∀g S,gM K S->wpS (aw prog w) A E s (jp () g) ?Q S:=by
  intro g S F;dsimp -zeta only[jp,x1,x2,x3,x4,x5,x6,x7,x8,x9,xa,xb,xc];refine aH (Ay F λS F=>?_);refine aH (fi q ?_);refine aH (BA hO (F.sb hk) (base:=f) (n:=a.size-f) (hint:=0) (hB l q) ∅ hA (λi j J p _=>q8 J ∅) ∅ λk gE cD gk=>?_);dsimp -zeta only;extract_lets -merge y1 jp2;have wz:∀o n,f8 κ a b o n l->f+k<=n->n+1<a.size->wpS (aw prog w) A E s (jp2 () o n) ?Q S:=by
   intro o n T pD e4;dsimp -zeta only[jp2,y1];refine aH (fi q ?_);have O:=T.pushB q λj p g=>lN (gk j p ∅ ∅);refine cT (λe5=>?_) λe5=>?_
   .exact aW ⟨F,.inl ⟨_,_,rfl,O.doneA (by simpa using e5)⟩⟩
   have e5':l+1≠b.size:=by simpa using e5
   refine aH (fi ∅ ?_);refine aH (A4 hO (F.sb hk) (base:=l+1) (n:=b.size-(l+1)) (hint:=0) (hA _ _) ∅ hB (λi j J p _=>jK J ∅) ∅ λk' m1 m2 m3=>?_);dsimp -zeta only;extract_lets -merge z1 z2 jp3;have wB:∀o m,f8 κ a b o n m->l+1+k'<=m->m<b.size->wpS (aw prog w) A E s (jp3 () o m) ?Q S:=by
    intro o m Y e6 e7;dsimp -zeta only[jp3,z1,z2];refine aH (fi ∅ ?_);have wD:=Y.pushA ∅ (λj p g=>m3 j p ∅ ∅);refine cT (λe7=>?_) λe7=>?_
    .have P:n+1+1=a.size:=by simpa using e7
     exact aW ⟨F,.inl ⟨_,_,rfl,wD.last P (eX ∅ P)⟩⟩
    have P:n+1+1≠a.size:=by simpa using e7
    refine cT (λe8=>?_) λe8=>?_
    .exact aW ⟨F,.inr ⟨_,_,_,_,_,_,rfl,wD,∅,∅,∅⟩⟩
    .exact aW ⟨F,_,_,_,_,_,_,rfl,wD,∅,∅,∅⟩
   clear_value jp3;refine cT (λDh=>?_) (λDh=>?_)
   .have Y:=O.extB (k:=k') ∅ (λi N g1 g2 j p g3=>bN.trans (lN (m2 i N g1 g2)) (q8 g3 p));refine cT (λe6=>?_) λe6=>?_
    .exact aW ⟨F,.inl ⟨_,_,rfl,Y.doneA (by simpa using e6)⟩⟩
    have e6':l+1+k'≠b.size:=by simpa using e6
    exact wB _ _ Y ∅ ∅
   .exact wB _ _ O ∅ ∅
  clear_value jp2;refine cT (λhk0=>?_) (λhk0=>?_)
  .have T:f8 κ a b (d++a.extract f (f+k)) (f+k) l:=u.extA ∅ λi N g1 g2 j p g3=>(cD i N g1 g2).trans (jK g3 p);refine cT (λG=>?_) λG=>?_
   .have pD:f+k+1=a.size:=by simpa using G
    exact aW ⟨F,.inl ⟨_,_,rfl,T.last pD (eX ∅ pD)⟩⟩
   have pD:f+k+1≠a.size:=by simpa using G
   refine cT (λe4=>?_) λe4=>?_
   .exact aW ⟨F,.inl ⟨_,_,rfl,T.doneB (by simpa using e4)⟩⟩
   have e4':f+k≠a.size:=by simpa using e4
   exact wz _ _ T ∅ ∅
  .exact wz _ _ u ∅ ∅
 exact cT (λ_=>p _ _ t) λ_=>p _ _ t
end
def Bu(d:KeyKind):KeyKind where
 α:=d.α
 blt:=λa b=>d.blt b a
 irrefl:=d.irrefl
 trans:=λa b c g f=>d.trans c b a f g
 negTrans:=λa b c h=>(d.negTrans c b a h).symm
 total:=λa b g f=>d.total a b f g
 keyOf:=d.keyOf
 dflt:=d.dflt
section
variable{κ:KeyKind}{g:jr}
theorem t_{x y:Keyed}(h:bN κ y x):bN (Bu κ) x y:=h
theorem Dw{a:Array Keyed}{n:Nat}(h:0<n)(b:n<=a.size):(a.toList.take n).reverse=(a[n-1]'∅)::(a.toList.take (n-1)).reverse:=by
 obtain⟨m,rfl⟩:∃m,n=m+1:=⟨n-1,∅⟩
 rw[TV (by simp;lia),Ja];simp
theorem Hh(a:Array Keyed)(p n:Nat)(b:p<=n):a.toList.take n=a.toList.take p++(a.extract p n).toList:=by
 rw[lF]
 conv=>lhs;rw[show n=p+(n-p) by lia]
 rw[List.take_add]
theorem r9{a:Array Keyed}{n:Nat}(d:n<=a.size){x:Keyed}(h:x∈a.toList.take n):∃j,∃f:j<a.size,j<n/\a[j]=x:=by
 obtain⟨m,b,e⟩:=zu h;rw[CP]at e;have c:m<n:=by simp at b;lia
 exact⟨m,∅,c,by simpa using e⟩
theorem A9{a:Array Keyed}{p n:Nat}(d:n<=a.size){x:Keyed}(h:x∈(a.extract p n).toList):∃j,∃f:j<a.size,p<=j/\j<n/\a[j]=x:=by
 rw[lF]at h;obtain⟨m,b,e⟩:=zu h;rw[CP,CO]at e;have c:p+m<n:=by simp at b;lia
 exact⟨p+m,∅,∅,c,by simpa using e⟩
theorem qa(a:Array Keyed)(n:Nat):(a.extract 0 n).toList=a.toList.take n:=by rw[lF];simp
structure f9(κ:KeyKind)(a b c:Array Keyed)(f d:Nat):Prop where
 ms:MS (Bu κ) (a.toList++b.toList) c.toList (a.toList.take f).reverse (b.toList.take d).reverse
 la:f<=a.size
 lb:d<=b.size
variable{a b c:Array Keyed}{f d:Nat}
theorem f9.pushA(h:f9 κ a b c f d)(o:0<f)(q:f-1<a.size)(l:∀j (i:j<b.size),j<d->bN κ b[j] a[f-1]):f9 κ a b (c.push a[f-1]) (f-1) d:=by refine⟨?_,∅,h.lb⟩;rw[vN];refine MS.stepA (by rw[CQ,<-Dw o h.la];exact h.ms) λu n v m=>?_;obtain⟨j,i,p,rfl⟩:=r9 h.lb (pq.mp m);rw[fe.mp n];exact t_ (l j i p)
theorem f9.pushB(h:f9 κ a b c f d)(o:0<d)(p:d-1<b.size)(l:∀j (i:j<a.size),j<f->bN κ a[j] b[d-1]):f9 κ a b (c.push b[d-1]) f (d-1):=by refine⟨?_,h.la,∅⟩;rw[vN];refine MS.stepB (by rw[CQ,<-Dw o h.lb];exact h.ms) λu n v m=>?_;obtain⟨j,i,q,rfl⟩:=r9 h.la (pq.mp m);rw[fe.mp n];exact t_ (l j i q)
theorem f9.extA{p:Nat}(h:f9 κ a b c f d)(l:p<=f)(o:∀i (n:i<a.size),p<=i->i<f->∀j (m:j<b.size),j<d->bN κ b[j] a[i]):f9 κ a b (c++(a.extract p f).reverse) p d:=by refine⟨?_,cQ l h.la,h.lb⟩;rw[iV,Array.toList_reverse];refine MS.stepA (by rw[<-Ja,<-Hh _ _ _ l];exact h.ms) λu r v q=>?_;obtain⟨j,m,w,rfl⟩:=r9 h.lb (pq.mp q);obtain⟨i,n,t,s,rfl⟩:=A9 h.la (pq.mp r);exact t_ (o i n t s j m w)
theorem f9.extB{p:Nat}(h:f9 κ a b c f d)(l:p<=d)(o:∀i (n:i<b.size),p<=i->i<d->∀j (m:j<a.size),j<f->bN κ a[j] b[i]):f9 κ a b (c++(b.extract p d).reverse) f p:=by refine⟨?_,h.la,cQ l h.lb⟩;rw[iV,Array.toList_reverse];refine MS.stepB (by rw[<-Ja,<-Hh _ _ _ l];exact h.ms) λu r v q=>?_;obtain⟨j,m,w,rfl⟩:=r9 h.la (pq.mp q);obtain⟨i,n,t,s,rfl⟩:=A9 h.lb (pq.mp r);exact t_ (o i n t s j m w)
theorem zX{T:List Keyed}{r q:Array Keyed}(h:gP (Bu κ) T q)(e:r.toList=q.toList.reverse):gP κ T r:=by refine⟨by rw[e];exact(CT _).trans h.1,?_⟩;rw[e,Jb];exact h.2
theorem f9.doneA(h:f9 κ a b c f d)(e:f=0):gP κ (a.toList++b.toList) (a.extract 0 f++b.extract 0 d++c.reverse):=by have:=h.ms;rw[e,CF,List.reverse_nil]at this;refine zX (q:=(c.toList++(b.toList.take d).reverse).toArray) (this.swap.endA (by simp)) ?_;rw[iV,iV,qa,qa,e];simp
theorem f9.doneB(h:f9 κ a b c f d)(e:d=0):gP κ (a.toList++b.toList) (a.extract 0 f++b.extract 0 d++c.reverse):=by have:=h.ms;rw[e,CF,List.reverse_nil]at this;refine zX (q:=(c.toList++(a.toList.take f).reverse).toArray) (this.endA (by simp)) ?_;rw[iV,iV,qa,qa,e];simp
theorem f9.first(h:f9 κ a b c f d)(e:d=1)(p:∀j (n:j<a.size),bN κ (b[0]'(by have:=h.lb;lia)) a[j]):gP κ (a.toList++b.toList) (b.extract 0 d++a.extract 0 f++c.reverse):=by
 refine zX (q:=(c.toList++((a.toList.take f).reverse++(b.toList.take d).reverse)).toArray) (h.ms.swap.last (λu m v l=>?_) (by simp)) ?_
 .obtain⟨i,o,s,rfl⟩:=r9 h.la (pq.mp m);obtain⟨j,n,r,rfl⟩:=r9 h.lb (pq.mp l);have:j=0:=∅
  subst this;exact t_ (p i o)
 .rw[iV,iV,qa,qa];simp
end
section
variable{f:aQ}{w:aE}{A:aT}{E:ai->am->Prop}{s:am}{d:KeyKind}{l:jr}
theorem MK(hO:jB d l f w A s){S:bH}(hk:SB l S){a b:Array Keyed}{Q:Array Keyed->bH->Prop}(ha:0<a.size)(hb:0<b.size)(hA:∀i (hi:i<a.size),gZ d a[i]) (hB:∀i (hi:i<b.size),gZ d b[i]) (sa:uO d a) (sb:uO d b)(h0:bN d b[0] a[0]) (hl:∀j (v:j<b.size),bN d b[j] a[a.size-1])(h:∀r J,gM S J->gP d (a.toList++b.toList) r->Q r J):wpS (aw f w) A E s (GZ a b) Q S:=by
 have jK:∀{i j:Nat} (P:i<=j) (v:j<b.size),bN d (b[i]'∅) b[j]:=λ{i j} P v=>sb i j v P;have q8:∀{i j:Nat} (P:i<=j) (v:j<a.size),bN d (a[i]'∅) a[j]:=λ{i j} P v=>sa i j v P;have hf:∀j (v:j<a.size),bN d b[0] a[j]:=λj v=>h0.trans (q8 ∅ v);have I0:f9 d a b #[a[a.size-1]] (a.size-1) b.size:=by
  have B:f9 d a b #[] a.size b.size:=by
   refine⟨⟨?_,by simp,?_,?_,by simp,by simp⟩,∅,∅⟩
   .simp only[<-nU,CU,iq];exact List.Perm.append (CT _) (CT _)
   .simp only[<-nU,CU,Jb];exact sa.pw
   .simp only[<-nU,CU,Jb];exact sb.pw
  exact B.pushA ha ∅ λj v _=>hl j v
 unfold GZ;refine aH (tO (nZ ⟨rfl,?_⟩));refine aH (fi ∅ ?_);refine cT (λe1=>aW (h _ _ .rfl (I0.doneA (by simpa using e1)))) λe1=>?_;have t5:a.size-1≠0:=by simpa using e1
 refine cT (λe2=>?_) λe2=>?_
 .have lS:b.size=1:=by simpa using e2
  exact aW (h _ _ .rfl (I0.first lS hf))
 have lS:b.size≠1:=by simpa using e2
 refine aH (lM ?_);refine aH (gU (gW (I:=λx c J=>gM S J/\∃t u q O,c=(ae,u,q,t,O)/\f9 d a b t u q/\0<u/\u<=a.size/\1<q/\q<=b.size/\x+1+u+q<=a.size+b.size) (Q:=λc J=>gM S J/\∃r,c.1=aa r/\gP d (a.toList++b.toList) r) ?_ ?_ ?_) ?_);rotate_left
 .rintro c J ⟨_,t,u,q,O,rfl,z,B,L,K,M,T⟩;lia
 .exact⟨.rfl,_,_,_,_,rfl,I0,∅,∅,∅,∅,∅⟩
 .rintro⟨c1,c⟩ J ⟨H,r,rfl,hD⟩;exact aW (h r J H hD)
 rintro x c J _ hx ⟨H,t,u,q,O,rfl,z,B,L,K,M,T⟩;refine aH (gU (gW (I:=λy c D=>D=J/\∃t u q G F,c=(ae,u,q,t,G,F)/\f9 d a b t u q/\0<u/\u<=a.size/\1<q/\q<=b.size/\x+1+y+u+q<=a.size+b.size) (Q:=λc D=>D=J/\((∃r c',c=(aa r,c')/\gP d (a.toList++b.toList) r)\/∃t u q G F,c=(ae,u,q,t,G,F)/\f9 d a b t u q/\0<u/\u<=a.size/\1<q/\q<=b.size/\x+1+1+u+q<=a.size+b.size)) ?_ ?_ ?_) ?_)
 .rintro y c D _ hy ⟨rfl,t,u,q,G,F,rfl,z,B,L,K,M,T⟩;dsimp only;refine aH (fi ∅ (aH (fi ∅ (aH (vq hO (H.sb hk) (hB (q-1) ∅) (hA (u-1) ∅) ?_)))));cases e:d.blt (kO d (b[q-1]'∅)) (kO d (a[u-1]'∅))with
  |true=>
   dsimp only;rw[if_pos rfl];refine aH (fi ∅ ?_);have W:=z.pushA B ∅ λj v fZ=>bN.trans (jK (show j<=q-1 by lia) ∅) (lN e);refine cT (λN=>?_) λN=>?_
   .exact aW ⟨rfl,.inl ⟨_,_,rfl,W.doneA (by simpa using N)⟩⟩
   have pD:u-1≠0:=by simpa using N
   refine cT (λe4=>?_) λe4=>?_
   .exact aW ⟨rfl,.inr ⟨_,_,_,_,_,rfl,W,∅,∅,∅,∅,∅⟩⟩
   .exact aW ⟨rfl,_,_,_,_,_,rfl,W,∅,∅,∅,∅,∅⟩
  |false=>
   dsimp only;rw[if_neg (by simp)];refine aH (fi ∅ ?_);have W:=z.pushB ∅ ∅ λj v fZ=>bN.trans (q8 (show j<=u-1 by lia) ∅) (show bN d (a[u-1]'∅) (b[q-1]'∅)from e);refine cT (λN=>?_) λN=>?_
   .exact aW ⟨rfl,.inl ⟨_,_,rfl,W.first (by simpa using N) hf⟩⟩
   have pD:q-1≠1:=by simpa using N
   refine cT (λe4=>?_) λe4=>?_
   .exact aW ⟨rfl,.inr ⟨_,_,_,_,_,rfl,W,∅,∅,∅,∅,∅⟩⟩
   .exact aW ⟨rfl,_,_,_,_,_,rfl,W,∅,∅,∅,∅,∅⟩
 .rintro c D ⟨rfl,t,u,q,G,F,rfl,z,B,L,K,M,T⟩;lia
 .exact⟨rfl,_,_,_,_,_,rfl,z,B,L,K,M,∅⟩
 rintro c D ⟨rfl,⟨r,c',rfl,hD⟩|⟨t,u,q,G,F,rfl,z,B,L,K,M,T⟩⟩
 .exact aW ⟨H,r,rfl,hD⟩
 refine aH (tO (nZ ⟨rfl,?_⟩));refine aH (gU (gW (I:=λy c D=>gM S D/\∃t u q O G F,c=(ae,u,q,t,O,G,F)/\f9 d a b t u q/\0<u/\u<=a.size/\1<q/\q<=b.size/\x+2+y+u+q<=a.size+b.size) (Q:=λc D=>gM S D/\((∃r c',c=(aa r,c')/\gP d (a.toList++b.toList) r)\/∃t u q O G F,c=(ae,u,q,t,O,G,F)/\f9 d a b t u q/\0<u/\u<=a.size/\1<q/\q<=b.size/\x+1+1+u+q<=a.size+b.size)) ?_ ?_ ?_) ?_);rotate_left
 .rintro c D ⟨_,t,u,q,O,G,F,rfl,z,B,L,K,M,T⟩;lia
 .exact⟨H,_,_,_,_,_,_,rfl,z,B,L,K,M,∅⟩
 .rintro c D ⟨H,⟨r,c',rfl,hD⟩|⟨t,u,q,O,G,F,rfl,z,B,L,K,M,T⟩⟩
  .exact aW ⟨H,r,rfl,hD⟩
  .dsimp only;exact aH (Ay H λY C=>aW ⟨C,_,_,_,_,rfl,z,B,L,K,M,∅⟩)
 clear B L K M T z H I0 e1 e2;rintro y c D _ hy ⟨H,t,u,q,O,G,F,rfl,z,B,L,K,M,T⟩;clear hx hy;refine(?_:wpS (aw f w) A E s _ ?Q _);extract_lets -merge x1 x2 x3 x4 x5 x6 x7 x8 x9 xa xb xc jp;have v:∀g Y,gM S Y->wpS (aw f w) A E s (jp () g) ?Q Y:=by
  intro g Y C;dsimp -zeta only[jp,x1,x2,x3,x4,x5,x6,x7,x8,x9,xa,xb,xc];refine aH (Ay C λY C=>?_);refine aH (fi ∅ ?_);refine aH (BA hO (C.sb hk) (base:=0) (n:=u) (hint:=u-1) (hB (q-1) ∅) ∅ hA (λi j P v _=>q8 P ∅) ∅ λp gE cD gk=>?_);dsimp -zeta only;extract_lets -merge y1 y2 jp2;have wz:∀n o,f9 d a b o n q->0<n->n<=p->wpS (aw f w) A E s (jp2 () n o) ?Q Y:=by
   intro n o wA pD e4;dsimp -zeta only[jp2,y1,y2];refine aH (fi ∅ ?_);have X:=wA.pushB ∅ ∅ λj v g=>cD j v ∅ ∅;refine cT (λe5=>?_) λe5=>?_
   .exact aW ⟨C,.inl ⟨_,_,rfl,X.first (by simpa using e5) hf⟩⟩
   have e5':q-1≠1:=by simpa using e5
   refine aH (fi ∅ ?_);refine aH (A4 hO (C.sb hk) (base:=0) (n:=q-1) (hint:=q-1-1) (hA _ _) ∅ hB (λi j P v _=>jK P ∅) ∅ λp' m1 m2 m3=>?_);dsimp -zeta only;extract_lets -merge z1 z2 z3 jp3;have wB:∀m o,f9 d a b o n m->1<m->m<=p'->wpS (aw f w) A E s (jp3 () m o) ?Q Y:=by
    intro m o Z e6 e7;dsimp -zeta only[jp3,z1,z2,z3];refine aH (fi ∅ ?_);have wD:=Z.pushA ∅ ∅ (λj v g=>lN (m2 j v ∅ ∅));refine cT (λe7=>?_) λe7=>?_
    .exact aW ⟨C,.inl ⟨_,_,rfl,wD.doneA (by simpa using e7)⟩⟩
    have e7':n-1≠0:=by simpa using e7
    refine cT (λe8=>?_) λe8=>?_
    .exact aW ⟨C,.inr ⟨_,_,_,_,_,_,rfl,wD,∅,∅,∅,∅,∅⟩⟩
    .exact aW ⟨C,_,_,_,_,_,_,rfl,wD,∅,∅,∅,∅,∅⟩
   clear_value jp3;refine cT (λDh=>?_) (λDh=>?_)
   .have Z:=X.extB (p:=p') ∅ (λi hi g1 g2 j v g3=>bN.trans (q8 (show j<=n-1 by lia) ∅) (m3 i hi ∅ ∅));refine cT (λe6=>?_) λe6=>?_
    .exact aW ⟨C,.inl ⟨_,_,rfl,Z.first (by simpa using e6) hf⟩⟩
    refine cT (λe9=>?_) λe9=>?_
    .exact aW ⟨C,.inl ⟨_,_,rfl,Z.doneB (by simpa using e9)⟩⟩
    have e6':p'≠1:=by simpa using e6
    have e9':p'≠0:=by simpa using e9
    exact wB _ _ Z ∅ ∅
   .exact wB _ _ X ∅ ∅
  clear_value jp2;refine cT (λhk0=>?_) (λhk0=>?_)
  .have wA:f9 d a b (t++(a.extract p u).reverse) p q:=z.extA ∅ λi hi g1 g2 j v g3=>bN.trans (jK (show j<=q-1 by lia) ∅) (lN (gk i hi ∅ ∅));refine cT (λN=>?_) λN=>?_
   .exact aW ⟨C,.inl ⟨_,_,rfl,wA.doneA (by simpa using N)⟩⟩
   have pD:p≠0:=by simpa using N
   exact wz _ _ wA ∅ ∅
  .exact wz _ _ z ∅ ∅
 exact cT (λ_=>v _ _ H) λ_=>v _ _ H
end
def putL(a:Array Keyed)(c:Nat)(l:List Keyed):Array Keyed:=l.zipIdx.foldl (λa (b:Keyed×Nat)=>a.setIfInBounds (c+b.2) b.1) a
theorem Ac:∀(l:List Keyed) (n b:Nat) (a:Array Keyed),b+n+l.length<=a.size -> ((l.zipIdx n).foldl (λa (c:Keyed×Nat)=>a.setIfInBounds (b+c.2) c.1) a).size=a.size /\ ∀k,((l.zipIdx n).foldl (λa (c:Keyed×Nat)=>a.setIfInBounds (b+c.2) c.1) a)[k]?=if b+n<=k/\k<b+n+l.length then l[k-(b+n)]? else a[k]?
 |[],n,b,a,_=>⟨rfl,λk=>by rw[if_neg (by simp)];rfl⟩
 |x::l,n,b,a,h=>by
  have g:b+(n+1)+l.length<=(a.setIfInBounds (b+n) x).size:=by simp at h ⊢;lia
  obtain⟨j,i⟩:=Ac l (n+1) b (a.setIfInBounds (b+n) x) g;rw[List.zipIdx_cons,k_];refine⟨by rw[j];simp,λk=>?_⟩;rw[i];by_cases f:b+n=k
  .subst f;rw[if_neg ∅,if_pos (by simp)];rw[Array.getElem?_setIfInBounds_self_of_lt (by simp at h;lia)];simp
  .by_cases d:b+(n+1)<=k/\k<b+(n+1)+l.length
   .rw[if_pos d,if_pos (by simp;lia)];rw[show k-(b+n)=k-(b+(n+1))+1 by lia,List.getElem?_cons_succ]
   .rw[if_neg d,if_neg (by simp;lia),Array.getElem?_setIfInBounds_ne f]
theorem LH{a:Array Keyed}{b:Nat}{l:List Keyed}(h:b+l.length<=a.size):(putL a b l).size=a.size:=(Ac l 0 b a ∅).1
theorem Bd{a:Array Keyed}{b:Nat}{l:List Keyed}(h:b+l.length<=a.size)(k:Nat):(putL a b l)[k]?=if b<=k/\k<b+l.length then l[k-b]? else a[k]? :=(Ac l 0 b a ∅).2 k
theorem QD{a:Array Keyed}{b n:Nat}{l:List Keyed}(h:b+n<=a.size)(d:l.Perm ((a.toList.drop b).take n)):(putL a b l).toList.Perm a.toList:=by
 have f:l.length=n:=by rw[d.length_eq,jZ,k9];simp;lia
 have e:(putL a b l).toList=a.toList.take b++(l++a.toList.drop (b+n)):=by
  apply vP;intro k;rw[zp,Bd ∅,List.getElem?_append,List.getElem?_append,jZ,Jc,CD,f];simp only[nU,zp];rw[show min b a.size=b by lia];by_cases c:k<b
  .rw[if_neg ∅,if_pos c,if_pos c]
  .rw[if_neg c];by_cases i:k<b+n
   .rw[if_pos ∅,if_pos ∅]
   .rw[if_neg ∅,if_neg ∅];congr 1;lia
 rw[e];have g:a.toList=a.toList.take b++((a.toList.drop b).take n++a.toList.drop (b+n)):=by rw[<-List.drop_drop,my,my]
 conv=>rhs;rw[g]
 exact zj _ (List.Perm.append_right _ d)
section
variable{κ:KeyKind}{kz:jr}
def Run(κ:KeyKind)(a:Array Keyed)(b n:Nat):Prop:=∀i j x y,b<=i->i<=j->j<b+n->a[i]?=aa x->a[j]?=aa y->bN κ x y
theorem bN.refl(x:Keyed):bN κ x x:=mD _
structure Wr(a a':Array Keyed)(lo n:Nat):Prop where
 perm:a'.toList.Perm a.toList
 size:a'.size=a.size
 out:∀k,k<lo\/lo+n<=k->a'[k]?=a[k]?
theorem Run.keep{a m:Array Keyed}{c n b f:Nat}(h:Run κ a c n)(w:Wr a m b f)(d:c+n<=b\/b+f<=c):Run κ m c n:=by intro i j x y q p o l g;rw[w.out i ∅]at l;rw[w.out j ∅]at g;exact h i j x y q p o l g
end
section
variable{b:aQ}{w:aE}{A:aT}{E:ai->am->Prop}{s:am}{κ:KeyKind}{c:jr}
theorem Rx{a:Type}{M:Model}{Q:PUnit->a->Prop}{f d:a}(h:Q ⟨⟩ d):wpS M A E s (set d:StateT a Sem PUnit) Q f:=by unfold wpS;rw[StateT.run_set];exact aG ⟨rfl,h⟩
theorem TH(a:Array Keyed){p q t:Nat}(f:p<=q)(d:q<=t):(a.extract p q).toList++(a.extract q t).toList=(a.extract p t).toList:=by rw[lF,lF,lF,show t-p=(q-p)+(t-q) by lia,List.take_add,List.drop_drop,show p+(q-p)=q by lia]
theorem Sz{a:Array Keyed}{d f p k g:Nat}(Z:d+f+p<=a.size)(hk:k<f)(h0:0<g)(hnb:g<=p)(Y:Run κ a d f)(X:Run κ a (d+f) p)(a1:∀i (o:i<a.size),d<=i->i<d+k->bN κ a[i] (a[d+f]'∅)) (b2:∀i (o:i<a.size),d+f+g<=i->i<d+f+p->bN κ (a[d+f-1]'∅) a[i]){r:Array Keyed} (v:gP κ ((a.extract (d+k) (d+f)).toList++(a.extract (d+f) (d+f+g)).toList) r):Wr a (putL a (d+k) r.toList) d (f+p)/\Run κ (putL a (d+k) r.toList) d (f+p):=by
 rw[TH _ ∅ ∅]at v;have bi:r.toList.length=f-k+g:=by rw[v.1.length_eq,lF,jZ,k9,nU];lia
 have F:d+k+r.toList.length<=a.size:=∅
 have C:∀m∈r.toList,∃t,∃D:t<a.size,d+k<=t/\t<d+f+g/\a[t]=m:=λm C=>A9 ∅ (v.1.mem_iff.mp C);have H:∀{i j:Nat} (B:i<=j) (l:j<d+f),d<=i->bN κ (a[i]'∅) (a[j]'∅):=λ{i j} B l o=>Y i j _ _ o B l (getElem?_pos _ _ _) (getElem?_pos _ _ _);have G:∀{i j:Nat} (B:i<=j) (l:j<d+f+p),d+f<=i->bN κ (a[i]'∅) (a[j]'∅):=λ{i j} B l o=>X i j _ _ o B l (getElem?_pos _ _ _) (getElem?_pos _ _ _);have pS:∀i (o:i<a.size) j (l:j<a.size),d<=i->i<d+k->d+f<=j->j<d+f+p->bN κ a[i] a[j]:=λi o j l c1 J N c4=>(a1 i o c1 J).trans (G N c4 (aY _));refine⟨⟨?_,LH F,λq hq=>?_⟩,?_⟩
 .refine QD (n:=f-k+g) ∅ ?_;have:=v.1;rwa[lF,show d+f+g-(d+k)=f-k+g by lia]at this
 .rw[Bd F,if_neg ∅]
 .intro i j x y h1 K h3 u h;rw[Bd F]at u h;by_cases M:d+k<=i/\i<d+k+r.toList.length
  .rw[if_pos M]at u;obtain⟨t,D,W,T,rfl⟩:=C x (y3 u);by_cases z:d+k<=j/\j<d+k+r.toList.length
   .rw[if_pos z]at h;by_cases I:i=j
    .subst I;rw[u]at h;cases h;exact bN.refl _
    .obtain⟨S,Q⟩:=dR.mp u;obtain⟨P,O⟩:=dR.mp h;have:=List.pairwise_iff_getElem.mp v.2 (i-(d+k)) (j-(d+k)) S P ∅;rw[Q,O]at this;exact this
   .rw[if_neg z]at h;obtain⟨l,rfl⟩:=qM.mp h;by_cases L:t<d+f
    .exact(H (show t<=d+f-1 by lia) ∅ ∅).trans (b2 j l ∅ ∅)
    .exact G ∅ ∅ ∅
  .rw[if_neg M]at u;obtain⟨o,rfl⟩:=qM.mp u;by_cases z:d+k<=j/\j<d+k+r.toList.length
   .rw[if_pos z]at h;obtain⟨t,D,W,T,rfl⟩:=C y (y3 h);by_cases L:t<d+f
    .exact H ∅ L ∅
    .exact pS i o t D ∅ ∅ ∅ ∅
   .rw[if_neg z]at h;obtain⟨l,rfl⟩:=qM.mp h;by_cases J:i<d+k
    .by_cases N:j<d+k
     .exact H K ∅ h1
     .exact pS i o j l ∅ J ∅ ∅
    .exact G K ∅ ∅
theorem D1{a:Array Keyed}{f d g:Nat}(q:f+d+g<=a.size)(t:0<d)(r:0<g)(n:Run κ a f d)(m:Run κ a (f+d) g)(u:bN κ (a[f+d-1]'∅) (a[f+d]'∅)):Run κ a f (d+g):=by
 intro i j x y p o z l h;by_cases v:j<f+d
 .exact n i j x y p o v l h
 .by_cases B:i<f+d
  .exact((n i (f+d-1) x _ p ∅ ∅ l (getElem?_pos _ _ _)).trans u).trans (m (f+d) j _ y ∅ ∅ ∅ (getElem?_pos _ _ _) h)
  .exact m i j x y ∅ o ∅ l h
theorem Wr.same{a:Array Keyed}{lo n:Nat}:Wr a a lo n:=⟨tF _,rfl,λ_ _=>rfl⟩
theorem QA(J:jB κ c b w A s){o:bH}(hk:SB c o)(v:∀i (m:i<(arrOf o).size),gZ κ (arrOf o)[i]){i d a pw g D:Nat}(M:(br o)[i]?=aa (d,a,pw)) (L:(br o)[i+1]?=aa (d+a,g,D)) (x:0<a) (F:0<g) (p:d+a+g<=(arrOf o).size)(z:Run κ (arrOf o) d a) (y:Run κ (arrOf o) (d+a) g) {Q:Bool->bH->Prop}(h:∀t,SB c t->br t=((br o).setIfInBounds i (d,a+g,pw)).eraseIdxIfInBounds (i+1)->Wr (arrOf o) (arrOf t) d (a+g)->Run κ (arrOf t) d (a+g)->Q ah t):wpS (aw b w) A E s (mergeAt' i) Q o:=by
 obtain⟨kd,f,I,mg,fl⟩:=o;have P:c=kd:=hk.kind.symm;have mP:fl=ae:=hk.failed;subst mP;subst P;replace v:∀i (m:i<f.size),gZ κ f[i]:=v;replace p:d+a+g<=f.size:=p;replace z:Run κ f d a:=z;replace y:Run κ f (d+a) g:=y;replace M:I[i]?=aa (d,a,pw):=M;replace L:I[i+1]?=aa (d+a,g,D):=L;replace h:∀t,SB c t->br t=(I.setIfInBounds i (d,a+g,pw)).eraseIdxIfInBounds (i+1)->Wr f (arrOf t) d (a+g)->Run κ (arrOf t) d (a+g)->Q ah t:=h;have g1:∀{i j:Nat} (q:i<=j) (l:j<d+a),d<=i->bN κ (f[i]'∅) (f[j]'∅):=λ{i j} q l m=>z i j _ _ m q l (getElem?_pos _ _ _) (getElem?_pos _ _ _);have g2:∀{i j:Nat} (q:i<=j) (l:j<d+a+g),d+a<=i->bN κ (f[i]'∅) (f[j]'∅):=λ{i j} q l m=>y i j _ _ m q l (getElem?_pos _ _ _) (getElem?_pos _ _ _);unfold mergeAt';refine aH (lM ?_);dsimp only;rw[M,L];dsimp only;refine aH (Rx ?_);generalize (I.setIfInBounds i (d,a+g,pw)).eraseIdxIfInBounds (i+1)=pend at *;refine aH (fi ∅ ?_);refine aH (BA J ⟨rfl,rfl⟩ (base:=d) (n:=a) (hint:=0) (v _ _) ∅ v (λi j q l m=>g1 q l m) x λk m1 Z m3=>?_);dsimp only;refine cT (λW=>?_) λW=>?_
 .have X:a<=k:=by have:a-k=0:=(by simpa using W);lia
  refine aW (h _ ⟨rfl,rfl⟩ rfl Wr.same (D1 p x F z y (Z _ _ ∅ ∅)))
 have X:k<a:=by have:a-k≠0:=(by simpa using W);lia
 refine aH (fi ∅ ?_);refine aH (A4 J ⟨rfl,rfl⟩ (base:=d+a) (n:=g) (hint:=g-1) (v _ _) ∅ v (λi j q l m=>g2 q l m) ∅ λu n1 Y N=>?_);dsimp only;have G:d+k+(a-k)-1=d+a-1:=∅
 simp only[G]at Y N;refine cT (λT=>?_) λT=>?_
 .have lS:u=0:=by simpa using T
  refine aW (h _ ⟨rfl,rfl⟩ rfl Wr.same (D1 p x F z y (N _ _ ∅ ∅)))
 have lS:u≠0:=by simpa using T
 have xs:(f.extract (d+k) (d+a)).size=a-k:=by simp;lia
 have ys:(f.extract (d+a) (d+a+u)).size=u:=by simp;lia
 refine cT (λ_=>?_) λ_=>?_
 all_goals
  first
   |refine aH (QC J ⟨rfl,rfl⟩ ∅ ∅ ?_ ?_ ?_ ?_ ?_ ?_ ?_)
   |refine aH (MK J ⟨rfl,rfl⟩ ∅ ∅ ?_ ?_ ?_ ?_ ?_ ?_ ?_)
  .intro j l;rw[og];exact v _ _
  .intro j l;rw[og];exact v _ _
  .intro i j l q;rw[og,og];exact g1 ∅ ∅ ∅
  .intro i j l q;rw[og,og];exact g2 ∅ ∅ ∅
  .rw[og,og];exact lN (m3 _ _ ∅ ∅)
  .intro j l;rw[og,og];have:=Y (d+a+j) ∅ ∅ ∅;have e:d+k+((f.extract (d+k) (d+a)).size-1)=d+a-1:=∅
   simp only[e];exact lN this
  .rintro r ⟨O,H,K,mg',S⟩ ⟨C,B,c3,c4⟩ hD;change O=c at C;change H=f at B;change K=pend at c3;change S=ae at c4;subst C B c3 c4;refine aH (n_ ?_);refine aH (lM ?_);obtain⟨w1,w2⟩:=Sz p X ∅ n1 z y (λi m C B=>Z i m C B) (λi m C B=>N i m C B) hD;exact aW (h _ ⟨rfl,rfl⟩ rfl w1 w2)
end
section
variable{κ:KeyKind}{kz:jr}
theorem At{a:Array Keyed}{i:Nat}{x:Keyed}(h:a[i]?=aa x):KK κ a i=kO κ x:=by unfold KK kO;rw[h]
theorem yi{a:Array Keyed}{i:Nat}(h:i<a.size):KK κ a i=kO κ a[i]:=At (getElem?_pos _ _ _)
def iz(κ:KeyKind)(a:Array Keyed)(lo n:Nat):Prop:=∀i j,lo<=i->i<=j->j<lo+n->κ.kle (KK κ a i) (KK κ a j)
def oH(κ:KeyKind)(a:Array Keyed)(lo n:Nat):Prop:=∀i j,lo<=i->i<=j->j<lo+n->κ.kle (KK κ a j) (KK κ a i)
theorem iz.run{a:Array Keyed}{b n:Nat}(h:iz κ a b n):Run κ a b n:=by intro i j x y l g f d c;have:=h i j l g f;rw[At d,At c]at this;exact this
theorem Wr.trans{a b c:Array Keyed}{d n:Nat}(g:Wr a b d n)(f:Wr b c d n):Wr a c d n :=⟨f.perm.trans g.perm,f.size.trans g.size,λk h=>(f.out k h).trans (g.out k h)⟩
theorem Wr.mono{a b:Array Keyed}{d n c f:Nat}(h:Wr a b d n)(j:c<=d)(i:d+n<=c+f):Wr a b c f :=⟨h.perm,h.size,λk g=>h.out k ∅⟩
theorem JT{a:Array Keyed}{i j:Nat}(b:j<=a.size)(d:i<=j):Wr a (mirror a i j ((j-i) / 2)) i (j-i) :=⟨Jd.mp (mirror_perm _ _ _ _),mirror_size _ _ _ _,λk c=>by rw[getElem?_mirror_all b,if_neg ∅]⟩
theorem Oe{a:Array Keyed}{b d:Nat}(c:b<a.size)(f:d<=b):Wr a (bubble a b d) (b-d) (d+1) :=⟨Jd.mp (bubble_perm _ _ _),bubble_size _ _ _,λk g=>by rw[getElem?_bubble c d f,if_neg ∅,if_neg ∅]⟩
def AllK(κ:KeyKind)(a:Array Keyed):Prop:=∀i (b:i<a.size),gZ κ a[i]
theorem AllK.of{a b:Array Keyed}(h:AllK κ a)(p:b.toList.Perm a.toList):AllK κ b:=by intro i f;have c:b[i]∈a.toList:=p.mem_iff.mp (by simp);obtain⟨j,d,e⟩:=zu c;rw[<-e];simpa using h j (by simpa using d)
end
section
variable{d:aQ}{w:aE}{A:aT}{E:ai->am->Prop}{s:am}{κ:KeyKind}{f:jr}
theorem pR(m:jB κ f d w A s){a:bH}(l:SB f a)(g:AllK κ (arrOf a)){i j:Nat}{Q:Option Bool->bH->Prop}(c:i<(arrOf a).size)(b:j<(arrOf a).size)(h:Q (aa (κ.blt (KK κ (arrOf a) i) (KK κ (arrOf a) j))) a):wpS (aw d w) A E s (ltAt' i j) Q a:=by rw[yi c,yi b]at h;rw[ltAt'_eq];refine aH (lM ?_);exact aH (fi c (aH (fi b (vq m l (g i c) (g j b) h))))
theorem uR{b a:bH}{lo n i j:Nat}{Q:Unit->bH->Prop}(m:SB f a)(o:br a=br b)(l:Wr (arrOf b) (arrOf a) lo n)(r:i<=j)(p:j<=(arrOf b).size)(q:lo<=i)(t:j<=lo+n)(h:∀c,SB f c->br c=br b->Wr (arrOf b) (arrOf c) lo n->(∀k,KK κ (arrOf c) k=if i<=k/\k<j then KK κ (arrOf a) (i+j-1-k)else KK κ (arrOf a) k)->Q () c):wpS (aw d w) A E s (reverseSlice' i j) Q a:=by
 have g:j<=(arrOf a).size:=by rw[l.size];exact p
 exact wpS_reverse (h _ ⟨m.kind,m.failed⟩ o (l.trans ((JT g r).mono q ∅)) λk=>KK_mirror g k)
theorem Tq{i:Type}{c:Prop}[Decidable c]{j h:StateT bH Sem i}{Q:i->bH->Prop}{g:bH}{J:bH->Prop}(l:¬c->J g)(a:∀b,J b->wpS (aw d w) A E s h Q b)(m:c->(∀b,J b->wpS (aw d w) A E s h Q b)->wpS (aw d w) A E s j Q g):wpS (aw d w) A E s (if c then j else h) Q g :=cT (λe=>m e a) λe=>a g (l e)
theorem A5{a:Array Keyed}{lo x:Nat}(b:iz κ a lo x)(h:1<=x)(e:κ.kle (KK κ a (lo+x-1)) (KK κ a (lo+x))):iz κ a lo (x+1):=λi j c n o=>by
 by_cases l:j<lo+x
 .exact b i j c n l
 .have g:j=lo+x:=∅
  subst g;by_cases m:i=lo+x
  .subst m;exact mD _
  .exact vR (b i (lo+x-1) c ∅ ∅) e
theorem Dz{a:Array Keyed}{lo x:Nat}(b:oH κ a lo x)(h:1<=x)(e:κ.kle (KK κ a (lo+x)) (KK κ a (lo+x-1))):oH κ a lo (x+1):=λi j c n o=>by
 by_cases l:j<lo+x
 .exact b i j c n l
 .have g:j=lo+x:=∅
  subst g;by_cases m:i=lo+x
  .subst m;exact mD _
  .exact vR e (b i (lo+x-1) c ∅ ∅)
theorem Nt{a:Array Keyed}{lo x b:Nat}(g:∀i,lo+x-(b+1)<=i->i<lo+x->KK κ a i=KK κ a (lo+x-1))(h:KK κ a (lo+x)=KK κ a (lo+x-1)):∀i,lo+(x+1)-(b+1+1)<=i->i<lo+(x+1)->KK κ a i=KK κ a (lo+(x+1)-1):=λi l j=>by
 rw[show lo+(x+1)-1=lo+x by lia];by_cases c:i=lo+x
 .rw[c]
 .rw[g i ∅ ∅,h]
theorem EC{a b:Array Keyed}{i j n:Nat}(g:∀k,KK κ b k=if i<=k/\k<j then KK κ a (i+j-1-k)else KK κ a k)(c:∀k,i<=k->k<j->KK κ a k=KK κ a n):∀k,KK κ b k=KK κ a k:=λk=>by
 rw[g];split
 .rw[c _ ∅ ∅,c k ∅ ∅]
 .rfl
theorem K3(P:jB κ f d w A s){u:bH}(O:SB f u)(S:AllK κ (arrOf u)){lo a:Nat}(h1:1<=a)(hsz:lo+a<=(arrOf u).size){Q:Option Nat->bH->Prop}(h:∀n p,SB f p->br p=br u->Wr (arrOf u) (arrOf p) lo a->1<=n->n<=a->iz κ (arrOf p) lo n->Q (aa n) p):wpS (aw d w) A E s (countRun' lo a) Q u:=by
 have one:iz κ (arrOf u) lo 1:=λi j r v C=>by
  have:i=j:=∅
  subst this;exact mD _
 have go:∀{t:bH},Wr (arrOf u) (arrOf t) lo a->(arrOf t).size=(arrOf u).size:=λw=>w.size;unfold countRun';refine aH (gU (gW (I:=λx c g=>g=u/\c=(ae,x)/\iz κ (arrOf u) lo x) (Q:=λc g=>g=u/\∃n,c=(ae,n)/\1<=n/\n<=a/\iz κ (arrOf u) lo n/\(n=a\/κ.klt (KK κ (arrOf u) (lo+n)) (KK κ (arrOf u) (lo+n-1)))) ?_ ?_ ?_) ?_)
 .rintro x c g mR ou ⟨rfl,rfl,o⟩;dsimp only;refine aH (pR P O S ∅ ∅ ?_);cases e:κ.blt (KK κ (arrOf g) (lo+x)) (KK κ (arrOf g) (lo+x-1))with
  |true=>exact aW ⟨rfl,x,rfl,∅,∅,o,.inr e⟩
  |false=>exact aW ⟨rfl,rfl,A5 o ∅ e⟩
 .rintro c g ⟨rfl,rfl,o⟩;rw[show max 1 a=a by lia]at o ⊢;exact⟨rfl,a,rfl,∅,∅,o,.inl rfl⟩
 .exact⟨rfl,rfl,one⟩
 rintro c p ⟨rfl,n,rfl,n1,n2,o,hn⟩;dsimp only;refine cT (λe1=>aW (h n p O rfl Wr.same n1 n2 o)) λe1=>?_;have t5:n≠a:=by simpa using e1
 replace hn:κ.klt (KK κ (arrOf p) (lo+n)) (KK κ (arrOf p) (lo+n-1)):=hn.resolve_left t5;refine Tq (J:=λB=>SB f B/\br B=br p/\Wr (arrOf p) (arrOf B) lo a/\oH κ (arrOf B) lo (n+1)) (λen=>⟨O,rfl,Wr.same,λi j r v C=>?_⟩) (λB ⟨cD,fE,t6,hD⟩=>?_) λen key=>?_
 .have en':n=1:=∅
  by_cases hi:i=j
  .subst hi;exact mD _
  .have e1:i=lo+n-1:=∅
   have e2:j=lo+n:=∅
   rw[e1,e2];exact lN hn
 .refine aH (tO (nZ ⟨rfl,?_⟩));refine aH (gU (gW (I:=λx c l=>∃b,c=(ae,x,b)/\SB f l/\br l=br p/\Wr (arrOf p) (arrOf l) lo a/\oH κ (arrOf l) lo x/\b+1<=x/\(∀i,lo+x-(b+1)<=i->i<lo+x->KK κ (arrOf l) i=KK κ (arrOf l) (lo+x-1))) (Q:=λc l=>∃m b,c=(ae,m,b)/\SB f l/\br l=br p/\Wr (arrOf p) (arrOf l) lo a/\1<=m/\m<=a/\oH κ (arrOf l) lo m/\b+1<=m/\(∀i,lo+m-(b+1)<=i->i<lo+m->KK κ (arrOf l) i=KK κ (arrOf l) (lo+m-1))) ?_ ?_ ?_) ?_)
  .rintro x c l mR ou ⟨b,rfl,z,F,y,D,hq,G⟩;have sz3:=y.size;dsimp only;refine aH (pR P z (S.of y.perm) ∅ ∅ ?_);cases e3:κ.blt (KK κ (arrOf l) (lo+x)) (KK κ (arrOf l) (lo+x-1))with
   |true=>
    have hd':oH κ (arrOf l) lo (x+1):=Dz D ∅ (lN e3);dsimp only;rw[if_pos rfl];refine cT (λDi=>?_) λDi=>?_
    .refine aH (uR (κ:=κ) (lo:=lo) (n:=a) z F y ∅ ∅ ∅ ∅ λbS Z i6 T Dj=>?_);have X:=EC Dj G;exact aW ⟨0,rfl,Z,i6,T,λi j r v C=>by rw[X,X];exact hd' i j r v C,∅,λi r v=>by congr 1;lia⟩
    .exact aW ⟨0,rfl,z,F,y,hd',∅,λi r v=>by congr 1;lia⟩
   |false=>
    dsimp only;rw[if_neg (by simp)];refine aH (pR P z (S.of y.perm) ∅ ∅ ?_);cases e4:κ.blt (KK κ (arrOf l) (lo+x-1)) (KK κ (arrOf l) (lo+x))with
    |true=>exact aW ⟨x,b,rfl,z,F,y,∅,∅,D,hq,G⟩
    |false=>have ex:KK κ (arrOf l) (lo+x)=KK κ (arrOf l) (lo+x-1):=KeyOrd.kle_antisymm e4 e3;exact aW ⟨b+1,rfl,z,F,y,Dz D ∅ (by rw[ex];exact mD _),∅,Nt G ex⟩
  .rintro c l ⟨b,rfl,z,F,y,D,hq,G⟩;rw[show max (n+1) a=a by lia]at D hq G ⊢;exact⟨a,b,rfl,z,F,y,∅,∅,D,hq,G⟩
  .exact⟨0,rfl,cD,fE,t6,hD,∅,λi r v=>by congr 1;lia⟩
  rintro c l ⟨m,b,rfl,z,F,y,m1,m2,D,hq,G⟩;dsimp only;refine cT (λDi=>?_) λDi=>?_
  .refine aH (uR (κ:=κ) (lo:=lo) (n:=a) z F y ∅ ∅ ∅ ∅ λbS Z i6 T Dj=>?_);have X:=EC Dj G;have N:oH κ (arrOf bS) lo m:=λi j r v C=>by rw[X,X];exact D i j r v C
   refine aH (uR (κ:=κ) (lo:=lo) (n:=a) Z i6 T ∅ ∅ ∅ ∅ λt Y M H W=>?_);have L:iz κ (arrOf t) lo m:=λi j r v C=>by rw[W,W,if_pos ⟨r,∅⟩,if_pos ⟨∅,C⟩];exact N _ _ ∅ ∅ ∅
   have sz5:=H.size;refine aH (gU (gW (I:=λx c g=>g=t/\c=(ae,x)/\iz κ (arrOf t) lo x) (Q:=λc g=>g=t/\∃n,c=(ae,n)/\1<=n/\n<=a/\iz κ (arrOf t) lo n/\(n=a\/κ.klt (KK κ (arrOf t) (lo+n)) (KK κ (arrOf t) (lo+n-1)))) ?_ ?_ ?_) ?_)
   .rintro x c g mR ou ⟨rfl,rfl,o⟩;dsimp only;refine aH (pR P Y (S.of H.perm) ∅ ∅ ?_);cases e:κ.blt (KK κ (arrOf g) (lo+x)) (KK κ (arrOf g) (lo+x-1))with
    |true=>exact aW ⟨rfl,x,rfl,∅,∅,o,.inr e⟩
    |false=>exact aW ⟨rfl,rfl,A5 o ∅ e⟩
   .rintro c g ⟨rfl,rfl,o⟩;rw[show max m a=a by lia]at o ⊢;exact⟨rfl,a,rfl,∅,∅,o,.inl rfl⟩
   .exact⟨rfl,rfl,L⟩
   rintro c g ⟨rfl,q,rfl,q1,q2,K,_⟩;exact aW (h q g Y M H q1 q2 K)
  .have Z:=z;have i6:=F;have T:=y;have N:=D;refine aH (uR (κ:=κ) (lo:=lo) (n:=a) Z i6 T ∅ ∅ ∅ ∅ λt Y M H W=>?_);have L:iz κ (arrOf t) lo m:=λi j r v C=>by rw[W,W,if_pos ⟨r,∅⟩,if_pos ⟨∅,C⟩];exact N _ _ ∅ ∅ ∅
   have sz5:=H.size;refine aH (gU (gW (I:=λx c g=>g=t/\c=(ae,x)/\iz κ (arrOf t) lo x) (Q:=λc g=>g=t/\∃n,c=(ae,n)/\1<=n/\n<=a/\iz κ (arrOf t) lo n/\(n=a\/κ.klt (KK κ (arrOf t) (lo+n)) (KK κ (arrOf t) (lo+n-1)))) ?_ ?_ ?_) ?_)
   .rintro x c g mR ou ⟨rfl,rfl,o⟩;dsimp only;refine aH (pR P Y (S.of H.perm) ∅ ∅ ?_);cases e:κ.blt (KK κ (arrOf g) (lo+x)) (KK κ (arrOf g) (lo+x-1))with
    |true=>exact aW ⟨rfl,x,rfl,∅,∅,o,.inr e⟩
    |false=>exact aW ⟨rfl,rfl,A5 o ∅ e⟩
   .rintro c g ⟨rfl,rfl,o⟩;rw[show max m a=a by lia]at o ⊢;exact⟨rfl,a,rfl,∅,∅,o,.inl rfl⟩
   .exact⟨rfl,rfl,L⟩
   rintro c g ⟨rfl,q,rfl,q1,q2,K,_⟩;exact aW (h q g Y M H q1 q2 K)
 .refine aH (pR P O S ∅ ∅ ?_);cases e2:κ.blt (KK κ (arrOf p) lo) (KK κ (arrOf p) (lo+n-1))with
  |true=>exact aW (h n p O rfl Wr.same n1 n2 o)
  |false=>
   dsimp only;rw[if_neg (by simp)];have lO:∀i,lo<=i->i<lo+n->KK κ (arrOf p) i=KK κ (arrOf p) lo:=λi r v=>KeyOrd.kle_antisymm (vR (o i (lo+n-1) r ∅ ∅) e2) (o lo i (aY _) r v);refine aH (uR (κ:=κ) (lo:=lo) (n:=a) O rfl Wr.same ∅ ∅ ∅ ∅ λB cD fE t6 ox=>?_);have hD:oH κ (arrOf B) lo (n+1):=by
    have hv:∀i,lo<=i->i<lo+n->KK κ (arrOf B) i=KK κ (arrOf p) lo:=λi r v=>by rw[ox,if_pos ⟨r,v⟩];exact lO _ ∅ ∅
    have hl:κ.klt (KK κ (arrOf B) (lo+n)) (KK κ (arrOf p) lo):=by rw[ox,if_neg ∅,<-lO (lo+n-1) ∅ ∅];exact hn
    intro i j r v C;by_cases hj:j<lo+n
    .rw[hv i r ∅,hv j ∅ hj];exact mD _
    .have jO:j=lo+n:=∅
     subst jO;by_cases hi:i=lo+n
     .subst hi;exact mD _
     .rw[hv i r ∅];exact lN hl
   exact key B ⟨cD,fE,t6,hD⟩
theorem PR{g c:bH}{lo n a b:Nat}{Q:Unit->bH->Prop}(m:SB f c)(o:br c=br g)(l:Wr (arrOf g) (arrOf c) lo n)(t:b<=a)(p:a<(arrOf g).size)(r:lo<=b)(q:a<lo+n)(h:∀i,SB f i->br i=br g->Wr (arrOf g) (arrOf i) lo n->(∀k,KK κ (arrOf i) k=if k=b then KK κ (arrOf c) a else if b<k/\k<=a then KK κ (arrOf c) (k-1)else KK κ (arrOf c) k)->Q () i):wpS (aw d w) A E s (moveDown' a b) Q c:=by
 have j:a<(arrOf c).size:=by rw[l.size];exact p
 rw[moveDown'_eq];refine n_ (h _ ⟨m.kind,m.failed⟩ o (l.trans ((Oe j (show a-b<=a by lia)).mono ∅ ∅)) λk=>?_);have:=KK_bubble (κ:=κ) j (show a-b<=a by lia) k;rw[show a-(a-b)=b by lia]at this;exact this
theorem J7(M:jB κ f d w A s){b:bH}(L:SB f b)(N:AllK κ (arrOf b)){lo n ok:Nat}(K:ok<=n)(H:lo+n<=(arrOf b).size)(J:iz κ (arrOf b) lo ok){Q:Bool->bH->Prop}(h:∀v,SB f v->br v=br b->Wr (arrOf b) (arrOf v) lo n->iz κ (arrOf v) lo n->Q ah v):wpS (aw d w) A E s (binarySort' lo n ok) Q b:=by
 unfold binarySort';refine aH (gU (gW (I:=λk c a=>c=(ae,())/\SB f a/\br a=br b/\Wr (arrOf b) (arrOf a) lo n/\iz κ (arrOf a) lo (min k n)) (Q:=λc a=>c=(ae,())/\SB f a/\br a=br b/\Wr (arrOf b) (arrOf a) lo n/\iz κ (arrOf a) lo n) ?_ ?_ ?_) ?_)
 .rintro k c a gE cD ⟨rfl,p,u,o,g⟩;have sz:=o.size;rw[show min k n=k by lia]at g;refine aH (gU (gW (I:=λx c m=>m=a/\∃l r,c=(ae,l,r)/\l<=r/\r<=k/\r-l<=k-x /\ (∀i,i<l->κ.kle (KK κ (arrOf a) (lo+i)) (KK κ (arrOf a) (lo+k)))/\(∀i,r<=i->i<k->κ.klt (KK κ (arrOf a) (lo+k)) (KK κ (arrOf a) (lo+i)))) (Q:=λc m=>m=a/\∃l r,c=(ae,l,r)/\l<=k /\ (∀i,i<l->κ.kle (KK κ (arrOf a) (lo+i)) (KK κ (arrOf a) (lo+k)))/\(∀i,l<=i->i<k->κ.klt (KK κ (arrOf a) (lo+k)) (KK κ (arrOf a) (lo+i)))) ?_ ?_ ?_) ?_)
  .rintro x c m _ Y ⟨rfl,l,r,rfl,X,y,W,t,q⟩;dsimp only;refine cT (λS=>?_) λS=>?_
   .have:l=r:=∅
    subst this;exact aW ⟨rfl,l,l,rfl,y,t,q⟩
   .refine aH (pR M p (N.of o.perm) ∅ ∅ ?_);cases e:κ.blt (KK κ (arrOf m) (lo+k)) (KK κ (arrOf m) (lo+(l+r) / 2))with
    |true=>exact aW ⟨rfl,l,(l+r) / 2,rfl,∅,∅,∅,t,λi B O=>KeyOrd.klt_of_klt_of_kle e (g _ _ ∅ ∅ ∅)⟩
    |false=>exact aW ⟨rfl,(l+r) / 2+1,r,rfl,∅,∅,∅,λi B=>vR (g (lo+i) (lo+(l+r) / 2) ∅ ∅ ∅) e,q⟩
  .rintro c m ⟨rfl,l,r,rfl,X,y,W,t,q⟩;have:l=r:=∅
   subst this;exact⟨rfl,l,l,rfl,y,t,q⟩
  .exact⟨rfl,0,k,rfl,∅,∅,∅,λi Z=>∅,λi B O=>∅⟩
  .rintro c m ⟨rfl,l,r,rfl,y,t,q⟩;dsimp only;refine aH (PR (κ:=κ) (lo:=lo) (n:=n) p u o ∅ ∅ ∅ ∅ λbF z P G C=>aW ⟨rfl,z,P,G,?_⟩);rw[show min (k+1) n=k+1 by lia];intro i j F D T;rw[C,C]
   repeat' split
   all_goals first
    | (exfalso;lia)
    |exact mD _
    | (have:=t (i-lo) ∅;rw[show lo+(i-lo)=i by lia]at this;exact this)
    | (have:=q (j-1-lo) ∅ ∅;rw[show lo+(j-1-lo)=j-1 by lia]at this;exact lN this)
    |exact g _ _ ∅ ∅ ∅
 .rintro c a ⟨rfl,p,u,o,g⟩;rw[show min (max (max ok 1) n) n=n by lia]at g;exact⟨rfl,p,u,o,g⟩
 .refine⟨rfl,L,rfl,Wr.same,λi j F D T=>?_⟩;by_cases B:ok=0
  .have:i=j:=∅
   subst this;exact mD _
  .exact J i j F D ∅
 .rintro c a ⟨rfl,p,u,o,g⟩;exact aW (h a p u o g)
end
theorem PB{c:Prop}[Decidable c]{a b n:Nat}(f:a+1<n)(d:b+1<n):(if c then a else b)+1<n:=by split <;> assumption
def kY:Nat->List (Nat×Nat)->Nat->Prop
 |f,[],t=>f=t
 |f,(a,n)::l,t=>a=f/\0<n/\kY (f+n) l t
theorem kY.app:∀{l1:List (Nat×Nat)}{f t:Nat}{b:List (Nat×Nat)},kY f (l1++b) t↔∃m,kY f l1 m/\kY m b t
 |[],f,t,b=>by simp[kY]
 | (a,n)::l1,f,t,b=>by
  simp only[kF,kY,kY.app (l1:=l1)];constructor
  .rintro⟨h,g,m,d,c⟩;exact⟨m,⟨h,g,d⟩,c⟩
  .rintro⟨m,⟨h,g,d⟩,c⟩;exact⟨h,g,m,d,c⟩
theorem kY.le:∀{l:List (Nat×Nat)}{f t:Nat},kY f l t->f+l.length<=t/\∀e∈l,f<=e.1/\e.1+e.2<=t
 |[],f,t,h=>⟨by cases h;simp,by simp⟩
 | (a,n)::l,f,t,⟨g,j,d⟩=>by
  obtain⟨i,c⟩:=kY.le d;refine⟨by simp;lia,λe b=>?_⟩;rcases bE.mp b with rfl|b
  .subst g;exact⟨aY _,by simp;lia⟩
  .have:=c e b;exact⟨∅,this.2⟩
def PL(a:Array (Nat×Nat×Nat)):List (Nat×Nat):=a.toList.map λe=>(e.1,e.2.1)
structure ji(κ:KeyKind)(arr:Array Keyed)(pd:Array (Nat×Nat×Nat))(lo:Nat):Prop where
 ch:kY 0 (PL pd) lo
 run:∀e∈PL pd,Run κ arr e.1 e.2
theorem x_(a:Array (Nat×Nat×Nat)):(PL a).length=a.size:=by simp[PL]
theorem oJ(a:Array (Nat×Nat×Nat))(e:Nat×Nat×Nat):PL (a.push e)=PL a++[(e.1,e.2.1)]:=by simp[PL]
theorem xG(a:Array (Nat×Nat×Nat))(k pw:Nat):PL (a.modify k λx=>(x.1,x.2.1,pw))=PL a:=by
 apply vP;intro i;simp only[PL,kD,zp,Array.getElem?_modify];split
 .cases a[i]? <;> rfl
 .rfl
theorem Om{j:Array (Nat×Nat×Nat)}{i:Nat}(h:i+1<j.size):∃a f b d g sb c m,j[i]?=aa (b,d,g)/\j[i+1]?=aa (sb,c,m)/\PL j=a++(b,d)::(sb,c)::f /\ PL ((j.setIfInBounds i (b,d+c,g)).eraseIdxIfInBounds (i+1))=a++(b,d+c)::f:=by
 obtain⟨l⟩:=j;simp only[cg]at h;have e:l=l.take i++l[i]::l[i+1]::l.drop (i+2):=by rw[<-zr,<-zr,my]
 obtain⟨a,x,y,f,n,p⟩:∃a x y f,a.length=i/\l=a++x::y::f:=⟨l.take i,l[i],l[i+1],l.drop (i+2),by simp;lia,e⟩
 subst n p;obtain⟨b,d,g⟩:=x;obtain⟨sb,c,m⟩:=y;refine⟨a.map λe=>(e.1,e.2.1),f.map λe=>(e.1,e.2.1),b,d,g,sb,c,m,by simp,by simp[qF],by simp[PL],?_⟩;have o:((a++(b,d,g)::(sb,c,m)::f).toArray.setIfInBounds a.length (b,d+c,g)).eraseIdxIfInBounds (a.length+1)=(a++(b,d+c,g)::f).toArray:=by rw[List.setIfInBounds_toArray,List.set_append_right _ _ (aY _),List.eraseIdxIfInBounds_toArray];congr 1;rw[List.eraseIdx_append_of_length_le ∅];simp
 rw[o];simp[PL]
section
variable{prog:aQ}{w:aE}{A:aT}{E:ai->am->Prop}{s:am}{κ:KeyKind}{kz:jr}
theorem ji.keep{a f:Array Keyed}{c:Array (Nat×Nat×Nat)}{b n:Nat}(h:ji κ a c b)(w:Wr a f b n):ji κ f c b :=⟨h.ch,λe d=>(h.run e d).keep w (.inl (h.ch.le.2 e d).2)⟩
theorem Bf(H:jB κ kz prog w A s){a:bH}(F:SB kz a)(I:AllK κ (arrOf a)){i l:Nat}(g:ji κ (arrOf a) (br a) l)(D:l<=(arrOf a).size)(G:i+1<(br a).size){Q:Bool->bH->Prop}(h:∀c,SB kz c->Wr (arrOf a) (arrOf c) 0 l->ji κ (arrOf c) (br c) l->(br c).size+1=(br a).size->Q ah c):wpS (aw prog w) A E s (mergeAt' i) Q a:=by
 obtain⟨W,T,f,j,S,sb,t,P,K,J,d,p⟩:=Om G;have u:=g.ch;rw[d]at u;obtain⟨m,x,O,N,M,L,v⟩:=kY.app.mp u;subst O M;have b1:=x.le;have b2:=v.le;have z:Run κ (arrOf a) f j:=g.run (f,j) (by rw[d];simp);have y:Run κ (arrOf a) (f+j) t:=g.run (f+j,t) (by rw[d];simp);refine QA H F I K J N L ∅ z y λc B n o C=>h c B (o.mono ∅ ∅) ⟨?_,?_⟩ ?_
 .rw[n,p];exact kY.app.mpr ⟨f,x,rfl,∅,by rw[<-ph];exact v⟩
 .rw[n,p];intro e b;rcases jm.mp b with b|b
  .exact(g.run e (by rw[d];exact qB _ b)).keep o (.inl (b1.2 e b).2)
  .rcases bE.mp b with rfl|b
   .exact C
   .exact(g.run e (by rw[d];simp[b])).keep o (.inr (by have:=(b2.2 e b).1;lia))
 .have r:=x_ (br c);have q:=x_ (br a);rw[n,p]at r;rw[d]at q;rw[n,<-r,<-q];simp;lia
theorem Lf(hO:jB κ kz prog w A s){st:bH}(hk:SB kz st)(hA:AllK κ (arrOf st))(hp:br st=#[]){Q:Unit->bH->Prop}(h:∀aA,SB kz aA->(arrOf aA).toList.Perm (arrOf st).toList->Run κ (arrOf aA) 0 (arrOf st).size->Q () aA):wpS (aw prog w) A E s sortRuns' Q st:=by
 unfold sortRuns';refine aH (lM ?_);dsimp only;obtain⟨b,Ua⟩:∃b,b=(arrOf st).size:=⟨_,rfl⟩
 have T3:((sortPriv% PySem.Builtin.SortState.a) st).size=b:=Ua.symm;simp only[T3];refine aH (gU (gW (I:=λx c o=>∃f,c=(ae,f)/\x<=f/\f<=b/\SB kz o/\(arrOf o).toList.Perm (arrOf st).toList/\(arrOf o).size=b/\ji κ (arrOf o) (br o) f) (Q:=λc o=>c=(ae,b)/\SB kz o/\(arrOf o).toList.Perm (arrOf st).toList/\(arrOf o).size=b/\ji κ (arrOf o) (br o) b) ?_ ?_ ?_) ?_);rotate_left
 .rintro c o ⟨f,rfl,b1,b2,gE,K,T,N⟩;have:f=b:=∅
  subst this;exact⟨rfl,gE,K,T,N⟩
 .exact⟨0,rfl,∅,∅,hk,tF _,Ua.symm,by rw[hp];exact⟨rfl,by simp[PL]⟩⟩
 .rintro c o ⟨rfl,gE,K,T,N⟩;dsimp only;refine aH (gU (gW (I:=λx c l=>c=(ae,())/\SB kz l/\(arrOf l).toList.Perm (arrOf st).toList/\(arrOf l).size=b/\ji κ (arrOf l) (br l) b/\(br l).size+x<=b+1) (Q:=λc l=>c=(ae,())/\SB kz l/\(arrOf l).toList.Perm (arrOf st).toList/\(arrOf l).size=b/\ji κ (arrOf l) (br l) b/\(br l).size<=1) ?_ ?_ ?_) ?_)
  .rintro x c l _ hx ⟨rfl,D,Z,iy,O,hb⟩;refine aH (lM ?_);refine cT (λe1=>aW ⟨rfl,D,Z,iy,O,e1⟩) λe1=>?_;have t5:1<(br l).size:=Nat.lt_of_not_le e1;refine aH (Bf hO D (hA.of Z) O ∅ ?_ λM L j_ F hq=>?_)
   .exact PB (show(br l).size-2-1+1<(br l).size by lia) (show(br l).size-2+1<(br l).size by lia)
   .exact aW ⟨rfl,L,j_.perm.trans Z,j_.size.trans iy,F,∅⟩
  .rintro c l ⟨rfl,D,Z,iy,O,hb⟩;exact⟨rfl,D,Z,iy,O,∅⟩
  .have:=N.ch.le.1;rw[x_]at this;exact⟨rfl,gE,K,T,N,∅⟩
  .rintro c l ⟨rfl,D,Z,iy,O,hb⟩;refine aW (h l D Z ?_);rw[<-Ua];have hc:=O.ch;have hr:=O.run;have hl:=x_ (br l)
   match hq:PL (br l),hc,hr,hl with
   |[],hc,hr,hl=>
    cases hc;intro i j x y a1 a2 a3;lia
   |[(a,n)],hc,hr,hl=>
    obtain⟨d1,d2,d3⟩:=hc;cases d1;have d3':0+n=b:=d3;have:=hr (0,n) (by simp);rw[show b=n by lia];exact this
   |_::_::_,hc,hr,hl=>simp at hl;lia
 rintro x c o _ hx ⟨f,rfl,b1,b2,gE,K,T,N⟩;dsimp only;refine cT (λe1=>?_) λe1=>?_
 .have:f=b:=∅
  subst this;exact aW ⟨rfl,gE,K,T,N⟩
 refine aH (K3 hO gE (hA.of K) ∅ ∅ λr l D wJ t6 f1 f2 om=>?_);dsimp only;refine cT (λe2=>?_) λe2=>?_
 .refine aH (tO (nZ ⟨rfl,?_⟩));refine aH (J7 hO D ((hA.of K).of t6.perm) ∅ (by rw[t6.size];lia) om λM L hq3 j_ X=>?_);rw[if_neg (by simp)];have J:Wr (arrOf o) (arrOf M) f (b-f):=t6.trans (j_.mono ∅ ∅);have wK:br M=br o:=hq3.trans wJ;generalize hn:min (b-f) _=n at *;have n1:0<n:=∅
  have n2:f+n<=b:=∅
  clear D t6 om wJ j_ hq3;have F:ji κ (arrOf M) (br M) f:=by rw[wK];exact N.keep J
  have gh:(arrOf M).toList.Perm (arrOf st).toList:=J.perm.trans K;have mM:(arrOf M).size=b:=J.size.trans T;have hR:Run κ (arrOf M) f n:=X.run;clear J wK;refine aH (lM ?_);obtain⟨kd,arr,S,mg,fl⟩:=M;dsimp only;cases hbk:S.back? with
  |none=>
   dsimp only;refine aH (n_ (aW ⟨f+n,rfl,∅,n2,⟨L.kind,L.failed⟩,gh,mM,?_⟩));refine⟨?_,?_⟩
   .show kY 0 (PL (S.push (f,n,0))) _;rw[oJ];exact kY.app.mpr ⟨f,F.ch,rfl,n1,rfl⟩
   .show ∀e∈PL (S.push (f,n,0)),_;rw[oJ];intro e m;rcases jm.mp m with m|m
    .exact F.run e m
    .rw[fe.mp m];exact hR
  |some bk=>
   obtain⟨s1,m1,q1⟩:=bk;dsimp only;refine aH (gU (gW (I:=λx c g=>c=(ae,())/\SB kz g/\(arrOf g).toList.Perm (arrOf st).toList/\(arrOf g).size=b/\ji κ (arrOf g) (br g) f/\Run κ (arrOf g) f n) (Q:=λc g=>c=(ae,())/\SB kz g/\(arrOf g).toList.Perm (arrOf st).toList/\(arrOf g).size=b/\ji κ (arrOf g) (br g) f/\Run κ (arrOf g) f n) ?_ (λ_ _ hh=>hh) ?_) ?_)
   .rintro y c g _ hy ⟨rfl,z,B,H,t,G⟩;refine aH (lM ?_);have vZ:∀{p:bH},p=g->((ae,()):Option Unit×Unit)=(ae,())/\SB kz p/\(arrOf p).toList.Perm (arrOf st).toList/\(arrOf p).size=b/\ji κ (arrOf p) (br p) f/\Run κ (arrOf p) f n:=λe=>by subst e;exact⟨rfl,z,B,H,t,G⟩
    by_cases hg:1<(br g).size
    .obtain⟨v,q,d,u,C⟩:=g;have W:d.size > 1:=hg;dsimp only;rw[if_pos W,getElem?_pos d (d.size-2) ∅];obtain⟨u1,u2,u3⟩:=d[d.size-2];dsimp only;refine cT (λ_=>aW (vZ rfl)) λ_=>?_;refine aH (Bf hO z (hA.of B) t ∅ (show d.size-2+1<d.size by lia) λp oy P Y _=>?_);exact aW ⟨rfl,oy,P.perm.trans B,P.size.trans H,Y,G.keep P (.inr ∅)⟩
    .obtain⟨v,q,d,u,C⟩:=g;have W:¬d.size > 1:=hg;dsimp only;rw[if_neg W];exact aW (vZ rfl)
   .exact⟨rfl,L,gh,mM,F,hR⟩
   rintro c g ⟨rfl,z,B,H,t,G⟩;obtain⟨v,q,d,u,C⟩:=g;dsimp only;refine aH (n_ (aH (n_ (aW ⟨f+n,rfl,∅,n2,⟨z.kind,z.failed⟩,B,H,?_⟩))));refine⟨?_,?_⟩
   .show kY 0 (PL ((d.modify (d.size-1) λx=>(x.1,x.2.1,_)).push (f,n,0))) _;rw[oJ,xG];exact kY.app.mpr ⟨f,t.ch,rfl,n1,rfl⟩
   .show ∀e∈PL ((d.modify (d.size-1) λx=>(x.1,x.2.1,_)).push (f,n,0)),_;rw[oJ,xG];intro e m;rcases jm.mp m with m|m
    .exact t.run e m
    .rw[fe.mp m];exact G
 .have L:=D;have X:=om;have J:Wr (arrOf o) (arrOf l) f (b-f):=t6;have wK:br l=br o:=wJ;have n1:0<r:=∅
  have n2:f+r<=b:=∅
  have F:ji κ (arrOf l) (br l) f:=by rw[wK];exact N.keep J
  have gh:(arrOf l).toList.Perm (arrOf st).toList:=J.perm.trans K;have mM:(arrOf l).size=b:=J.size.trans T;have hR:Run κ (arrOf l) f r:=X.run;clear J wK;refine aH (lM ?_);obtain⟨kd,arr,S,mg,fl⟩:=l;dsimp only;cases hbk:S.back? with
  |none=>
   dsimp only;refine aH (n_ (aW ⟨f+r,rfl,∅,n2,⟨L.kind,L.failed⟩,gh,mM,?_⟩));refine⟨?_,?_⟩
   .show kY 0 (PL (S.push (f,r,0))) _;rw[oJ];exact kY.app.mpr ⟨f,F.ch,rfl,n1,rfl⟩
   .show ∀e∈PL (S.push (f,r,0)),_;rw[oJ];intro e m;rcases jm.mp m with m|m
    .exact F.run e m
    .rw[fe.mp m];exact hR
  |some bk=>
   obtain⟨s1,m1,q1⟩:=bk;dsimp only;refine aH (gU (gW (I:=λx c g=>c=(ae,())/\SB kz g/\(arrOf g).toList.Perm (arrOf st).toList/\(arrOf g).size=b/\ji κ (arrOf g) (br g) f/\Run κ (arrOf g) f r) (Q:=λc g=>c=(ae,())/\SB kz g/\(arrOf g).toList.Perm (arrOf st).toList/\(arrOf g).size=b/\ji κ (arrOf g) (br g) f/\Run κ (arrOf g) f r) ?_ (λ_ _ hh=>hh) ?_) ?_)
   .rintro y c g _ hy ⟨rfl,z,B,H,t,G⟩;refine aH (lM ?_);have vZ:∀{p:bH},p=g->((ae,()):Option Unit×Unit)=(ae,())/\SB kz p/\(arrOf p).toList.Perm (arrOf st).toList/\(arrOf p).size=b/\ji κ (arrOf p) (br p) f/\Run κ (arrOf p) f r:=λe=>by subst e;exact⟨rfl,z,B,H,t,G⟩
    by_cases hg:1<(br g).size
    .obtain⟨v,q,d,u,C⟩:=g;have W:d.size > 1:=hg;dsimp only;rw[if_pos W,getElem?_pos d (d.size-2) ∅];obtain⟨u1,u2,u3⟩:=d[d.size-2];dsimp only;refine cT (λ_=>aW (vZ rfl)) λ_=>?_;refine aH (Bf hO z (hA.of B) t ∅ (show d.size-2+1<d.size by lia) λp oy P Y _=>?_);exact aW ⟨rfl,oy,P.perm.trans B,P.size.trans H,Y,G.keep P (.inr ∅)⟩
    .obtain⟨v,q,d,u,C⟩:=g;have W:¬d.size > 1:=hg;dsimp only;rw[if_neg W];exact aW (vZ rfl)
   .exact⟨rfl,L,gh,mM,F,hR⟩
   rintro c g ⟨rfl,z,B,H,t,G⟩;obtain⟨v,q,d,u,C⟩:=g;dsimp only;refine aH (n_ (aH (n_ (aW ⟨f+r,rfl,∅,n2,⟨z.kind,z.failed⟩,B,H,?_⟩))));refine⟨?_,?_⟩
   .show kY 0 (PL ((d.modify (d.size-1) λx=>(x.1,x.2.1,_)).push (f,r,0))) _;rw[oJ,xG];exact kY.app.mpr ⟨f,t.ch,rfl,n1,rfl⟩
   .show ∀e∈PL ((d.modify (d.size-1) λx=>(x.1,x.2.1,_)).push (f,r,0)),_;rw[oJ,xG];intro e m;rcases jm.mp m with m|m
    .exact t.run e m
    .rw[fe.mp m];exact G
end
theorem AN{n:Nat}(h:n<=1000000):n<a_:=vJ h (by decide)
theorem Run.sortedTo{κ:KeyKind}{a:Array Keyed}{n:Nat}(h:Run κ a 0 n)(c:n<=a.size):SortedToK κ a n:=by intro i j b d;have:=h i j _ _ (j4 _) b ∅ (getElem?_pos a i ∅) (getElem?_pos a j ∅);rw[yi (show i<a.size by lia),yi (show j<a.size by lia)];exact this
theorem KeysOf.all{κ:KeyKind}{a:Array Keyed}(h:KeysOf κ a):AllK κ a:=λi b=>h _ (by simp)
section
variable{P:aQ}{w:aE}{A:aT}{E:ai->am->Prop}{s:am}
theorem Lj{κ:KeyKind}{kz:jr}{a:ag}{c:List ai}{n:Nat}{F:Fin->am->Prop}(q:s.heap.get? a=aa (ff "list" c.toArray n))(I:KeysOf κ (mE c))(B:c.length<=1000000)(C:∀r:aB,(∀b o,b≠a->s.heap.get? b=aa o->r.get? b=aa o)->2<=c.length->jB κ kz P w A {s with heap:=r}/\∀{E:ai->am->Prop}{Q:jr->am->Prop},Q kz {s with heap:=r}->ar (aw P w) A (keyKind' c.toArray) Q E {s with heap:=r})(h:∀d:bH,(arrOf d).Perm (mE c)->SortedToK κ (arrOf d) (mE c).size->F (.done (.ret .none)) {s with heap:=sortedHeap s.heap a c ((arrOf d).map (·.2))}):ar (aw P w) A (Builtin.«list.sort» ⟨[.ref a],[]⟩) F E s:=by
 rw[list_sort_plain];have y:a<s.heap.objs.size:=bK q;have x:c.length<=a_:=mn (AN B);refine ap (listItems_at q rfl ?_);refine ap (CA q rfl ?_);obtain⟨t,v⟩:∃t,(s.heap.update a (io λ_=>#[])).get? a=aa (ff "list" #[] t):=⟨_,zq q (λ_=>#[])⟩
 refine ap (seqEpoch_at v rfl ?_);refine ap (wpAny_newTuple ?_ (hsz:=by rw[IL];exact x));refine ap (wpAny_newList ?_);refine jn ?_;have l:(((s.heap.update a (io λ_=>#[])).push (ff "tuple" c.toArray 0)).push (ff "list" #[] 0)).get? a=aa (ff "list" #[] t):=by rw[Heap.get?_push_ne _ _ _ (by rw[j5,IU];exact cY (lg y)),Heap.get?_push_ne _ _ _ (by rw[IU];exact cY y)];exact v
 have keep:∀b o,b≠a->s.heap.get? b=aa o->(((s.heap.update a (io λ_=>#[])).push (ff "tuple" c.toArray 0)).push (ff "list" #[] 0)).get? b=aa o:=λb o m e=>bn _ (bn _ (by rw[IT _ _ _ _ m];exact e));show ar (aw P w) A _ F E {s with heap:=((s.heap.update a (io λ_=>#[])).push (ff "tuple" c.toArray 0)).push (ff "list" #[] 0)};dsimp only;have f:∀d:bH,failedOf d=ae->(arrOf d).Perm (mE c)->SortedToK κ (arrOf d) (mE c).size ->
   ar (aw P w) A (do
    let touched:=(<-seqEpoch a) != t
    Builtin.List.listUpdate (.ref a) λ_=>(arrOf d).map (·.2)
    if let aa e:=failedOf d then rule "list.sort.comparison-raised";throw e
    if touched then rule "list.sort.modified";raiseError "ValueError" "list modified during sort"
    ret .none) F E {s with heap:=((s.heap.update a (io λ_=>#[])).push (ff "tuple" c.toArray 0)).push (ff "list" #[] 0)}:=λd m p u=>by
  refine ap (seqEpoch_at l rfl ?_);refine ap (CA l rfl ?_ (hsz2:=by refine cQ (mx ((Array.size_map ..).trans (p.size_eq.trans (pairsOf_size _)))) (Nat.le_succ_of_le x)));rw[m];simp only[bne_self_eq_false,mz,if_false];exact aG (h d p u)
 by_cases g:c.toArray.size<2
 .rw[if_pos g,if_pos g];refine ap (aG ?_);refine ap (aG ?_);refine f (SortSt.mk' general' (c.toArray.zip c.toArray) #[] 7 ae) rfl (Array.Perm.refl _) λi j M D=>?_;have:i=j:=by rw[pairsOf_size]at D;rw[cg]at g;lia
  subst this;exact mD _
 .rw[if_neg g,if_neg g];obtain⟨G,H⟩:=C _ keep (by rw[cg]at g;lia);refine ap (H ?_);refine ap (ez (Lf (κ:=κ) (kz:=kz) G (st:=SortSt.mk' kz (c.toArray.zip c.toArray) #[] 7 ae) (Q:=λ_ d=>SB kz d/\(arrOf d).toList.Perm (mE c).toList/\Run κ (arrOf d) 0 (mE c).size) ⟨rfl,rfl⟩ (KeysOf.all I) rfl λd L K J=>⟨L,K,J⟩) ?_ λ_ _ e=>e);rintro⟨⟨⟩,d⟩ s' ⟨rfl,m,p,u⟩;have z:(arrOf d).Perm (mE c):=Jd.mpr p;exact f d m.failed z (u.sortedTo (by rw[z.size_eq];exact aY _))
theorem RZ{g:KeyKind}(o:g.OneLt){a:ag}{d:List ai}{n:Nat}{F:Fin->am->Prop}(m:s.heap.get? a=aa (ff "list" d.toArray n))(p:KeysOf g (mE d)) (j:∀c b rest,d=c::b::rest->keyKind' (c::b::rest).toArray=pure oneType') (l:d.length<=1000000)(h:∀i:bH,(arrOf i).Perm (mE d)->SortedToK g (arrOf i) (mE d).size->F (.done (.ret .none)) {s with heap:=sortedHeap s.heap a d ((arrOf i).map (·.2))}):ar (aw P w) A (Builtin.«list.sort» ⟨[.ref a],[]⟩) F E s :=
 Lj m p l (λr _ f=>⟨OneLt.ok o,λq=>by
  obtain⟨c,b,rest,rfl⟩:∃c b rest,d=c::b::rest:=by
   match d,f with
   |[],f=>simp at f
   |[_],f=>simp at f
   |c::b::rest,_=>exact⟨c,b,rest,rfl⟩
  rw[j _ _ _ rfl];exact aG q⟩) h
theorem FZ{v:ai}{Q:ai->am->Prop}(u:ar (aw P w) A.in1 (collect v) (λd s1=>∃ss:List Str,eP d ss/\d.length<=1000000/\∀(i:aB) (out:Array ai) (f:List Str) (e:Nat),(∀b o,s1.heap.get? b=aa o->i.get? b=aa o) -> i.get? s1.heap.objs.size=aa (ff "list" out e)->eP out.toList f->f.Perm ss->sortedS f=ah->Q (.ref s1.heap.objs.size) {s1 with heap:=i}) E s):ar (aw P w) A (call (.builtin "sorted") [v]) Q E s:=by refine Calls.call_function_entry kind_sorted plain_sorted entry_sorted (args_sorted1 _) ?_;unfold Builtin.«sorted»;refine ap (m:=checkCount "sorted" 1 1 _) (aG ?_);refine ap (aL u λd s1 ζ=>?_);obtain⟨ss,h,p,j⟩:=ζ;refine ap (wpAny_newList ?_);have g:(s1.heap.push (ff "list" d.toArray 0)).get? s1.heap.objs.size=aa (ff "list" d.toArray 0):=cy _ rfl;refine ap (jn (vE slot_list_sort ⟨_,g,rfl⟩ entry_list_sort (RZ strKind_oneLt g h.keysOf (λa b c e=>keyKind_strs (by rw[<-e];exact h)) p λx r q=>⟨_,rfl,?_⟩) (args_list_sort _)));obtain⟨f,B,z,y⟩:=sorted_out_str h r q;obtain⟨e,t⟩:=sortedHeap_at (out:=(arrOf x).map (·.2)) g;refine aG ⟨_,rfl,j _ _ f e (λb o l=>?_) t B z y⟩;have n:b<s1.heap.objs.size:=bK l;rw[sortedHeap_old (cY n) (by rw[j5];exact lg n)];exact bn _ l
end
section
variable{X:Cx}
theorem Inv.sorted2{h:List (ag×Obj)}{g:St}{H:Hp}{s1:am}{c:List Tx}{ss d:List Str}{f:aB}{a:Array ai}{e:Nat}(I:Inv X h g H s1)(l:ss=c.map tS)(s:c.length<=1000000)(k:∀b o,s1.heap.get? b=aa o->f.get? b=aa o) (j:f.get? s1.heap.objs.size=aa (ff "list" a e)) (r:eP a.toList d) (q:d.Perm ss) (p:sortedS d=ah):Inv X h g (upd H s1.heap.objs.size (.lst (dG (aR c)))) {s1 with heap:=f}:=by
 have n:d.map (λz=>z.cps.toList)=aR c:=by
  refine u5 ?_ (SO p);have:=q.map λz=>z.cps.toList;rw[l,eJ]at this;have m:(c.map ((λz:Str=>z.cps.toList) ∘ tS))=c:=by simp[Function.comp_def,oX]
  rw[m]at this;exact this
 have i:bv (dG (aR c)) a.toList:=by rw[<-n];exact Ph r
 refine I.laid (t':=s1.toks) k (aY _) ⟨?_,a.toList,e,i,?_⟩
 .rw[yv,Bw];exact mn (AN ∅)
 .rw[Array.toArray_toList];exact j
theorem rV:eM X (.builtin "sorted") (λxs H Q=>∃(p:ag) (d:List Tx),xs=[.ref p]/\(cE X.K H p (dG d)\/cW X.K H p (dG d))/\d.length<=1000000/\∀l,H l=ae->Q (.ref l) (upd H l (.lst (dG (aR d))))):=by
 intro E s v H xs K Q I r h;obtain⟨p,d,rfl,f,z,q⟩:=h;obtain⟨u,rfl,w⟩:=vals1 r;cases w;have b:∀(T:String) (o:Obj) (a:List ai) (n:Nat),(T = "list"\/T = "tuple")->s.heap.get? p=aa o->o.cls=.type T->o.data=.seq a.toArray n->bv (dG d) a ->
   ar (aw X.prog X.w) X.A (call (.builtin "sorted") [Value.ref p]) (EP X E v Q) X.xe s:=λT o a n D j i g c=>by
  have C:=c.length;rw[yv]at C;have m:=AN (n:=a.length) ∅;refine FZ (wpAny_collect_seq p D j i g (λL A=>?_) (by rw[cg];lia));have t:=I.kept (t':=s.toks) A;refine⟨_,zM c,by rw[IL];lia,λM y N e k j J G F=>?_⟩;exact⟨.ref _,_,Inv.sorted2 t rfl z k j J G F,rfl,q _ t.fresh⟩
 rcases f with f|f
 .obtain⟨a,c,x,B⟩:=I.list f;obtain⟨o,e,i,n,g⟩:=x.isList;exact b "list" o a n (.inl rfl) e i g c
 .obtain⟨a,c,⟨o,e,i,n,g⟩,B⟩:=I.tuple f;exact b "tuple" o a n (.inr rfl) e i g c
end
end L2
namespace Pu
open L2
section
variable{X:Cx}{K:ax}
def lv:List PV->Option PO
 |[.lst xs]=>(gA xs).bind λa=>if a.length<=1000000 then aa (.lst (ao (aR a)))else ae
 |[.tup xs]=>(gA xs).bind λa=>if a.length<=1000000 then aa (.lst (ao (aR a)))else ae
 |_=>ae
theorem sP:l0 K (λxs H Q=>∃(p:ag) (b:List Tx),xs=[.ref p]/\(cE K H p (dG b)\/cW K H p (dG b))/\b.length<=1000000/\∀l,H l=ae->Q (.ref l) (upd H l (.lst (dG (aR b))))) lv:=λF H xs w Q n u m e q=>by
 have f:∀{g:List PV}{c:List V}{a:ag},((gA g).bind λb=>if b.length<=1000000 then aa (PO.lst (ao (aR b)))else ae)=aa n->Reps K H F g c->(cE K H a c\/cW K H a c) ->
   ∃(p:ag) (b:List Tx),[V.ref a]=[.ref p]/\(cE K H p (dG b)\/cW K H p (dG b))/\b.length<=1000000/\∀l,H l=ae->Q (.ref l) (upd H l (.lst (dG (aR b)))):=λ{g c a} e d s=>by
  cases h:gA g with
  |none=>rw[h]at e;cases e
  |some b=>
   rw[h]at e;simp only[gT]at e;split at e
   .rename_i o;cases e;rw[rJ h]at d;obtain⟨rfl,t⟩:=Ul.mp d;refine⟨a,b,rfl,s,o,λl i=>q l F _ _ (Al.new0 i) (xy i (Ul.mpr ⟨rfl,λx r=>t x ((eY b).mem_iff.mp r)⟩)) (xK i u trivial)⟩
   .cases e
 unfold lv at e;split at e
 .obtain⟨v,rfl,a,c,rfl,j,_,d⟩:=gH m;exact f e d (.inl (.inl j))
 .obtain⟨v,rfl,a,c,rfl,j,d⟩:=gH m;exact f e d (.inr (cW.of j))
 .cases e
end
end Pu
namespace L2
theorem P9(n:Nat):sliceRange ((n:Int)-1) (-1) (-1)=(cz n).map λk=>n-1-k:=by
 unfold sliceRange;have e:(if(-1:Int) > 0 then if(n:Int)-1 < -1 then(-1-((n:Int)-1) + -1-1) / -1 else 0 else if(n:Int)-1 > -1 then((n:Int)-1 - -1 - -1-1) / - -1 else 0).toNat=n:=by
  rw[if_neg (by decide)];split
  .rw[show(- -1:Int)=1 from rfl,Cm];lia
  .lia
 show(cz (if(-1:Int) > 0 then if(n:Int)-1 < -1 then(-1-((n:Int)-1) + -1-1) / -1 else 0 else if(n:Int)-1 > -1 then((n:Int)-1 - -1 - -1-1) / - -1 else 0).toNat).map _=_;rw[e];refine gC λk _=>?_;lia
theorem E5{a b:Type}{f g:a->Option b}:∀{l:List a},(∀k∈l,f k=g k)->l.filterMap f=l.filterMap g
 |[],_=>rfl
 |x::l,h=>by rw[qA,qA,h x (by simp),E5 λk c=>h k (by simp[c])]
theorem Tt{b:Type}(l:List b):((cz l.length).map λk=>l.length-1-k).filterMap (λi=>l[i]?)=l.reverse:=by
 have h:∀k,k<l.length->l[l.length-1-k]?=l.reverse[k]?:=λk a=>by rw[List.getElem?_reverse a]
 have e:((cz l.length).map λk=>l.length-1-k).filterMap (λi=>l[i]?)=(cz l.length).filterMap λk=>l.reverse[k]?:=by rw[List.filterMap_map];exact E5 λk a=>h k (vy.mp a)
 rw[e];have:=Fd l.reverse 0 l.length;simp only[mC,List.map_id',pe]at this;rw[this,ip (by simp)]
def sr(z:Str):Str:=⟨z.cps.toList.reverse.toArray⟩
theorem KO(l:Tx):sr (tS l)=tS l.reverse:=by simp[sr,tS]
section
variable{X:Cx}{e f:az}{c:TE}{a:TO}{d g:Pos}
def RQ(c:TE)(a:TO):TE:=λb H Q=>c b H λx j=>a b j λh i=>∃z,x=.str z/\h=aa (-1)/\z.length<=a_/\Q (.str (sr z)) i
theorem LR(E:PE X e c)(C:PO X (aa f) a):PE X (.Subscript e (.Slice ae ae (aa f) g) d) (RQ c a):=by
 intro l s j H Q I h;refine Subscript_ (aL (E l s j H _ I h) λv p ζ=>?_);obtain⟨x,S,P,r,w⟩:=ζ;refine wpAny_Slice ?_;rw[evalPart_none];refine aG (aG ?_);refine aL (C l p j S _ P w) λT i ζ=>?_;obtain⟨W,o,O,y,z,B,M,D,u⟩:=ζ;subst B M;obtain⟨t,rfl⟩:=r;obtain⟨k,rfl,n⟩:=part_of y;have N:Inv X l j o {i with heap:=i.heap.push {cls:=.type "slice",data:=.fields #[.none,.none,ze k]}}:=O.kept (t':=i.toks) λb Y q=>bn _ q;have A:Heap.IsSliceOf (i.heap.push {cls:=.type "slice",data:=.fields #[.none,.none,ze k]}) i.heap.objs.size .none .none (ze k):=Heap.IsSliceOf.new ..;show ar (aw X.prog X.w) X.A (Co e (.Slice ae ae (aa f) g) (.str z t) (.ref i.heap.objs.size)) (EP X l j Q) X.xe {i with heap:=i.heap.push {cls:=.type "slice",data:=.fields #[.none,.none,ze k]}};refine tail_any (ops:=[.ref i.heap.objs.size,.str z t]) (vF _ z t) F.slot_str_getitem.lookup ?_ (by with_unfolding_all rfl);have G:((k.map (·.1)).getD 1 == 0)=aj:=by rw[n];rfl
 refine getItem_meets (vF _ z t) (by decide) TM F.entry_str_getitem (F.args_str_getitem_2 _ _) (meets_str_getitem_slice z t _ ae ae k G) ⟨A,?_⟩;have J:sliceMade z t ae ae k=.str (sr z):=by
  unfold sliceMade slicePicked;rw[n];simp only[CV];rw[if_neg (by simp)];have L:IK (Option.map (·.1) (ae:Option (Int×Tok))) (Option.map (·.1) (ae:Option (Int×Tok))) (-1) z.length=(cz z.length).map λk=>z.length-1-k:=by rw[<-P9];rfl
  rw[L];have K:z.cps.toList.length=z.length:=by simp[mv]
  have m:=Tt z.cps.toList;rw[K]at m;unfold sr;rw[<-m];simp
 rw[J];exact⟨by simpa[sr,mv]using D,⟨.str _,o,N.tok _,⟨_,rfl⟩,u⟩⟩
end
def xh(a:Int)(n:Nat):It:=⟨λi _=>i<n,λi H x b=>b=H/\x=.int (a-i),λi _=>n<=i⟩
theorem ND{P:aQ}{w:aE}{K:ax}{G:az}(c:ag)(f:Int)(n:Nat):p7 P w K G (xh f n) [c] c (λi h=>Cg h c (f+(i:Nat) * -1) ((n:Int)-(i:Nat)) (-1)) where
 mem:=by simp
 obj:=λi h a b d=>by
  have e:b=c:=by simpa using d
  subst e;exact⟨_,a,λv z=>by
   have F:Data.fields _=Data.cell v:=z;cases F⟩
 keep:=λi h j a k=>k c (by simp) _ a
 item:=by intro X q l r p i C s A H E I g a m;subst q l r;obtain⟨y,x,f2,f3,f4,u⟩:=g c (by simp);have W:=Walks.range (prog:=X.prog) (w:=X.w) (I.ok.hd p) c f (-1) n;refine W.item i s _ _ m a λv j B L D J=>?_;obtain⟨t,rfl⟩:=L;have N:Inv X C A H {s with heap:=j,toks:=B}:=I.turned (λb o d e=>J b o (by simpa using d) e) y x f3 f4 u;refine⟨_,rfl,rM (s:={s with heap:=j,toks:=B}) (n:="range_iterator") D rfl rfl (by decide) ⟨.int (f-i),H,N,⟨t,?_⟩,⟨rfl,rfl⟩,D,λb d=>(g b d).1⟩⟩;rw[show f+(i:Int) * -1=f-i by lia]
 done:=by intro X q l r p i C s A H E I g a m;subst q l r;obtain⟨y,x,f2,f3,f4,u⟩:=g c (by simp);exact wpAny_pyNext_range_end (I.ok.hd p) a (by have:n<=i:=m;lia) λj M=>⟨rfl,I.turned (t':=s.toks) (λb o d e=>M b o d e) y x f3 f4 u⟩
 self:=λ_ _ _ _ _ a h=>wpAny_pyIter_rangeiter a h
theorem rangeSize_down(a b:Int):Ch a b (-1)=if a > b then a-b else 0:=by
 unfold Ch;rw[if_neg (by decide)];split
 .rw[show(- -1:Int)=1 from rfl,Cm];lia
 .rfl
theorem small_down{a b:Int}(g:-(2^62)<=a)(c:a<2^62)(f:-(2^62)<=b)(d:b<2^62):Builtin.Range.small a b (-1)=ah:=by unfold Builtin.Range.small;rw[rangeSize_down];simp only[Builtin.Range.rangeFitsLong,ge,zf,decide_eq_true_eq,beq_iff_eq,show ¬((-1:Int) > 0) by decide,if_false];split <;> lia
section
variable{X:Cx}{d:az}
theorem RM{h:List (ag×Obj)}{f:St}{H:Hp}{s:am}{R:It->Hp->Prop}{E:ai->am->Prop}{c a:Int}{t u v:Tok}{g:Nat}(I:Inv X h f H s)(p:-(2^62)<=a)(n:a<2^62)(m:-(2^62)<=c)(l:c<2^62)(q:R (xh a (a-c).toNat) H):ar (aw X.prog X.w) X.A (mq (.ref s.heap.objs.size)) (ue X h f d R) E {s with heap:=s.heap.push {cls:=.type "range",data:=.fields #[.int a t,.int c u,.int (-1) v]},toks:=g}:=by
 refine wpAny_pyIter_range (IsRange.new ..) (small_down p n m l) ?_;have i:Inv X h f H {s with heap:=s.heap.push {cls:=.type "range",data:=.fields #[.int a t,.int c u,.int (-1) v]},toks:=g}:=I.kept λb o e=>bn _ e;refine⟨(s.heap.push {cls:=.type "range",data:=.fields #[.int a t,.int c u,.int (-1) v]}).objs.size,[(s.heap.push {cls:=.type "range",data:=.fields #[.int a t,.int c u,.int (-1) v]}).objs.size],_,_,H,rfl,i.kept (t':=g) λb o e=>bn _ e,ND _ a (a-c).toNat,?_,λb j=>?_,q⟩
 .have w:a+((0:Nat):Int) * -1=a:=by simp
  have r:(((a-c).toNat:Nat):Int)-((0:Nat):Int)=Ch a c (-1):=by rw[rangeSize_down];split <;> lia
  show Cg _ _ (a+((0:Nat):Int) * -1) ((((a-c).toNat:Nat):Int)-((0:Nat):Int)) (-1);rw[w,r];exact cy _ rfl
 .have e:b=(s.heap.push {cls:=.type "range",data:=.fields #[.int a t,.int c u,.int (-1) v]}).objs.size:=by simpa using j
  subst e;exact i.fpOk (aY _) (i.hok.fresh (aY _))
def OG(c:TA):TI:=λa H R=>c a H λb f=>∃i j:Int,b=[.int i,.int j,.int (-1)]/\(-(2^62)<=i/\i<2^62/\-(2^62)<=j/\j<2^62)/\R (xh i (i-j).toNat) f
theorem Qf{a b c:az}{n:TA}{p g:Pos}(D:Gl X "range")(C:X.mg "range"=ae)(E:PA X [a,b,c] n)(B:aM [a,b,c] X.env=[(aj,aK a X.env),(aj,aK b X.env),(aj,aK c X.env)]:=by rfl)(o:aM [b,c] X.env=[(aj,aK b X.env),(aj,aK c X.env)]:=by rfl):PI X d (.Call (.Name "range" p) [a,b,c] [] g) (OG n):=by
 intro F s u H R I h;refine Call_ (sL I D C boot_range (Iq (aL (E g F s u H _ I h) λK M ⟨J,N,G,w,m⟩=>?_) (by rw[B,o]) (by rw[o];rfl)));obtain⟨i,j,e,⟨m,A,z,y⟩,q⟩:=m;subst e;cases w with
 |cons r f=>
  cases f with
  |cons x f=>
   cases f with
   |cons l f=>
    cases f;obtain⟨t,rfl⟩:=r;obtain⟨L,rfl⟩:=x;obtain⟨v,rfl⟩:=l;exact call_range_3 (by decide) (RM G m A z y q) (.inl (PyProof.noPylong_small (by decide)))
def sO(a:Int)(n:Nat):List V:=(cz n).map λi=>V.int (a-(i:Nat))
theorem Ap(a:Int)(n:Nat):(sO a n).length=n:=by simp[sO]
theorem M4{a:Int}{n:Nat}:Walk (xh a n) (sO a n) (λ_=>True):=λH _ i=>by
 refine⟨λx b=>?_,λa=>by rw[Ap]at a;exact mx a.symm⟩;have c:i<n:=by have:=(dR.mp b).1;rw[Ap]at this;exact this
 refine⟨c,λy g z=>⟨z.1,?_⟩⟩;unfold sO at b;rw[kD,IJ c]at b;have f:V.int (a-(i:Nat))=x:=dQ b;rw[z.2,<-f]
end
end L2
namespace Pu
open L2
section
variable{X:Cx}{K:ax}{E:XK}{m l a b c e:az}{d:ak->R PV}{g:ak->R (List PV)}{p f o:Pos}
def mi(h:Int)(n:Nat):List PV:=(cz n).map λi=>PV.int (h-(i:Nat))
theorem QK{H:Hp}{F:ag->Prop}(h:Int)(n:Nat):Reps K H F (mi h n) (sO h n):=by
 unfold mi sO
 induction (cz n)with
 |nil=>rfl
 |cons x xs i=>exact⟨_,_,rfl,rfl,i⟩
def uh:List PV->Option (List PV)
 |[.int i,.int j,.int c]=>if c=-1/\j<=1000000/\-1000000<=j/\i<=1000000/\-1000000<=i then aa (mi i (i-j).toNat)else ae
 |_=>ae
theorem KZ(D:X.mg "range"=ae)(I:DA X E [a,b,c] g)(G:Gl X "range":=by rfl)(C:aM [a,b,c] X.env=[(aj,aK a X.env),(aj,aK b X.env),(aj,aK c X.env)]:=by rfl)(B:aM [b,c] X.env=[(aj,aK b X.env),(aj,aK c X.env)]:=by rfl):DI X E m (.Call (.Name "range" p) [a,b,c] [] f) (dL uh g):=λF S w r H Rr x h=>by
 refine Fc (Qf G D gL C B) (I F S w r H _ x ((Ok.bind h).imp λxs s T P Q y Z n W A=>?_));unfold uh at n;split at n
 .rename_i i j c;split at n
  .rename_i q;obtain⟨v,Y,rfl,O,N⟩:=A;obtain⟨u,z,rfl,M,L⟩:=N;obtain⟨t,rfl,J⟩:=gH L;obtain⟨rfl,q⟩:=q;refine⟨i,j,by rw[show v=V.int i from O,show u=V.int j from M,show t=V.int (-1)from J],⟨∅,∅,∅,∅⟩,n T P Q y (bz.refl ..) _ _ _ (QK i (i-j).toNat) (by rw[Ap,k8];lia) M4 λ_ _ _ _=>trivial⟩
  .exact n.elim
 .exact n.elim
def xT:PV->Option Int->Option PV
 |.str x,aa (-1)=>aa (.str x.reverse)
 |_,_=>ae
def nt(d:ak->R PV)(dk:ak->R (Option Int)):ak->R PV:=λi=>(d i).bind λx ε1=>(dk ε1).bind λk h=>aF (xT x k) h
theorem zK{t:az}{dk:ak->R (Option Int)}(C:DE X E e d)(B:DO X E (aa t) dk):DE X E (.Subscript e (.Slice ae ae (aa t) o) f) (nt d dk):=λF S w r H Q z h=>by
 refine bU (LR bD zT) (C F S w r H _ z ((Ok.bind h).imp λx q O J M s P D v y=>?_));refine B O J q r M _ s ((Ok.bind D).imp λk u N I L A G n=>?_);have i:=y.grow G s.fit;cases j:xT x k with
 |none=>rw[j]at n;exact n.elim
 |some pv=>
  rw[j]at n;unfold xT at j;split at j
  .cases j;rw[i.1];refine⟨_,rfl,rfl,by rw[lq];exact cQ i.2 kP,?_⟩;exact n N I L A (bz.refl ..) _ ⟨by rw[KO];rfl,by rw[CW];exact i.2⟩
  .cases j
end
theorem LZ(H:Hp)(p:ag)(a b:HO):L2.upd (L2.upd H p a) p b=L2.upd H p b:=by
 funext q;by_cases h:q=p
 .subst h;rw[upd_same,upd_same]
 .rw[bj h,bj h,bj h]
end Pu
namespace L2
section
variable{X:Cx}
theorem Ga(v:X.calm=ah):eM X (.builtin "sorted") (λxs H Q=>∃(p:ag) (a:List Tx),xs=[.ref p]/\H p=aa (lm X p a)/\a.length<4000/\∀l,H l=ae->Q (.ref l) (upd H l (.lst (dG (aR a))))):=by
 intro A s f H xs E Q I r h;obtain⟨p,a,rfl,o,F,q⟩:=h;obtain⟨u,rfl,i⟩:=vals1 r;cases i;obtain⟨S,_,_⟩:=(show cq X.prog X.w H s.heap p (lm X p a)from I.hok p _ o)
 refine FZ (Oa (zN (I.ok.hd v)) S λg D ss C B K k y x=>?_);obtain⟨c,g',d',t',m⟩:=g;obtain rfl:g'=s.gens:=y;obtain rfl:m=s.os:=x;have d:Inv X A f H {s with heap:=c,drawn:=d',toks:=t'}:=by have:=Inv.call (ch:=[]) I (g':=s.gens) (d':=d') (t':=t') (Un.kept (fs:=fM X.stack) (ex:=[]) k) (I.hok.kept k) I.bare (λb w=>absurd w (by simp));exact this
 refine⟨ss,C,∅,λG j J e n t b1 b2 z=>?_⟩;exact⟨.ref _,_,Inv.sorted2 (s1:={s with heap:=c,drawn:=d',toks:=t'}) (ss:=a.map tS) d rfl ∅ n t b1 (b2.trans B) z,rfl,q _ d.fresh⟩
end
end L2
namespace Pu
open L2
section
variable{X:Cx}{E:XK}{pin:List Nat}{e f:az}{j m:ak->R (List PV)}{g p q d r n i:Pos}
theorem Ql(l:List Tx):(b0 l).Nodup:=by
 unfold b0;have:∀(l a:List Tx),a.Nodup->(l.foldl (λks x=>if x∈ks then ks else ks++[x]) a).Nodup:=by
  intro l
  induction l with
  |nil=>exact λa h=>h
  |cons x l c=>
   intro a h;rw[k_];refine c _ ?_;split
   .exact h
   .rename_i s;rw[CB];exact⟨h,by simp,λy o z b e=>by simp at b;subst b;subst e;exact s o⟩
 exact this l [] List.nodup_nil
def u_:List PV->Option PO
 |[.lst xs]=>(gA xs).bind λa=>if(b0 a).length<4000 then aa (.lst (ao (aR (b0 a))))else ae
 |_=>ae
def Ez(X:Cx):List V->Hp->VK->Prop:=λxs H Q=>∃(p:ag) (a:List Tx),xs=[.ref p]/\H p=aa (lm X p a)/\a.length<4000/\∀l,H l=ae->Q (.ref l) (upd H l (.lst (dG (aR a))))
theorem Lo:l0 X.K (Qg X (Ez X)) u_:=λF H xs L Q N J B e q=>by
 unfold u_ at e;split at e
 .obtain⟨v,rfl,a,M,rfl,I,_,u⟩:=gH B;obtain⟨s,K,f⟩:=Option.bind_eq_some_iff.mp e;rw[rJ K]at u;obtain⟨rfl,D⟩:=Ul.mp u;split at f
  .rename_i A;cases f;refine⟨a,s,rfl,.inl I,A,λb G=>⟨b,b0 s,rfl,upd_same,A,λl h=>?_⟩⟩;have t:l≠b:=by rintro rfl;rw[upd_same]at h;cases h
   have y:H l=ae:=by rw[bj t]at h;exact h
   have al:Al F F H (upd (upd H b (lm X b (b0 s))) l (.lst (dG (aR (b0 s))))):=(Al.new0 G).trans (Al.new0 h);refine q l F _ (λc=>c=l) al ⟨⟨_,upd_same,Ul.mpr ⟨rfl,λx C=>D x ((l9 _ _).mp ((eY _).mem_iff.mp C))⟩⟩,λc=>qR⟩ λc z=>?_;subst z;exact⟨y,λz=>Exists.elim (J _ z) (λo w=>by rw[y]at w;cases w),_,upd_same,trivial⟩
  .cases f
 .cases e
theorem MB(b:X.calm=ah)(t:DA X E [e] j)(o:X.mg "sorted"=ae)(c:X.mg "set"=ae)(s:Gl X "sorted":=by rfl)(a:Gl X "set":=by rfl)(h:me e=aj:=by rfl):DN X E (.Call (.Name "sorted" p) [.Call (.Name "set" q) [e] [] d] [] g) (dL u_ j):=λF S w v H Q l u=>bU (o4 (Ga b) s o oU (iH (yq (M3 b) a c FO gL (by decide) (by decide) (ka h) rfl) jU (ka rfl)) (by decide) (by decide) (ka rfl) rfl) (uL Lo t l u)
end
theorem Ng:eF "max"=aa (.builtin "max"):=by decide +kernel
end Pu
namespace Mx
def F5:Nat->Nat->Nat
 |0,x=>x
 |n+1,x=>F5 n (5*x+1)
end Mx
namespace Pu
open L2
def sE:List PV->Option PV
 |[.int i,.int j]=>aa (.int (if j > i then j else i))
 |_=>ae
theorem Mb{K:ax}:PL K (λxs H Q=>∃i j,xs=[.int i,.int j]/\Q (.int (if j > i then j else i)) H) sE:=λF H xs f Q pv a e q=>by
 unfold sE at e;split at e
 .cases e;obtain⟨v,g,rfl,d,c⟩:=a;obtain⟨u,rfl,b⟩:=gH c;exact⟨_,_,by rw[show v=V.int _ from d,show u=V.int _ from b],q _ F H (Al.refl ..) rfl⟩
 .cases e
end Pu
namespace L2
section
variable{X:Cx}{f:List (ag×Obj)}{d:St}{H:Hp}{s:am}{a:ag}
theorem Inv.recast{p q:HO}(I:Inv X f d H s)(e:H a=aa p)(m:∀xs,p≠.tup xs)(B:∀o u,X.H₀ a≠aa (.frz o u))(A:∀l,p≠.tbl l)(y:∀x,p≠.own x)(new:cq X.prog X.w (upd H a q) s.heap a q):Inv X f d (upd H a q) s:=by
 have g:∀b,H b=ae->(upd H a q) b=ae:=λb i=>by rw[bj (by rintro rfl;rw[e]at i;cases i)];exact i
 refine⟨I.ok,I.os,I.bare,⟨I.base.keep,I.base.slot,λb o h n t=>g b (I.base.free b o h n t),I.base.there,λb xs h=>?_,λb o u h=>?_,λb l h=>?_⟩,I.loc,I.cell,g _ I.free,λx c h=>g _ (I.freeC x c h),λp w=>?_,λb u i=>?_,I.len⟩
 .have z:=I.base.tups b xs h;rw[bj (by rintro rfl;rw[e]at z;exact m xs (dQ z))];exact z
 .have z:=I.base.frzs b o u h;rw[bj (by rintro rfl;exact B o u h)];exact z
 .have z:=I.base.tbls b l h;rw[bj (by rintro rfl;rw[e]at z;exact A _ (dQ z))];exact z
 .obtain⟨E,D,C⟩:=I.pin p w;exact⟨E,g _ D,C⟩
 .by_cases j:b=a
  .subst j;rw[upd_same]at i;cases i;exact new
  .rw[bj j]at i;refine(I.hok b u i).stay (λc v _ r=>r) (λc r=>?_) λc xs r=>?_
   .rw[bj (by rintro rfl;rw[e]at r;exact y _ (dQ r))];exact r
   .rw[bj (by rintro rfl;rw[e]at r;exact m _ (dQ r))];exact r
def wW(o:Obj):Nat:=match o.data with
 |.dict _ b=>b
 |_=>0
theorem B6{P:aQ}{w:aE}{h:aB}{o:Obj}{b:List (aD×V)}(i:h.get? a=aa o)(k:cq P w H h a (.dK b)):(a == jY)=aj/\∃c,KV b c/\h.DictAt (gK P w) a c (wW o):=by
 obtain⟨_,n,c,l,t,p,q,g,m,j,r⟩:=k;rw[i]at g;cases g;refine⟨n,c,l,o,p,i,m,?_,r⟩;have:wW o=q:=by unfold wW;rw[j]
 rw[this];exact j
theorem Inv.freeze{b:List (aD×V)}(I:Inv X f d H s)(e:H a=aa (.dK b)):∃o,s.heap.get? a=aa o/\Inv X f d (upd H a (.frz o (.dK b))) s:=by
 have k:cq X.prog X.w H s.heap a (.dK b):=I.hok a _ e;obtain⟨z,i,g,h,o,j,l,c,r⟩:=id k;refine⟨o,c,I.recast e (λ_ q=>by cases q) (λo u q=>?_) (λ_ q=>by cases q) (λ_ q=>by cases q) ⟨c,⟨z,i,g,h,o,j,l,c,r⟩⟩⟩;have:=I.base.frzs a o u q;rw[e]at this;cases this
theorem Inv.thaw{o:Obj}{b:List (aD×V)}(I:Inv X f d H s)(e:H a=aa (.frz o (.dK b)))(i:∀o u,X.H₀ a≠aa (.frz o u)):Inv X f d (upd H a (.dK b)) s:=by
 obtain⟨j,z,h,c,g,r⟩:=(show cq X.prog X.w H s.heap a (.frz o (.dK b))from I.hok a _ e)
 exact I.recast e (λ_ q=>by cases q) i (λ_ q=>by cases q) (λ_ q=>by cases q) ⟨z,h,c,g,r⟩
end
theorem KV.at{a:List (aD×V)}{vs:List (aD×ai)}(h:KV a vs){i:Nat}{p:aD×V}(e:a[i]?=aa p):∃q,vs[i]?=aa q/\p.1=q.1/\RelV p.2 q.2:=by
 unfold KV at h
 induction h generalizing i with
 |nil=>simp at e
 |cons r _ b=>
  cases i with
  |zero=>simp at e;subst e;exact⟨_,rfl,r⟩
  |succ i=>exact b (by simpa using e)
theorem KV.len{a:List (aD×V)}{vs:List (aD×ai)}(h:KV a vs):a.length=vs.length:=by
 unfold KV at h
 induction h with
 |nil=>rfl
 |cons _ _ b=>simp[b]
theorem KV.keysD{a:List (aD×V)}{b:List (aD×ai)}(h:KV a b):a.map (·.1)=b.map (·.1):=by
 unfold KV at h
 induction h with
 |nil=>rfl
 |cons r _ c=>simp[c,r.1]
end L2
namespace Pu
open L2
section
variable{X:Cx}{E:XK}{pin:List Nat}{e b c:az}{de db f:ak->R PV}{d:Pos}
def nz(i:Nat):ak->R PV:=λa=>(aF (dm a i) a).bind λg a=>.ok (.int (g.length:Nat)) a
theorem Hi(i:Nat){y:Str}{p g:Pos}(q:X.mg "len"=ae)(w:X.N[i]?=aa y:=by rfl)(z:ef X.env.scope y:=by first|exact Or.inl rfl|exact Or.inr (Or.inl rfl)|exact Or.inr (Or.inr rfl))(u:(y==("__debug__":Str))=aj:=by decide) (B:(y==("__classdict__":Str))=aj:=by decide) (t:Gl X "len":=by rfl)(l:aM [.Name y g] X.env=(aj,aK (.Name y g) X.env)::aM [] X.env:=by rfl) (A:(cZ d (aM [] X.env)).any (·.1)=aj:=by rfl):DE X E (.Call (.Name "len" p) [.Name y g] [] d) (nz i):=λF S m C H Q r h=>by
 unfold nz at h;cases j:dm m i with
 |none=>rw[j]at h;exact h.elim
 |some o=>rw[j]at h;obtain⟨a,n,x,v,s,_⟩:=r.dkAt (lE j);refine bU (o4 Mj t q rfl (iH (fj w z u B) jU l) (by decide) (by decide) l A) ⟨_,x,a,n,rfl,v,?_⟩;rw[s.len];exact h F S H r (bz.refl ..) _ rfl
def gx(neg:Bool)(i:Nat)(db:ak->R PV):ak->R PV:=λε=>(db ε).bind λk ε1=>(aF (dm ε1 i) ε1).bind λa ε1=>aF ((jb k).map λk=>.bl (neg^^(jS a k).isSome)) ε1
theorem Dr{i:Nat}(j:Bool){F:ag->Prop}{S:Nat->ag->Prop}{n:ak}{g:St}{H:Hp}{Q:VK}(J:DE X E b db)(D:aX X.K F S n g H)(h:Ok X.K E g F S H (gx j i db n) (λpv _ M _ z=>∀v,a8 X.K z M pv v->Q v z)):jv X b g H λy l=>∃x,g[i]?=aa (aa x)/\∃a o,x=.ref a/\ln l a y o/\Q (.bl (j^^o.isSome)) l:=by
 unfold gx at h;refine J F S n g H _ D ((Ok.bind h).imp λk m A w l p N q u C=>?_);cases s:dm m i with
 |none=>rw[s]at q;exact q.elim
 |some G=>
  rw[s]at q;simp only[b_,R.bind_ok]at q;obtain⟨a,B,L,K,I,_⟩:=p.dkAt (lE s);cases r:jb k with
  |none=>rw[r]at q;exact q.elim
  |some t=>
   rw[r,pf]at q;rw[vd C r];refine⟨.ref a,L,a,fP B t,rfl,ln.k K,?_⟩;rcases I.val t with⟨x,v,h1,h2,h3⟩|⟨h1,h2⟩
   .rw[h1]at q;rw[h2];exact q A w l p (bz.refl ..) _ rfl
   .rw[h1]at q;rw[h2];exact q A w l p (bz.refl ..) _ rfl
theorem A3(i:Nat){y:Str}{a:Pos}(t:X.A.units+64<cLine)(m:DE X E b db)(n:X.N[i]?=aa y:=by rfl)(o:ef X.env.scope y:=by first|exact Or.inl rfl|exact Or.inr (Or.inl rfl)|exact Or.inr (Or.inr rfl))(l:(y==("__debug__":Str))=aj:=by decide) (p:(y==("__classdict__":Str))=aj:=by decide) (j:nO .In (.Name y a)=aj:=by rfl):DT X E (.Compare b [.In] [.Name y a] d) (dB (gx aj i db)):=λF S s r H Q g h=>by refine qt (yE (Of ∅ bD (fj n o l p)) j) ?_;have:=Dr (Q:=λv q=>∃k,v=.bl k/\Q k q) aj m g (pM h);simp only[CY]at this;exact this
theorem Oq(i:Nat){y:Str}{a:Pos}(t:X.A.units+64<cLine)(m:DE X E b db)(n:X.N[i]?=aa y:=by rfl)(o:ef X.env.scope y:=by first|exact Or.inl rfl|exact Or.inr (Or.inl rfl)|exact Or.inr (Or.inr rfl))(l:(y==("__debug__":Str))=aj:=by decide) (p:(y==("__classdict__":Str))=aj:=by decide) (j:nO .NotIn (.Name y a)=aj:=by rfl):DT X E (.Compare b [.NotIn] [.Name y a] d) (dB (gx ah i db)):=λF S s r H Q g h=>by refine qt (yE (Qr ∅ bD (fj n o l p)) j) ?_;have:=Dr (Q:=λv q=>∃k,v=.bl k/\Q k q) ah m g (pM h);simp only[tP]at this;exact this
theorem Tr{H:Hp}{a l:ag}{o:HO}{u v:HO}(e:H a=aa v)(i:l≠a):upd (upd (upd H a o) l u) a v=upd H l u:=by
 funext b;by_cases h:b=a
 .subst h;rw[upd_same,bj (dY i),e]
 .rw[bj h];by_cases g:b=l
  .subst g;rw[upd_same,upd_same]
  .rw[bj g,bj g,bj h]
def uc(db f:ak->R PV):ak->R PO:=λh=>(db h).bind λk g=>(f g).bind λy a=>(aF (jb k) a).bind λi a=>.ok (.dK [(i,y)]) a
theorem MO(Y:DE X E b db)(W:DE X E c f):DN X E (.Dict [aa b] [c] d) (uc db f):=λF S M G H Q t h=>by
 refine bU (K4 (OO bD bD R0) rfl rfl (by simp) (by simp)) λp l=>?_;have al:Al F F H (upd H p (.dK [])):=Al.new0 l;have T:¬F p:=λz=>by obtain⟨o,q⟩:=t.ex p z;rw[l]at q;cases q
 have nS:¬U S p:=λζ=>by obtain⟨i,z⟩:=ζ;obtain⟨_,_,o,q,_⟩:=t.foot i p z;rw[l]at q;cases q
 have A:bz (U S) (U S) F F H (upd H p (.dK [])):=al.grow;refine Y F S M G _ _ (t.al al) ((Ok.bindB h A).imp λk n F1 S1 H1 I C Z u N=>?_);obtain⟨e1,x,v⟩:=C.stay (upd_same:upd H p (.dK []) p=aa (.dK [])) nS T;refine W F1 S1 n G H1 _ I ((Ok.bindB Z (A.trans C)).imp λy L K S2 H2 P B m w r=>?_);obtain⟨J,g,a⟩:=B.stay e1 v x;cases D:jb k with
 |none=>rw[D]at m;exact m.elim
 |some j=>
  rw[D]at m;simp only[b_,R.bind_ok]at m;have s:a8 X.K H2 K k u:=N.grow B I.fit;refine⟨J,[(j,w)],?_,by simp,?_⟩
  .rw[cn,vH,<-vd s D]
  .rw[show sV [] [(j,w)]=[(j,w)] from rfl];obtain⟨gl,fit,O⟩:=P.lay (o':=.dK [(j,w)]) J trivial g a;have g3:=((A.trans C).trans B).lay (o':=.dK [(j,w)]) l;refine m K S2 _ O g3 p (λb=>b=p) ⟨⟨_,upd_same,.cons ⟨rfl,r.grow gl fit⟩ .nil⟩,λb=>qR⟩ λb z=>?_;subst z;exact⟨l,g,a,_,upd_same,trivial⟩
end
end Pu
namespace L2
theorem MI{d:Pos}{a b:Int}{c g:ai}(l:List ai)(h:TriplesOk l)(e:vx d (l++[d9 a,d9 b,c])=aa g):vx d l=aa g\/g=c:=by
 fun_induction TriplesOk l with
 |case1=>simp[vx,d9]at e;exact .inr e.2.symm
 |case2 o t n u x rest i=>
  simp only[kF,vx]at e ⊢;split at e
  .rename_i f;rw[if_pos f];exact .inl e
  .rename_i f;rw[if_neg f];exact i h e
 |case3 l m j=>exact h.elim
section
variable{X:Cx}{i:List (ag×Obj)}{d:St}{H:Hp}{s:am}
structure xz(X:Cx)(x:Str)(c P:ag):Prop where
 mem:x∈vj
 tab:lH X.K x=aa (c,P)
 hd:za X.K c P=ah
 code:X.env.code=.ref c
theorem RX(I:Inv X i d H s){x:Str}{c P:ag}(L:xz X x c P){j:qG}{y:az}{l:dy}{F:Pos}{w:List (Str×ag)}(hq:X.env.qual++"<lambda>"=x++".<locals>.<lambda>") (js:zb l X.env=pure w) (v9:defaultsOf j X.env=([],[])) {Q:ai->am->Prop}(h:∀f c' p H' Y,Inv X i d H' Y->(∀b o,H b=aa o->H' b=aa o)->Y.heap.get? f=aa (CZ "<lambda>" (X.env.qual++"<lambda>") j y l w ((X.mg "__name__").getD .none) c' p)->f≠X.env.locals -> Y.heap.CodeRec (.ref c') (X.env.qual++"<lambda>")->c'≠X.env.locals->Q (.ref f) Y):ar (aw X.prog X.w) X.A (aK (.Lambda j y l F) X.env) Q X.xe s:=by
 have M:=I.tab x L.mem c P L.tab;obtain⟨ps,hP,C,g⟩:=I.hok P _ M;have J:s.heap.Ns bQ X.mg:=I.mod.glob.keeps I.bk;have hgP:bQ≠P:=λz=>by
  obtain⟨o,es,ep,e,Z,_⟩:=J;rw[z,hP]at e;cases e;cases Z
 have S:s.heap.BuiltinsAt X.mg P:=by
  obtain⟨bm,ob,b1,b2,b3,b4,b5,b6⟩:=I.mod.bm;refine⟨bm,ob,b1,b2,λz=>?_,λz=>?_,I.bk _ _ b3,b4,b5,b6⟩
  .obtain⟨o,es,ep,e,Z,_⟩:=I.mod.glob;rw[<-z,b3]at e;cases e;rw[b6]at Z;cases Z
  .have e:=I.bk _ _ b3;rw[z,hP]at e;cases e;simp at b4
 have hC:=PySem.W.codeHd_of_K I.kIn L.hd;have Lne:X.env.locals≠P:=λz=>by have:=I.free;rw[z,M]at this;cases this
 refine PySem.W.kla_eval v9 ?_;cases hf:vx F ps.toList with
 |some cv=>
  obtain⟨A,rfl,jH,zH⟩:=g F _ hf;refine PySem.W.kla_makeFunctionHit (mg:=X.mg) js I.ok.glob J L.code hC hP C hf S λp W tk hk hsz=>?_;have D:∀b o,s.heap.get? b=aa o->(W.push (CZ "<lambda>" (X.env.qual++"<lambda>") j y l w ((X.mg "__name__").getD .none) A p)).get? b=aa o:=λb o e=>bn _ (hk b o e);refine h _ A p H _ (I.un (Un.kept D) (I.hok.kept D)) (λ_ _ e=>e) (cy _ rfl) (mo (fU I.lt hsz)) ?_ λz=>?_
  .have G:s.heap.CodeRec (.ref A) (X.env.qual++"<lambda>"):=by rw[hq];exact zH
   exact G.keeps D
  .have:=I.free;rw[<-z,jH]at this;cases this
 |none=>
  refine PySem.W.kla_makeFunction (mg:=X.mg) js I.ok.glob J L.code hC hP C hf hgP S λA p W tk hx gD bh zH O=>?_;generalize ho:CZ "<lambda>" (X.env.qual++"<lambda>") j y l w ((X.mg "__name__").getD .none) A p=fo;have D:∀b o,b≠P->s.heap.get? b=aa o->(W.push fo).get? b=aa o:=λb o n e=>bn _ (hx b o n e);have fr:H A=ae:=I.hok.fresh gD;have B:(W.push fo).CodeRec (.ref A) (X.env.qual++"<lambda>"):=zH.keeps λb o e=>bn _ e;have nP:∀b,H b=ae->b≠P:=λb n z=>by rw[z,M]at n;cases n
  have nc:∀b o,s.heap.get? b=aa o->b≠A:=λb o e=>cY (fU (bK e) gD);have E:∀b o,H b=aa o->(upd H A (.own P)) b=aa o:=λb o e=>by rw[bj (l8 e fr)];exact e
  have I':Inv X i d (upd H A (.own P)) {s with heap:=W.push fo,gens:=s.gens,drawn:=s.drawn,toks:=tk}:=by
   refine I.step (ch:=[]) (λ_ z=>nomatch z) (λb o _ _ _ e n=>D b o (nP b n) e) (λb o _ _ _ e n=>⟨o.slots,D b o (nP b n) e⟩) (λb o _ e n=>by rw[bj (nc b o e)];exact n)
    (λb o _ e=>?_) (λb xs e=>E b _ e) (λb o u e=>E b _ e) (λb q e=>E b _ e) (λm hm=>?_) (λa u e=>?_) I.bare
   .by_cases T:b=P
    .subst T;exact⟨_,bn _ O⟩
    .exact⟨o,D b o T e⟩
   .exact(hm.extBut hx Lne).push _
   .by_cases ha:a=A
    .subst ha;rw[upd_same]at e;cases e;obtain⟨_,o,_,_,z,e2,_⟩:=B;cases z;exact⟨o,e2⟩
    .rw[bj ha]at e;by_cases T:a=P
     .subst T;rw[M]at e;cases e;refine⟨_,bn _ O,by rw[iV];exact TriplesOk_snoc _ _ _ _ C,λN cv K=>?_⟩;rw[iV]at K;rcases MI _ C K with z|rfl
      .obtain⟨c2,rfl,h1,h2⟩:=g N cv z;refine⟨c2,rfl,E c2 _ h1,?_⟩;obtain⟨c3,o,vs,t,z,e2,r⟩:=h2;cases z;exact⟨c2,o,vs,t,rfl,D c2 o (λz=>by rw[z,M]at h1;cases h1) e2,r⟩
      .exact⟨A,rfl,upd_same,hq ▸ B⟩
     .refine(I.hok a u e).stay (λb v K r=>D b v ?_ r) (λb r=>E b _ r) λb xs r=>E b _ r;rcases K with rfl|K
      .exact T
      .rintro rfl;rw[M]at K;cases K
  exact h _ A p _ _ I' E (by rw[<-ho];exact cy _ rfl) (mo (fU I.lt (cQ gD (mn bh)))) B (mo (fU I.lt gD))
end
open Att
theorem Hd:∀{xs:List V}{vs:List ai}{i:Nat}{v:ai},bv xs vs->vs[i]?=aa v->∃x,xs[i]?=aa x/\RelV x v
 |_,_,_,_,.nil,e=>by simp at e
 |_,_,0,_,.cons h _,e=>by simp at e;subst e;exact⟨_,rfl,h⟩
 |_,_,i+1,_,.cons _ t,e=>by obtain⟨x,a,b⟩:=Hd (i:=i) t (by simpa using e);exact⟨x,by simpa using a,b⟩
section
variable{X:Cx}{d:List (ag×Obj)}{c:St}{H:Hp}{s:am}
theorem Inv.mapKept{i:aB}{l:Nat}{m:Str->Option ai}(I:Inv X d c H s)(t:s.heap.Ns X.env.locals m)(f:i.Ns X.env.locals m)(k:∀b o,b≠X.env.locals->s.heap.get? b=aa o->i.get? b=aa o):Inv X d c H {s with heap:=i,toks:=l}:=by
 refine I.step (g':=s.gens) (d':=s.drawn) (ch:=[]) (λ_ z=>nomatch z) (λb o h _ _ e _=>k b o h e) (λb o h _ _ e _=>⟨o.slots,k b o h e⟩) (λ_ _ _ _ n=>n) (λb o _ e=>?_) (λ_ _ e=>e) (λ_ _ _ e=>e) (λ_ _ e=>e) (λq w=>?_) (λa u e=>?_) I.bare
 .by_cases j:b=X.env.locals
  .subst j;obtain⟨p,_,_,x,_⟩:=f;exact⟨p,x⟩
  .exact⟨o,k b o j e⟩
 .have:q=m:=w.eq_nsMap.trans t.eq_nsMap.symm;rw[this];exact f
 .refine(I.hok a u e).stay (λb v g r=>k b v ?_ r) (λ_ r=>r) λ_ _ r=>r;rintro rfl;have:=I.free;rcases g with rfl|g
  .rw[e]at this;cases this
  .rw[g]at this;cases this
end
end L2
namespace Pu
open L2
structure BM(K:ax)(mg:Str->Option ai)(x:Str)(c T:ag):Prop where
 tab:lH K x=aa (c,T)
 hd:za K c T=ah
 code:∀f fd oc od osl,mg x=aa (.ref f)->K.lookup f=aa ⟨oc,od,.func fd,osl⟩->fd.code=.ref c
theorem Qn{K:ax}{h:aB}{b:Str->Option ai}{x:Str}{c T:ag}(X:K.In h)(G:h.Ns bQ b)(a:lH K x=aa (c,T))(l:za K c T=ah):BM K b x c T:=by
 refine⟨a,l,λf o oc n g i j=>?_⟩;unfold lH at a;split at a
 .rename_i p e;have d:=ir X G e;rw[i]at d;cases d;rw[j]at a;dsimp only at a;split at a
  .rename_i q m;split at a
   .split at a
    .cases a;exact m
    .cases a
   .cases a
  .cases a
 .cases a
theorem Ro{y:gu}{P:aQ}{w:aE}{K:ax}{m:Str->Option ai}{b:aB}{x:Str}{j:ba}{N l:List Str}{k n:Nat}{d:ak->R aP}{pin:List Nat}(Y:∃c T,BM K m x c T)(J:x∈vj)(D:cK K m x j)(X:cb N l (aZ j))(O:N.length=l.length+n)(C:∀(kV v F:ai) (W:Option ag) (o S:ai) (q:List ai),q.length=l.length->fV (iT x x (jT j) (fR j) (aZ j) .none kV v F W o S) ⟨q,[]⟩=pure (l.zip q))(Q:∀(f:ag) (o:ai) (c T:ag) (A:aT) (a:List Env) (s:am) (H:Hp) (E:XK),Room k (A.deeper (jo x (aZ j) s.heap.objs.size f o))->xz (iF y P w K m b N x (aZ j) f o A a s H E) x c T->gq (iF y P w K m b N x (aZ j) f o A a s H E) E pin (fR j) d):cU y P w K m b x (k+1) l (bM K (bp l.length pin (bu n d))):=by
 have no:∀{g},bp l.length pin (bu n d) g≠.no->g.length=l.length/\et pin 0 g=ah:=λ{g} h=>by
  unfold bp at h;by_cases z:g.length=l.length/\et pin 0 g=ah
  .exact z
  .rw[if_neg z]at h;exact absurd rfl h
 obtain⟨f,u,B,p⟩:=D.ex;obtain⟨c,T,L⟩:=Y;refine⟨f,u,B,D3 p X O C (λg h=>(no h).1) (λg h i r e=>by have:=(oM (no h).2 i r e).1;rwa[mC]at this) (λg Z aN h=>.inr λi r e=>(oM (no (by rw[h];exact nofun)).2 i r e).2) (λg h=>by unfold bp;rw[if_pos (no h)]) λA a s H E M=>?_,p.binds C,p.kp⟩;obtain⟨oc,G,_,_,_,_,_,_,t,_,I,_⟩:=p.ex;exact Q f u.code c T A a s H E M ⟨J,L.tab,L.hd,L.code f u oc G t B I⟩
end Pu
theorem L2.Room.d1{k:Nat}{A:PySem.Around}(r:L2.Room k A):A.depth+1<PySem.recursionLimit:=by have:=r.dp;lia
namespace L2
open Mx
theorem least{p:Nat->Prop}:∀(n:Nat),p n->∃m,m<=n/\p m/\∀k,k<m->¬p k
 |0,h=>⟨0,aY _,h,λk d=>absurd d (Nat.not_lt_zero _)⟩
 |n+1,h=>by
  by_cases z:∃m,m<=n/\p m/\∀k,k<m->¬p k
  .obtain⟨m,a,b,c⟩:=z;exact⟨m,∅,b,c⟩
  .refine⟨n+1,aY _,h,λk d f=>z ?_⟩;obtain⟨m,a,b,c⟩:=least k f;exact⟨m,∅,b,c⟩
section
variable{P:aQ}{w:aE}{A:aT}{E:ai->am->Prop}{s:am}
structure Keyd(P:aQ)(w:aE)(K:Type)[DecidableEq K] where
 is:aB->K->ai->Prop
 hash:K->Int
 room:aT->Prop
 keep:∀{h h':aB}{k:K}{v:ai},is h k v->(∀b o,h.get? b=aa o->o.cls=.type "tuple"->h'.get? b=aa o)->is h' k v
 ref:∀{h:aB}{k:K}{v:ai},is h k v->∃a o,v=.ref a/\h.get? a=aa o
 eqBool:∀{A:aT}{E:ai->am->Prop}{s:am}{x y:K}{u v:ai}{Q:Bool->am->Prop},room A->is s.heap x u->is s.heap y v->Q (decide (x=y)) s->ar (aw P w) A (PySem.eqBool u v) Q E s
 quiet:∀{A:aT}{E:ai->am->Prop}{s:am}{k:K}{v:ai}{Q:Bool->am->Prop},is s.heap k v->Q ah s->ar (aw P w) A (vS 8 v) Q E s
 cls:∀{A:aT}{E:ai->am->Prop}{s:am}{k:K}{v:ai}{Q:Bool->am->Prop},is s.heap k v->Q aj s->ar (aw P w) A (ofAClassStatement 8 v) Q E s
 hbv:∀{A:aT}{E:ai->am->Prop}{s:am}{k:K}{v:ai}{Q:Bool->am->Prop},is s.heap k v->Q aj s->ar (aw P w) A (hashByValue 8 v) Q E s
variable{K:Type}[DecidableEq K]{c:Keyd P w K}
end
section
variable{P:aQ}{w:aE}{A:aT}{E:ai->am->Prop}{s:am}
theorem tupTy{a:ag}{b:Array ai}(h:IsTup s.heap a b):s.TypeIs (.ref a) "tuple":=let ⟨o,ho,hc,_⟩:=h;⟨o,ho,hc⟩
theorem quiet_tup{n:Nat}{a:ag}{b:Array ai}{Q:Bool->am->Prop}(j:IsTup s.heap a b)(q:∀v∈b.toList,∀(E:ai->am->Prop) (Q:Bool->am->Prop),Q ah s->ar (aw P w) A (vS n v) Q E s)(h:Q ah s):ar (aw P w) A (vS (n+1) (.ref a)) Q E s:=by
 have g:=tupTy j;obtain⟨o,p,_,m,t⟩:=j;unfold vS;refine ap (y_ g F.slot_tuple_eq.lookup ?_);show ar _ _ (zi (.ref a) (.type "tuple") >>= _) _ _ s;refine ap (IQ g isSubtype_tuple_tuple ?_);simp only[tQ,mz,if_false];refine ap (zn p t ?_);refine ap ?_;show ar _ _ (forIn b _ _) _ _ s;rw[<-Array.forIn_toList];refine C0 _ (λrest r c=>r.1=ae/\c=s/\∀v∈rest,v∈b.toList) _ ?_ ?_ _ _ ⟨rfl,rfl,λv l=>l⟩
 .rintro v rest r c ⟨f,rfl,i⟩;refine ap (q v (i v lI) _ _ ?_);simp only[tQ,mz,if_false];exact aG ⟨rfl,rfl,λu d=>i u (k6 _ d)⟩
 .rintro⟨y,x⟩ c ⟨f,rfl,_⟩;simp only at f;subst f;exact aG h
theorem tup_uniq{h:aB}{a:ag}{x y:Array ai}(g:IsTup h a x)(f:IsTup h a y):x=y:=by
 obtain⟨o,e,_,n,d⟩:=g;obtain⟨i,b,_,j,c⟩:=f;rw[e]at b;cases b;rw[d]at c;cases c;rfl
theorem strs_uniq{a:List ai}{x y:List Str}(r:eP a x)(s:eP a y):x=y:=by
 induction r generalizing y with
 |nil=>cases s;rfl
 |cons _ _ _ g=>
  cases s with
  |cons _ _ t=>rw[g t]
theorem all_getD{a b:List Str}:((cz (min a.length b.length)).all (λj=>a.getD j eV == b.getD j eV)&&a.length == b.length)=decide (a=b):=by
 rw[mr,ge,qN,decide_eq_true_iff,beq_iff_eq];constructor
 .rintro⟨g,f⟩;refine Je f λi d c=>?_;have:=g i (vy.mpr ∅);rw[beq_iff_eq]at this;simpa[d,c]using this
 .rintro rfl;exact⟨λx _=>by simp,rfl⟩
theorem strs_len{a:List ai}{b:List Str}(h:eP a b):a.length=b.length:=h.length
theorem eq_strs{b h:ag}{c a:Array ai}{i d:List Str}(u:A.units<cLine)(o:IsTup s.heap b c)(f:eP c.toList i)(p:IsTup s.heap h a)(g:eP a.toList d):vG A s (.ref b) (.ref h) (decide (i=d)):=by
 by_cases n:b=h
 .subst n;obtain rfl:=tup_uniq o p;obtain rfl:=strs_uniq f g;rw[decide_eq_true rfl];exact .same _
 .have m:=strs_len f;have l:=strs_len g;rw[nU]at m l;rw[<-all_getD,<-m,<-l];refine .of_refs n (.tuples o p u λj r q=>?_);obtain⟨t,e⟩:=uU j c[j] f (by simp[r]);obtain⟨x,v⟩:=uU j a[j] g (by simp[q]);rw[e,v];exact ID _ _ _ _
theorem tup_kept{h d:aB}{a:ag}{x:Array ai}(f:IsTup h a x)(k:∀b o,h.get? b=aa o->o.cls=.type "tuple"->d.get? b=aa o):IsTup d a x:=by obtain⟨o,e,c,r⟩:=f;exact⟨o,k a o e c,c,r⟩
theorem strs_mem_shape{a:List ai}{b:List Str}(h:eP a b):∀v∈a,∃z t,v=Value.str z t:=λv c=>h.all v c
end
section
open PySem.SeqAt
open PySem.AutoSeq1 (wpAny_loadPart')
open PySem.MeetsSeq PySem.MeetsSeq2 PySem.MeetsSeq3
end
end L2
namespace Pu
open L2
abbrev Uq:=List aD
end Pu
namespace L2
theorem OY{P:aQ}{w:aE}{A:aT}{E:ai->am->Prop}{s:am}{t b:ag}{f:List ai}{Q:ai->am->Prop}(v:IsTup s.heap t #[])(x:IsTup s.heap b f.toArray)(h:Q (.ref b) s):ar (aw P w) A (iS .Add (.ref t) (.ref b)) Q E s:=by
 obtain⟨⟨z,y,p,r⟩,l,o,n,m⟩:=id v;obtain⟨⟨q,c,d,a⟩,j,i,u,g⟩:=id x;simp only at o m i g;subst o m i g;exact concat_meets ⟨_,l,rfl⟩ ⟨_,j,rfl⟩ Ix seq_tuple_add Iy Iz (IA _ _)
  (tuple_addW0 t b #[] f.toArray n u y c r a rfl) ⟨l,j,h⟩
def BJ(K:ax):R2:=λx y H Q=>∃a b c,x=.ref a/\y=.ref b/\cW K H a []/\cW K H b c/\Q (.ref b) H
theorem UF{X:Cx}:b7 X (iS .Add) (BJ X.K):=by
 intro t s o H x y v u Q I f d h;obtain⟨a,b,p,rfl,rfl,n,m,q⟩:=h;cases f;cases d;obtain⟨l,g,j,_⟩:=I.tuple n;obtain⟨c,r,i,_⟩:=I.tuple m;cases g;exact OY j i ⟨.ref b,H,I,rfl,q⟩
end L2
namespace Pu
open L2
theorem Ep{X:Cx}:b7 X (iS .Add) (λx y H Q=>BJ X.K x y H Q\/xA X.K x y H Q):=UF.or fQ
end Pu
namespace L2
section
variable{P:aQ}{w:aE}{A:aT}{E:ai->am->Prop}{s:am}
theorem Qy{h:aB}{o:Obj}{l:ag}{a:Array ai}(x:h.IsTuple l a):(h.push o).IsTuple l a:=let ⟨ob,e,r⟩:=x;⟨ob,bn _ e,r⟩
set_option maxRecDepth 100000 in
theorem OE{l:ag}{a:Array ai}{Q:ai->am->Prop}(hh:A.handled=ae)(hl:s.heap.IsTuple l a){J:Nat->aB->Prop}(hJ:∀i h d,J i h->(∀b o,b<=s.heap.objs.size->h.get? b=aa o->d.get? b=aa o)->J i d) (I:J 0 (s.heap.push {cls:=.type "set",dict:=ae,data:=.set #[] 0 (.fresh 0 0 (!cP w))}))(gf:∀(i:Nat) (v:ai) (f:am) (E:ai->am->Prop) (Q:Bool->am->Prop),i<a.size->a[i]?=aa v->J i f.heap->(∀d m b,f.toks<=m->k7 s.heap.objs.size f.heap d->J (i+1) d->Q b {f with heap:=d,toks:=m})->ar (aw P w) A.in1.in1.in1 (setAdd s.heap.objs.size v) Q E f)(h:∀(d:aB) (m:Nat),J a.size d->(∀b o,b<s.heap.objs.size->s.heap.get? b=aa o->d.get? b=aa o)->Q (.ref s.heap.objs.size) {s with heap:=d,toks:=m}):ar (aw P w) A (call (.type "set") [.ref l]) Q E s:=by
 obtain⟨c,tl,hmro⟩:=F.called_set.mro;have T8:=F.called_set.made;have kG:=F.called_set.sub;refine tf (codeAny_of_tree ?_);show ar _ _ (callAny (.type "set") _) _ _ _;refine aG ⟨Code.quiet_builtin _ (by decide +kernel),n5 F.entry_type_call ?_⟩;rw[Around.under_plain (weight_type_call_type "set" [.ref l] []) rfl];have h1:=F.called_set.notType;have h2:=F.called_set.canCreate;have hct:=PySem.F.typeCall_set_1 (.ref l)
 repeat any_goals (first|assumption|wp_step)
 refine nW (FC (P:=P) (w:=w) (.ref l) (E:=E) (Q:=λp f=>p=.ref s.heap.objs.size/\f={s with heap:=s.heap.push {cls:=.type "set",dict:=ae,data:=.set #[] 0 (.fresh 0 0 (!cP w))}}/\True) λS0=>⟨rfl,rfl,trivial⟩) λr f C=>?_;cases r with
 |error e=>exact C
 |ok fl=>
  cases fl with
  |ret p=>
   obtain⟨rfl,rfl,S0⟩:=C;have hS:=cy (h:=s.heap) (o:=({cls:=.type "set",dict:=ae,data:=.set #[] 0 (.fresh 0 0 (!cP w))}:Obj));have wo:(s.heap.push {cls:=.type "set",dict:=ae,data:=.set #[] 0 (.fresh 0 0 (!cP w))}).get? s.heap.objs.size=aa {cls:=.type "set",dict:=ae,data:=.set #[] 0 (.fresh 0 0 (!cP w))}:=cy _ rfl;have hT:Shared.TypeIs {s with heap:=s.heap.push {cls:=.type "set",dict:=ae,data:=.set #[] 0 (.fresh 0 0 (!cP w))}} (.ref s.heap.objs.size) "set":=⟨_,wo,rfl⟩
   have hli:=F.called_set.init.lookup;have hbi:=F.called_set.init.bind (.ref s.heap.objs.size)
   repeat any_goals (first|assumption|wp_step)
   refine nW (IS (R:=wants (λr M=>r=.none/\∃d m,M={s with heap:=d,toks:=m}/\J a.size d /\ (∀b o,b<s.heap.objs.size->s.heap.get? b=aa o->d.get? b=aa o)) E) F.called_set.init.plain F.entry_set_init (check_set_init_1 hT ?_)) λr2 M y=>?_
   .obtain⟨⟨S,n,z,g⟩,O,X,T,N⟩:=hl;simp only at X N;subst X;subst N;have Df:(s.heap.push {cls:=.type "set",dict:=ae,data:=.set #[] 0 (.fresh 0 0 (!cP w))}).get? l=aa {cls:=.type "tuple",dict:=n,data:=.seq a T,slots:=g}:=bn _ O;have Y:=PySem.F.sub_tuple_set;have Z:=PySem.F.sub_tuple_frozenset;have bT:(Value.type "tuple" == Value.type "dict")=aj:=by decide
    have W:(s.heap.push {cls:=.type "set",dict:=ae,data:=.set #[] 0 (.fresh 0 0 (!cP w))}).IsTuple l a:=⟨_,Df,rfl,T,rfl⟩
    unfold Builtin.«set.__init__» noKeywords Builtin.Frozenset.updateFrom;generalize H:mq=PI
    wp_walk
    subst H;refine wpAny_pyIter_tuple W (ap (wpAny_runValue ?_));have L:l<s.heap.objs.size:=bK O;have G:A.in1.in1.in1.handled=ae:=by simp[hh]
    have j:(s.heap.push {cls:=.type "set",dict:=ae,data:=.set #[] 0 (.fresh 0 0 (!cP w))}).objs.size=s.heap.objs.size+1:=zc ..;have Dg:l≠(s.heap.push {cls:=.type "set",dict:=ae,data:=.set #[] 0 (.fresh 0 0 (!cP w))}).objs.size:=by rw[j];exact cY (lg L)
    have tZ:s.heap.objs.size∉[(s.heap.push {cls:=.type "set",dict:=ae,data:=.set #[] 0 (.fresh 0 0 (!cP w))}).objs.size,l]:=by rw[j];simp only[bE,fe,jF,or_false,not_or];exact⟨cY (mB _),mo L⟩
    refine Fi ((Walks.tuple G _ l Dg a).toS) s.heap.objs.size tZ (λi h d D k=>hJ i h d D λb o t e=>k b o (by rw[j];simp only[fe];exact cY (Nat.lt_succ_of_le t)) e) (λi v f E Q hi hv D hq=>gf i v f E Q hi hv D hq) (a.size-0) 0 _ ∅ (j4 _)
     ⟨⟨_,cy _ rfl,rfl,rfl⟩,(Qy W)⟩ (hJ 0 _ _ I λb o _ e=>bn _ e) ?_
    intro s' q B;obtain⟨d,g',d',u,x⟩:=s';obtain rfl:g'=s.gens:=q.gens;obtain rfl:d'=s.drawn:=q.drawn;obtain rfl:x=s.os:=q.os;show ar _ _ _ _ _ _;refine aG ?_;show ar _ _ (ret Value.none) _ _ _;refine aG ⟨rfl,d,u,rfl,B,λb o t e=>q.heap b o ?_ (bn _ (bn _ e))⟩;rw[j];simp only[bE,fe,jF,or_false,not_or];exact⟨cY t,cY (lg t)⟩
   .cases r2 with
    |error e=>exact y
    |ok K=>
     cases K with
     |ret r=>
      obtain⟨rfl,d,m,rfl,B,mO⟩:=y
      repeat any_goals (first|assumption|wp_step)
      exact h _ _ B mO
     |_=>exact y.elim
  |_=>exact C.elim
theorem NT{l:ag}{a:Array ai}{c:List Str}{Q:ai->am->Prop}(x:A.handled=ae)(r:s.heap.IsTuple l a)(u:eP a.toList c)(z:(met (λi=>c.getD i eV) a.size).length<4000)(h:∀(d:aB) (j:Nat),jC P w d s.heap.objs.size (met (λi=>c.getD i eV) a.size)->(∀b o,b<s.heap.objs.size->s.heap.get? b=aa o->d.get? b=aa o)->Q (.ref s.heap.objs.size) {s with heap:=d,toks:=j}):ar (aw P w) A (call (.type "set") [.ref l]) Q E s:=by
 refine OE x r (J:=λi h=>jC P w h s.heap.objs.size (met (λi=>c.getD i eV) i)) (λi h d S k=>S.at λo e=>k _ o (aY _) e)
  ⟨#[],0,_,[],cy _ rfl,.nil,tF _,λe y=>by simp at y,by decide,rfl,rfl,λh=>absurd rfl h⟩ (λi v f E Q m p S q=>?_) h
 obtain⟨t,rfl⟩:=uU i v u (by rw[zp];exact p);unfold setAdd;refine jn ?_;have B:(jq P w).is (c.getD i eV) (.str (c.getD i eV) t)=ah:=by show nL _ (.str _ t)=ah;simp[nL]
 refine ap ((jq P w).pyHash (k:=c.getD i eV) B ?_);refine Eu (s:={f with toks:=f.toks+1}) S (vJ (AK _ (mn m)) z) λd b n g=>?_;rw[<-Bt (λi=>c.getD i eV)]at g;exact q d _ b (vK _) n g
end
section
variable{X:Cx}
theorem So(z:X.calm=ah):eM X (.type "set") (λxs H Q=>∃(p:ag) (c:List Tx),xs=[.ref p]/\cW X.K H p (dG c)/\(b0 c).length<4000/\∀a,H a=ae->Q (.ref a) (upd H a (lm X a (b0 c)))):=by
 intro L s B H xs C Q I r h;obtain⟨p,c,rfl,x,f,q⟩:=h;obtain⟨u,rfl,l⟩:=vals1 r;cases l;obtain⟨d,g,v,E⟩:=I.tuple x;have y:=g.length;rw[yv]at y;refine NT (P:=X.prog) (w:=X.w) (I.ok.hd z) v (by simpa using zM g) (by rw[cg,show d.length=c.length by lia,xi,cM];exact f) λA j S k=>?_;have i:jC X.prog X.w A s.heap.objs.size ((b0 c).map tS):=by
  have e:d.toArray.size=c.length:=by rw[cg];lia
  rw[e,xi]at S;exact S
 refine⟨.ref s.heap.objs.size,_,I.laid (t':=j) (o:=lm X s.heap.objs.size (b0 c)) (λb o e=>k b o (bK e) e) (aY _) ?_,rfl,q _ I.fresh⟩;obtain⟨J,K,t,D,e,_⟩:=i.ex;exact⟨i,⟨_,e⟩,λG F n m=>n.at m⟩
end
end L2
namespace Pu
open L2
section
variable{X:Cx}{E:XK}{e:az}{g:ak->R (List PV)}{p q f d:Pos}
def qm:List PV->Option PO
 |[.tup xs]=>(gA xs).bind λa=>if(b0 a).length<4000 then aa (.lst (ao (aR (b0 a))))else ae
 |_=>ae
def L4(X:Cx)(r:List V->Hp->VK->Prop):List V->Hp->VK->Prop:=λxs H Q=>∃(p:ag) (b:List Tx),xs=[.ref p]/\cW X.K H p (dG b)/\(b0 b).length<4000/\∀a,H a=ae->r [.ref a] (upd H a (lm X a (b0 b))) Q
theorem Lq:l0 X.K (L4 X (Ez X)) qm:=λF H xs G Q J C t e q=>by
 unfold qm at e;split at e
 .obtain⟨v,rfl,a,I,rfl,B,n⟩:=gH t;obtain⟨i,D,m⟩:=Option.bind_eq_some_iff.mp e;rw[rJ D]at n;obtain⟨rfl,y⟩:=Ul.mp n;split at m
  .rename_i s;cases m;refine⟨a,i,rfl,cW.of B,s,λb A=>⟨b,b0 i,rfl,upd_same,s,λl h=>?_⟩⟩;have j:l≠b:=by rintro rfl;rw[upd_same]at h;cases h
   have r:H l=ae:=by rw[bj j]at h;exact h
   have al:Al F F H (upd (upd H b (lm X b (b0 i))) l (.lst (dG (aR (b0 i))))):=(Al.new0 A).trans (Al.new0 h);refine q l F _ (λc=>c=l) al ⟨⟨_,upd_same,Ul.mpr ⟨rfl,λx u=>y x ((l9 _ _).mp ((eY _).mem_iff.mp u))⟩⟩,λc=>qR⟩ λc z=>?_;subst z;exact⟨r,λz=>Exists.elim (C _ z) (λo w=>by rw[r]at w;cases w),_,upd_same,trivial⟩
  .cases m
 .cases e
theorem K6(b:X.calm=ah)(m:DA X E [e] g)(j:X.mg "sorted"=ae)(c:X.mg "set"=ae)(l:Gl X "sorted":=by rfl)(a:Gl X "set":=by rfl)(h:me e=aj:=by rfl):DN X E (.Call (.Name "sorted" p) [.Call (.Name "set" q) [e] [] d] [] f) (dL qm g):=λF S r o H Q i n=>bU (o4 (Ga b) l j oU (iH (yq (So b) a c FO gL (by decide) (by decide) (ka h) rfl) jU (ka rfl)) (by decide) (by decide) (ka rfl) rfl) (uL Lq m i n)
end
end Pu
namespace L2
open Mx
section
variable{P:aQ}{w:aE}{A:aT}{E:ai->am->Prop}{s:am}
def vg(P:aQ)(w:aE)(A:aT)(h:aB)(v:ai)(x:Int)(d:Nat):Prop :=
 ∀(s:am) (E:ai->am->Prop) (Q:Int->am->Prop),s.heap=h->Q x {s with toks:=s.toks+d}->ar (aw P w) A (pyHash v) Q E s
theorem Fy{h:aB}{a:ag}{f:Array ai}{hs:List (ai×Int×Nat)}(t:A.units<cLine)(r:IsTup h a f)(v:f.toList=hs.map (·.1))(y:∀p∈hs,vg P w A.in1 h p.1 p.2.1 p.2.2):vg P w A h (.ref a) (sY (ml (hs.map (·.2.1)))) ((hs.map (·.2.2)).sum+1):=λs E Q B g=>by
 subst B;have j:s.TypeIs (.ref a) "tuple":=tupTy r;obtain⟨o,u,_,n,z⟩:=r;unfold pyHash
 first|unfold pyHashByItsType|skip
 first|refine ap (wpAny_cRoomFor_or (.inr t) ?_)|skip
 refine ap (y_ j F.slot_tuple_hash.lookup ?_);show ar _ _ (if(aa (Value.builtin "tuple.__hash__") == aa Value.none)=ah then _ else _) Q E _;rw[if_neg (by rw[beq_builtin_none];exact fc)];refine ap (y_ j F.slot_tuple_hash.lookup ?_);show ar _ _ (callSpecialIfBoundUnlessNone? (.ref a) "__hash__" _ >>= _) Q E _;refine ap (wpAny_callSpecialIfBoundUnlessNone?_slot j TW (vE TW j F.entry_tuple_hash ?_ (F.args_tuple_hash_1 _)));show ar _ _ (Builtin.Tuple.tupleItemsOf (.ref a) >>= _) _ _ _;refine ap (wpAny_tupleItemsOf u z ?_);refine ap ?_;rw[<-Array.forIn_toList,v];refine C0 _
  (λrest (b:Array Int) q=>∃c d,hs=c++d/\rest=d.map (·.1)/\b.toList=c.map (·.2.1)/\q={s with toks:=s.toks+(c.map (·.2.2)).sum})
  _ ?_ ?_ _ _ ⟨[],hs,rfl,rfl,rfl,rfl⟩
 .rintro x rest b q ⟨c,d,rfl,i,m,rfl⟩;cases d with
  |nil=>cases i
  |cons p d=>
   rw[cn]at i;injection i with h1 h2;subst h1 h2;refine ap (y p (by simp) _ _ _ rfl ?_)
   first
    |exact aG ⟨c++[p],d,by simp,rfl,by simp[m],by simp[ph]⟩
    |exact ap (aG (aG ⟨c++[p],d,by simp,rfl,by simp[m],by simp[ph]⟩))
 .rintro b q ⟨c,d,rfl,i,m,rfl⟩;have:d=[]:=by cases d with|nil=>rfl|cons=>cases i
  subst this;rw[fW]at g;show ar _ _ (retInt (ml b.toList)) _ _ _;rw[m];refine wpAny_ret_mkInt ?_;show ar _ _ (if(decide (-(2:Int)^63<=ml (c.map (·.2.1)))&&decide (ml (c.map (·.2.1))<2^63))=ah then _ else _) Q E _;unfold sY at g;by_cases l:(decide (-(2:Int)^63<=ml (c.map (·.2.1)))&&decide (ml (c.map (·.2.1))<2^63))=ah
  .rw[if_pos l];rw[if_pos l]at g;exact aG (by simpa[ph]using g)
  .rw[if_neg l];rw[if_neg l]at g;exact ap (nZ (aG (by simpa[ph]using g)))
theorem Eh{h:aB}(z:Str)(t:Tok):vg P w A h (.str z t) (mj w z) 1:=λs E Q _ a=>(jq P w).pyHash (s:=s) (k:=z) (by show nL z (.str z t)=ah;simp[nL]) a
def um(h:aB)(k:Str×List Str)(a:ag):Prop:=∃(b:ag) (t:Tok) (c:Array ai),IsTup h a #[.str k.1 t,.ref b]/\IsTup h b c/\eP c.toList k.2
theorem um.inj{h:aB}{k d:Str×List Str}{a:ag}(x:um h k a)(y:um h d a):k=d:=by obtain⟨b,t,g,l,j,i⟩:=x;obtain⟨q,p,f,m,n,c⟩:=y;have:=congrArg Array.toList (tup_uniq l m);simp at this;obtain⟨⟨o,_⟩,rfl⟩:=this;obtain rfl:=tup_uniq j n;exact Prod.ext o (strs_uniq i c)
theorem Sw{h:aB}{c:List ai}{b:List Str}(x:eP c b):∃hs:List (ai×Int×Nat),c=hs.map (·.1)/\hs.map (·.2.1)=b.map (mj w)/\(hs.map (·.2.2)).sum=b.length/\∀p∈hs,vg P w A h p.1 p.2.1 p.2.2:=by
 induction x with
 |nil=>exact⟨[],rfl,rfl,rfl,λp a=>by simp at a⟩
 |cons z t _ d=>
  obtain⟨hs,j,i,g,f⟩:=d;refine⟨(.str z t,mj w z,1)::hs,by rw[j];rfl,by rw[cn,i];rfl,by simp[g];lia,λp a=>?_⟩;rcases bE.mp a with rfl|a
  .exact Eh z t
  .exact f p a
theorem GI{h b:aB}{a d:ag}{x:Array ai}{o:Obj}{es ep}(g:IsTup h a x)(i:h.get? d=aa o)(j:o.data=.dict es ep)(hs:k7 d h b):IsTup b a x:=by
 obtain⟨f,e,c,n,r⟩:=g;have l:a≠d:=by
  rintro rfl;rw[i]at e;cases e;rw[j]at r;cases r
 exact⟨f,(hs.2 a l).trans e,c,n,r⟩
def Kh(P:aQ)(w:aE):HeapKind P w (Str×List Str) where
 is:=um
 hash:=Ev w
 draws:=λk=>k.2.length+3
 room:=λA=>A.units+4<cLine
 inj:=λx y=>x.inj y
 keeps:=λ⟨b,t,c,l,i,g⟩ F G hs=>⟨b,t,c,GI l F G hs,GI i F G hs,g⟩
 pyHash:=λ{A E s k a Q} M x N=>by
  obtain⟨b,t,c,l,i,g⟩:=x;obtain⟨hs,L,K,J,I⟩:=Sw (P:=P) (w:=w) (A:=A.in1.in1) (h:=s.heap) g;have f:vg P w A.in1 s.heap (.ref b) (sY (ml (k.2.map (mj w)))) (k.2.length+1):=by have:=Fy (P:=P) (w:=w) (A:=A.in1) (show A.units+1<cLine by lia) i L I;rw[K,J]at this;exact this
  have d:=Fy (P:=P) (w:=w) (A:=A) (hs:=[(.str k.1 t,mj w k.1,1),(.ref b,sY (ml (k.2.map (mj w))),k.2.length+1)]) ∅ l rfl λp D=>by
   simp only[bE,jF,or_false]at D;rcases D with rfl|rfl
   .exact Eh _ _
   .exact f
  refine d s E Q rfl ?_;have T:([((Value.str k.1 t,mj w k.1,1):ai×Int×Nat),(.ref b,sY (ml (k.2.map (mj w))),k.2.length+1)].map (·.2.2)).sum+1=k.2.length+3:=by simp;lia
  rw[T];exact N
 eqBool:=λ{A E s x y a X Q} M C B q=>by
  by_cases m:a=X
  .subst m;obtain rfl:=C.inj B;rw[decide_eq_true rfl]at q;exact SeqAt.EqAt.same _ _ _ _ _ q
  .obtain⟨b,t,c,l,i,g⟩:=C;obtain⟨b',t',u,O,S,r⟩:=B;have W:decide (x=y)=((cz (min 2 2)).all (λj=>if j=0 then x.1 == y.1 else decide (x.2=y.2))&&2 == 2):=by obtain⟨x1,x2⟩:=x;obtain⟨Z,Y⟩:=y;rw[mr];simp[tD]
   rw[W]at q;refine SeqAt.EqAt.of_refs m (.tuples l O ∅ λj H j2=>?_) _ _ _ _ q
   match j,H with
   |0,_=>exact ID _ _ _ _
   |1,_=>exact eq_strs (show A.units+1<cLine by lia) i g S r
 quiet:=λ⟨b,t,c,l,i,g⟩ q=>by
  refine quiet_tup (n:=7) l (λv o E Q q=>?_) q;simp only[bE,jF,or_false]at o;rcases o with rfl|rfl
  .exact zh (by unfold vS;rfl) q
  .refine quiet_tup (n:=6) i (λv o E Q q=>?_) q;obtain⟨z,t,rfl⟩:=strs_mem_shape g v o;exact zh (by unfold vS;rfl) q
abbrev KN(H:Hp):List ((Str×List Str)×V)->List ((Str×List Str)×ag×ai)->Prop:=ku λp q=>p.1=q.1/\pU H p.1 q.2.1/\RelV p.2 q.2.2
theorem KN.val{H:Hp}{a:List ((Str×List Str)×V)}{xs:List ((Str×List Str)×ag×ai)}(r:KN H a xs)(k:Str×List Str):nK (fP a k) ((atKey xs k).map (·.2)):=by
 induction r with
 |nil=>exact True.intro
 |@cons p q ps qs h t ih=>
  obtain⟨b,_,c⟩:=h;by_cases e:p.1=k
  .rw[sF e,show atKey (q::qs) k=aa q.2 by simp[atKey,iU,b.symm.trans e]];exact c
  .have d:¬q.1=k:=λz=>e (b.trans z);rw[sj e,show atKey (q::qs) k=atKey qs k by simp[atKey,iU,d]];exact ih
theorem Fo:∀{ks:List Str}{a:List ai},bv (ks.map V.str) a->eP a ks
 |[],_,r=>by rw[vH]at r;cases r;exact .nil
 |k::ks,_,r=>by
  rw[cn]at r;cases r with
  |cons h t=>obtain⟨b,rfl⟩:=h;exact .cons _ _ (Fo t)
theorem xC{H:Hp}{h:aB}{k:Str×List Str}{a:ag}(ok:dj P w H h)(e:pU H k a):um h k a:=by
 obtain⟨b,n,m⟩:=e;obtain⟨_,o,c,f,_⟩:=ok a _ n;obtain⟨_,i,g,d,_⟩:=ok b _ m;cases c with
 |cons l c=>cases c with
  |cons j c=>
   cases c;obtain⟨t,rfl⟩:=l;cases (show _=Value.ref b from j);exact⟨b,t,i.toArray,f,d,by simpa using Fo g⟩
theorem BF{H:Hp}{h:aB}{a:ag}{b:List ((Str×List Str)×V)}(ok:dj P w H h)(e:H a=aa (.dN b)):b.length<=a_/\(a == jY)=aj/\∃xs,KN H b xs/\h.DictOfH (Kh P w) a xs:=by
 obtain⟨z,y,xs,r,o,n,u,j,i,g,f,d⟩:=ok a _ e;refine⟨z,y,xs,r,o,n,u,j,i,g,f,λx c=>?_,d⟩;have all:∀{l:List ((Str×List Str)×V)}{m:List ((Str×List Str)×ag×ai)},KN H l m->∀x∈m,um h x.1 x.2.1:=by
  intro l m q
  induction q with
  |nil=>intro x c;exact nomatch c
  |@cons p q ps qs hq t ih=>
   intro x c;rcases bE.mp c with e|c
   .subst e;exact xC ok (by rw[<-hq.1];exact hq.2.1)
   .exact ih x c
 exact all r x c
end
def PZ(g ty:TE):TE:=λf H Q=>g f H λx h=>ty f h λy d=>∃a b c k v,x=.ref a/\y=.ref b/\d a=aa (.dN c)/\pU d k b/\fP c k=aa v/\Q v d
def MZ(d:Bool)(ty h:TE):TE:=λg H Q=>ty g H λy i=>h g i λx f=>∃a b c k,x=.ref a/\y=.ref b/\f a=aa (.dN c)/\pU f k b/\Q (.bl (d^^(fP c k).isSome)) f
def Mn(h ty g:TE):TS:=λD d H=>g d H λv j=>h d j λx i=>ty d i λy f=>∃a b c k,x=.ref a/\y=.ref b/\f a=aa (.dN c)/\pU f k b/\fP c k=ae/\c.length<a_/\D.nx d (upd f a (.dN (c++[(k,v)])))
section
variable{X:Cx}{o i e d:az}{f g n:Pos}{l j m:TE}
theorem Ml(hu:X.A.units+8<cLine)(O:PE X o l)(S:PE X i j)(M:uN i):PE X (.Subscript o i f) (PZ l j):=by intro A s t H Q I h;refine HD PySem.F.slot_dict_getitem.lookup M (aL (O A s t H _ I h) λu B ⟨x,H1,Z,D,F⟩=>aL (S A B t H1 _ Z F) λJ s2 ζ=>?_);obtain⟨y,H2,r,C,a,b,G,k,v,Y,W,e,P,L,E⟩:=ζ;subst Y W;obtain rfl:u=Value.ref a:=D;obtain rfl:J=Value.ref b:=C;obtain⟨z,hd,xs,q,w⟩:=BF r.hok e;obtain⟨w',K,c⟩:=nK.some_of (v:=v) (o:=(atKey xs k).map (·.2)) (by rw[<-L];exact q.val k);obtain⟨p,N,T⟩:=mw.mp K;refine⟨w.typeIs,wpAny_getItem_heap (show X.A.in1.units+4<cLine from(show X.A.units+1+4<cLine by lia)) (xC r.hok P) w N ?_⟩;rw[T];exact⟨v,H2,r.tok _,c,E⟩
theorem Nv(W:X.A.units+8<cLine)(J:PE X i j)(F:PE X o l):PC X .NotIn i o (MZ ah j l):=by intro w s t H Q I h;refine aL (J w s t H _ I h) λE A ⟨y,S,O,B,D⟩=>aL (F w A t S _ O D) λu T ζ=>?_;obtain⟨x,P,r,C,a,b,p,k,M,L,e,G,v⟩:=ζ;subst M L;obtain rfl:u=Value.ref a:=C;obtain rfl:E=Value.ref b:=B;obtain⟨z,K,xs,c,N⟩:=BF r.hok e;refine wpAny_notIn_heap (show X.A.in1.units+4<cLine from(show X.A.units+1+4<cLine by lia)) (xC r.hok G) K N ?_;have q:=(c.val k).isSome_eq;rw[vI]at q;rw[<-q];rw[tP]at v;exact⟨.bl (!(fP p k).isSome),P,r.tok _,rfl,v⟩
theorem R8(hu:X.A.units+8<cLine)(ho:PE X o l)(hi:PE X i j)(hv:PE X d m)(G:kw d (aa (.Subscript o i g)) f.line X.env=pure aj):PS X (.Assign [.Subscript o i g] d f) (Mn l j m):=by
 intro M s C H D I h;refine wpAny_Assign_Subscript (aL (hv M s C H _ I h) λr W ⟨v,H1,I1,rv,q1⟩=>aL (ho M W C H1 _ I1 q1) λu T ⟨x,H2,I2,Z,q2⟩=>aL (hi M T C H2 _ I2 q2) λiv s3 ⟨y,O,N,Y,a,b,w,k,ex,ey,e,Q,hn,hl,q3⟩=>?_) G;subst ex ey;obtain rfl:u=Value.ref a:=Z;obtain rfl:iv=Value.ref b:=Y;obtain⟨z,hd,xs,t,dd⟩:=BF N.hok e;have hz:xs.length<=a_:=by rw[<-Cc t];exact z
 refine wpAny_setItem_heap (hsz:=hz) (show X.A.in1.units+4<cLine from(show X.A.units+1+4<cLine by lia)) (xC N.hok Q) dd λh' B G=>?_;have J:atKey xs k=ae:=by have q:=(t.val k).isSome_eq;rw[hn,vI]at q;simpa using q.symm
 rw[storedH_new J]at B;obtain⟨q,es,ep,P,A,h3,h4,_,h5⟩:=B;refine⟨C,upd O a (.dN (w++[(k,v)])),w_ (ob:=.dN (w++[(k,v)])) N (by rw[e];exact True.intro) G ⟨q,P⟩ ⟨by rw[cL];exact hl,hd,xs++[(k,b,r)],?_,q,es,ep,P,A,h3,h4,h5⟩,q3⟩;have E:∀{c:ag}{F:List V},O c=aa (.tup F)->upd O a (.dN (w++[(k,v)])) c=aa (.tup F):=λ{c F} S=>by rw[bj (DU S e (λz=>nomatch z))];exact S
 refine y8 (Paired.mapP t λp q z=>⟨z.1,?_,z.2.2⟩) ⟨rfl,?_,rv⟩
 .obtain⟨L,K,A⟩:=z.2.1;exact⟨L,E K,E A⟩
 .obtain⟨L,K,A⟩:=Q;exact⟨L,E K,E A⟩
def Nf:TE:=λ_ H Q=>∀p,H p=ae->Q (.ref p) (upd H p (.dN []))
theorem LV{P:aQ}{w:aE}{H:Hp}(h:aB)(a:jY<h.objs.size):cq P w H (h.push {cls:=.type "dict",data:=.dict #[]}) h.objs.size (.dN []):=by
 obtain⟨z,y,xs,r,o,s,t,q,p,c,b,u⟩:=OI (P:=P) (w:=w) (H:=H) h a;cases r;exact⟨z,y,[],.nil,o,s,t,q,p,c,b,.nil⟩
theorem JI:PE X (.Dict [] [] f) Nf:=λc s b H Q I h=>wpAny_Dict_empty ⟨.ref s.heap.objs.size,_,I.laid (a:=s.heap.objs.size) (o:=.dN []) (t':=s.toks) (λ_ _ q=>bn _ q) (aY _) (LV s.heap I.big),rfl,h _ (I.hok.fresh (aY _))⟩
end
end L2
namespace Pu
open L2
def valN(a:List ((Tx×List Tx)×PV))(k:Tx×List Tx):Option PV:=(a.find? λb=>decide (b.1=k)).map (·.2)
def mV:PV->Option (Tx×List Tx)
 |.tup [.str t,.tup xs]=>(gA xs).map λa=>(t,a)
 |_=>ae
theorem Ni{x y:Tx×List Tx}(h:nS x=nS y):x=y:=by have d:=congrArg Prod.fst h;have c:=congrArg Prod.snd h;refine Prod.ext (p6 d) ?_;exact(List.map_inj_right λa b e=>p6 e).mp c
section
variable{K:ax}{F:ag->Prop}{S:Nat->ag->Prop}{ε:ak}{g:St}{H:Hp}{i:Nat}{d:List ((Tx×List Tx)×PV)}{f:List ((Str×List Str)×V)}{a:ag}
theorem A2{x:PV}{v:V}{k:Tx×List Tx}(r:a8 K H F x v)(e:mV x=aa k):∃b,v=.ref b/\pU H (nS k) b:=by
 unfold mV at e;split at e
 .rename_i t xs;obtain⟨j,q,rfl⟩:=mw.mp e;obtain rfl:=rJ q;obtain⟨b,s,rfl,n,h⟩:=r;obtain⟨w,A,rfl,p,h⟩:=h;obtain⟨u,z,rfl,o,h⟩:=h;cases h;obtain⟨c,y,rfl,m,l⟩:=o;obtain⟨rfl,_⟩:=Ul.mp l;refine⟨b,rfl,c,?_,?_⟩
  .rw[n,p.1];rfl
  .rw[m];show aa (HO.tup (dG j))=aa (HO.tup ((j.map tS).map V.str));rw[eJ];rfl
 .cases e
theorem mf.len(h:mf K H F d f):f.length=d.length:=by
 unfold mf at h
 induction h with
 |nil=>rfl
 |cons _ _ b=>simp[b]
theorem mf.val(h:mf K H F d f)(k:Tx×List Tx):(∃x v,valN d k=aa x/\fP f (nS k)=aa v/\a8 K H F x v)\/(valN d k=ae/\fP f (nS k)=ae):=by
 unfold mf at h
 induction h with
 |nil=>exact .inr ⟨rfl,rfl⟩
 |@cons p q ps qs r _ ih=>
  by_cases e:p.1=k
  .refine .inl ⟨p.2,q.2,by simp[valN,iU,e],?_,r.2⟩;rw[sF (by rw[<-r.1,e])]
  .have b:¬q.1=nS k:=by rw[<-r.1];exact λz=>e (Ni z)
   rw[sj b];have:valN (p::ps) k=valN ps k:=by simp[valN,iU,e]
   rw[this];exact ih
theorem aX.dnAt(r:aX K F S ε g H)(e:ε[i]?=aa (.own (.dN d))):∃a f,g[i]?=aa (aa (.ref a))/\H a=aa (.dN f)/\mf K H F d f/\S i a/\∀b,S i b->b=a:=by obtain⟨a,n,⟨j,m,l⟩,c⟩:=r.own i _ e;exact⟨a,j,n,m,l,(c a).mpr rfl,λb h=>(c b).mp h⟩
end
def jj(b:ak)(i:Nat):Option (List ((Tx×List Tx)×PV)):=match b[i]? with
 |some (.own (.dN a))=>aa a
 |_=>ae
theorem rZ{b:ak}{i:Nat}{a:List ((Tx×List Tx)×PV)}(h:jj b i=aa a):b[i]?=aa (.own (.dN a)):=by
 unfold jj at h;split at h
 .cases h;assumption
 .cases h
section
variable{X:Cx}{E:XK}{pin:List Nat}{e b c:az}{de d g:ak->R PV}{f:Pos}
def vn(i:Nat)(d:ak->R PV):ak->R PV:=λa=>(aF (jj a i) a).bind λ_ a=>(d a).bind λk ε1=>(aF (jj ε1 i) ε1).bind λh ε1=>aF ((mV k).bind λk=>valN h k) ε1
theorem SF(i:Nat){y:Str}{B:Pos}(hu:X.A.units+64<cLine)(N:DE X E b d)(P:X.N[i]?=aa y:=by rfl)(T:ef X.env.scope y:=by first|exact Or.inl rfl|exact Or.inr (Or.inl rfl)|exact Or.inr (Or.inr rfl))(M:(y==("__debug__":Str))=aj:=by decide) (W:(y==("__classdict__":Str))=aj:=by decide) (K:uN b:=by exact λ_ _=>rfl):DE X E (.Subscript (.Name y B) b f) (vn i d):=λF S p A H Q r h=>by
 unfold vn at h;cases o:jj p i with
 |none=>rw[o]at h;exact h.elim
 |some w=>
  rw[o]at h;simp only[b_,R.bind_ok]at h;obtain⟨a,C,z,_⟩:=r.dnAt (rZ o);refine bU (Ml ∅ (fj P T M W) bD K) ⟨.ref a,z,N F S p A H _ r ((Ok.bind h).imp λk l F1 Z H1 s g1 q u G=>?_)⟩;cases n:jj l i with
  |none=>rw[n]at q;exact q.elim
  |some J=>
   rw[n]at q;simp only[b_,R.bind_ok]at q;obtain⟨a',D,j,O,L,_⟩:=s.dnAt (rZ n);rw[z]at j;cases j;cases m:mV k with
   |none=>rw[m]at q;exact q.elim
   |some t=>
    rw[m,gT]at q;obtain⟨Y,rfl,I⟩:=A2 G m;rcases L.val t with⟨x,v,h1,h2,h3⟩|⟨h1,h2⟩
    .rw[h1]at q;exact⟨a,Y,D,nS t,v,rfl,rfl,O,I,h2,q F1 Z H1 s (bz.refl ..) v h3⟩
    .rw[h1]at q;exact q.elim
def u9(i:Nat)(d de:ak->R PV):ak->R aP:=λj=>(de j).bind λy ε1=>(aF (jj ε1 i) ε1).bind λ_ ε1=>(d ε1).bind λk a=>(aF (jj a i) a).bind λh a=>(aF (mV k) a).bind λk a=>if h.length<b8/\(valN h k).isNone=ah then .ok .next (a.set i (.own (.dN (h++[(k,y)]))))else .no
theorem QL(i:Nat){y:Str}{L l:Pos}(hu:X.A.units+64<cLine)(hb:DE X E b d)(he:DE X E e de)(hN:X.N[i]?=aa y:=by rfl)(dS:ef X.env.scope y:=by first|exact Or.inl rfl|exact Or.inr (Or.inl rfl)|exact Or.inr (Or.inr rfl))(hd:(y==("__debug__":Str))=aj:=by decide) (bo:(y==("__classdict__":Str))=aj:=by decide) (hs:kw e (aa (.Subscript (.Name y L) b l)) f.line X.env=pure aj:=by rfl):DS X E pin (.Assign [.Subscript (.Name y L) b l] e f) (u9 i d de):=λF S Q t H D rl h=>by
 refine je (R8 ∅ (fj hN dS hd bo) bD bD hs) (he F S Q t H _ rl (h.bindE.imp λy n F1 S1 H1 z g1 q v Y=>?_));cases K:jj n i with
 |none=>rw[K]at q;exact q.elim
 |some N=>
  rw[K]at q;simp only[b_,R.bind_ok]at q;obtain⟨a,T,I,ha0,_⟩:=z.dnAt (rZ K);refine⟨.ref a,I,hb F1 S1 n t H1 _ z (q.bindE.imp λk w P S2 H2 M g2 j u Z=>?_)⟩;cases s:jj w i with
  |none=>rw[s]at j;exact j.elim
  |some o=>
   rw[s]at j;simp only[b_,R.bind_ok]at j;obtain⟨a',r,p,ha,B,_⟩:=M.dnAt (rZ s);rw[I]at p;cases p;cases J:mV k with
   |none=>rw[J]at j;exact j.elim
   |some m=>
    rw[J]at j;simp only[b_,R.bind_ok]at j;split at j
    .rename_i A;obtain⟨A,O⟩:=A;obtain⟨bb,rfl,qW⟩:=A2 Z J;have W:fP r (nS m)=ae:=by
      rcases B.val m with⟨x,v,h1,h2,h3⟩|⟨h1,h2⟩
      .rw[h1]at O;cases O
      .exact h2
     have cD:mf X.K H2 P (o++[(m,y)]) (r++[(nS m,v)]):=y8 B ⟨rfl,Y.grow g2 z.fit⟩;obtain⟨r3,g3⟩:=M.updO (po':=.dN (o++[(m,y)])) (o':=.dN (r++[(nS m,v)])) (rZ s) rfl I trivial λH' m1 m2 G Sa C=>⟨⟨_,G,cD.mono m1⟩,C⟩
     exact⟨a,bb,r,nS m,rfl,rfl,ha,qW,W,by rw[B.len];exact fU A kP,j P S2 t _ r3 g3 (ju.refl _ _)⟩
    .exact j.elim
def Bs:ak->R PO:=λa=>.ok (.dN []) a
theorem Tw:DN X E (.Dict [] [] f) Bs:=λF S m l H Q i h=>bU JI λp a=>by
 have al:Al F F H (upd H p (.dN [])):=Al.new0 a;refine h F S _ (i.al al) al.grow p (λb=>b=p) ⟨⟨[],upd_same,.nil⟩,λb=>qR⟩ λb z=>?_;subst z;refine⟨a,λz=>?_,λ⟨j,z⟩=>?_,_,upd_same,trivial⟩
 .obtain⟨o,q⟩:=i.ex b z;rw[a]at q;cases q
 .obtain⟨_,_,o,q,_⟩:=i.foot j b z;rw[a]at q;cases q
def qy(a:Bool)(i:Nat)(d:ak->R PV):ak->R PV:=λj=>(d j).bind λk ε1=>(aF (jj ε1 i) ε1).bind λh ε1=>aF ((mV k).map λk=>.bl (a^^(valN h k).isSome)) ε1
theorem Kd(i:Nat){y:Str}{o:Pos}(Z:X.A.units+64<cLine)(M:DE X E b d)(O:X.N[i]?=aa y:=by rfl)(T:ef X.env.scope y:=by first|exact Or.inl rfl|exact Or.inr (Or.inl rfl)|exact Or.inr (Or.inr rfl))(L:(y==("__debug__":Str))=aj:=by decide) (W:(y==("__classdict__":Str))=aj:=by decide) (J:nO .NotIn (.Name y o)=aj:=by rfl):DT X E (.Compare b [.NotIn] [.Name y o] f) (dB (qy ah i d)):=λF S A z H Q D h=>by
 refine qt (yE (Nv ∅ bD (fj O T L W)) J) ?_;have r:=pM h;unfold qy at r;refine M F S A z H _ D ((Ok.bind r).imp λk j w s t l g1 q u C=>?_);cases n:jj j i with
 |none=>rw[n]at q;exact q.elim
 |some I=>
  rw[n]at q;simp only[b_,R.bind_ok]at q;obtain⟨a,B,P,N,K,_⟩:=l.dnAt (rZ n);cases m:mV k with
  |none=>rw[m]at q;exact q.elim
  |some p=>
   rw[m,pf]at q;obtain⟨Y,rfl,G⟩:=A2 C m;refine⟨.ref a,P,a,Y,B,nS p,rfl,rfl,N,G,?_⟩;rcases K.val p with⟨x,v,h1,h2,h3⟩|⟨h1,h2⟩
   .rw[h1]at q;rw[h2];exact q w s t l (bz.refl ..) _ rfl
   .rw[h1]at q;rw[h2];exact q w s t l (bz.refl ..) _ rfl
end
end Pu
namespace L2
open Mx SeqAt
def eT(x:Int)(y:Str)(a:Int)(b:Str):Bool:=if x=a then decide (y.cps.toList<b.cps.toList)else decide (x<a)
theorem Nb(l b:ag)(x a:Int)(y c:Str)(t u B z:Tok)(n K:Nat)(O I:Option ag)(J D:Array (Option ai)):Meets (Builtin.«tuple.__lt__» ⟨[.ref l,.ref b],[]⟩) (λ_ R s=>s.heap.get? l=aa {cls:=.type "tuple",dict:=O,data:=.seq #[.int x t,.str y u] n,slots:=J}/\s.heap.get? b=aa {cls:=.type "tuple",dict:=I,data:=.seq #[.int a B,.str c z] K,slots:=D} /\ R (.ok (.ret (.bool (eT x y a c)))) s) :=
 .of_wp λprog w A R s h=>by
  obtain⟨r,g,d,j,m⟩:=s;obtain⟨M,N,h⟩:=h;have f2:=AutoSeq1.sub_tuple_tuple
  wp_walk using y6 M,y6 N,C0 _ (λrest b F=>b.1=ae/\F=⟨r,g,d,j,m⟩/\(rest=[((Value.int x t:ai),(Value.int a B:ai)),(.str y u,.str c z)] \/ x=a/\rest=[((Value.str y u:ai),(Value.str c z:ai))]\/x=a/\y=c/\rest=[])) _
  case turn=>
   rintro⟨p,q⟩ rest b F ⟨G,rfl,f|⟨C,f⟩|⟨_,_,f⟩⟩
   .cases f;refine ap (EqAt.int_int x t a B prog w _ _ ?_);by_cases e:x=a
    .subst e;rw[beq_self_eq_true]
     wp_walk
     exact⟨rfl,rfl,.inr (.inl ⟨rfl,rfl⟩)⟩
    .rw[beq_false_of_ne e];have H:R (.ok (.ret (.bool (decide (x<a))))) ⟨r,g,d,j,m⟩:=by unfold eT at h;rwa[if_neg e]at h
     have o:∀(E:ai->am->Prop) (Q:ai->am->Prop),Q (.bool (decide (x<a))) ⟨r,g,d,j,m⟩->ar (aw prog w) A.in1 (richCompare .Lt (.int x t) (.int a B)) Q E ⟨r,g,d,j,m⟩:=λE Q h=>CmpOf.ints_lt (prog:=prog) (w:=w) (A:=A.in1) (P:=λi v=>∃t,v=.int (if i=0 then x else a) t) (λi=>if i=0 then x else a) (λi v h=>h) 0 1 _ _ _ _ _ ⟨t,rfl⟩ ⟨B,rfl⟩ (by simpa using h)
     wp_walk using o
     exact⟨_,rfl,by simpa using H⟩
   .cases f;subst C;refine ap (EqAt.str_str y u c z prog w _ _ ?_);by_cases e:y=c
    .subst e;rw[beq_self_eq_true]
     wp_walk
     exact⟨rfl,rfl,.inr (.inr ⟨rfl,rfl,rfl⟩)⟩
    .rw[beq_false_of_ne e];have H:R (.ok (.ret (.bool (decide (y.cps.toList<c.cps.toList))))) ⟨r,g,d,j,m⟩:=by unfold eT at h;rwa[if_pos rfl]at h
     have o:∀(E:ai->am->Prop) (Q:ai->am->Prop),Q (.bool (decide (y.cps.toList<c.cps.toList))) ⟨r,g,d,j,m⟩->ar (aw prog w) A.in1 (richCompare .Lt (.str y u) (.str c z)) Q E ⟨r,g,d,j,m⟩:=λE Q h=>(PyProof.Rows.lt_str h:ar (aw prog w) A.in1 (eC .Lt (.str y u) (.str c z)) Q E _)
     wp_walk using o
     exact⟨_,rfl,by simpa using H⟩
   .cases f
  case fin=>
   rintro⟨b1,b2⟩ F ⟨G,rfl,f|⟨C,f⟩|⟨C,hy,_⟩⟩
   .cases f
   .cases f
   .simp only at G;subst G C hy;have L:eT x y x y=aj:=by unfold eT;rw[if_pos rfl];exact decide_eq_false (zv _)
    rw[L]at h
    wp_walk
    exact⟨_,rfl,by simpa[Builtin.Tuple.tupleCompareSizes]using h⟩
  case h=>exact⟨rfl,rfl,.inl rfl⟩
def pZ(h:aB)(k:Int×Str)(v:ai):Prop:=∃a t u,v=.ref a/\IsTup h a #[.int k.1 t,.str k.2 u]
section
variable{P:aQ}{w:aE}{A:aT}{E:ai->am->Prop}{s:am}
theorem SI{k a:Int×Str}{v g:ai}{Q:ai->am->Prop}(G:pZ s.heap k v)(z:pZ s.heap a g)(H:A.units<cLine)(h:Q (.bool (eT k.1 k.2 a.1 a.2)) s):ar (aw P w) A (richCompare .Lt v g) Q E s:=by
 obtain⟨l,t,u,rfl,I⟩:=G;obtain⟨b,C,B,rfl,J⟩:=z;obtain⟨⟨L,K,r,D⟩,o,q,n,p⟩:=id I;obtain⟨⟨y,d,f,c⟩,m,j,F,i⟩:=id J;simp only at q p j i;subst q p j i;exact richCompare_meets_room (op:=.Lt) ⟨_,o,rfl⟩ ⟨_,m,rfl⟩ PySem.F.slot_tuple_lt PySem.F.entry_tuple_lt (PySem.F.args_tuple_lt_2 _ _) (Nb l b k.1 a.1 k.2 a.2 t u C B n F K d D c)
  ⟨o,m,show Value.bool (eT k.1 k.2 a.1 a.2)≠Value.notImplemented/\Q (.bool (eT k.1 k.2 a.1 a.2)) s from⟨(λx=>nomatch x),h⟩⟩ H
theorem pZ.keep{h c:aB}{k:Int×Str}{v:ai}(x:pZ h k v)(g:∀b o,h.get? b=aa o->o.cls=.type "tuple"->c.get? b=aa o):pZ c k v:=by obtain⟨a,t,u,rfl,d⟩:=x;exact⟨a,t,u,rfl,tup_kept d g⟩
theorem Le{a b c:Int×Str}(f:eT a.1 a.2 b.1 b.2=ah)(d:eT b.1 b.2 c.1 c.2=ah):eT a.1 a.2 c.1 c.2=ah:=by
 unfold eT at *;split at f <;> split at d <;> split <;> simp only[decide_eq_true_iff]at * <;> first|lia|skip
 exact List.lt_trans f d
variable{q l I S:ag}{vs:List ai}{kf:Nat->Int×Str}{R:Result->am->Prop}{Q:ai->am->Prop}
def EE(P:aQ)(w:aE)(A:aT)(s:am)(q:ag)(vs:List ai)(kf:Nat->Int×Str):Prop:=∀(i:Nat) (v:ai),vs[i]?=aa v->∀(h:aB) (d:Nat),(∀b o,s.heap.get? b=aa o->h.get? b=aa o) ->
 ar (aw P w) A.in1 (call (.ref q) [v]) (λu f=>∃c a,f={s with heap:=c,toks:=a}/\(∀b o,h.get? b=aa o->c.get? b=aa o)/\pZ c (kf i) u) (λ_ _=>False) {s with heap:=h,toks:=d}
theorem GY{a:Array ai}{c:Nat}{p:Prop}(h:(ff "list" a c).cls=.type "tuple"):p:=absurd h (by show ¬(_:ai)=_;simp[ff])
structure K_(s:am)(l I S:ag)(vs:List ai)(kf:Nat->Int×Str)(j i:Nat)(h:aB):Prop where
 keep:∀b o,s.heap.get? b=aa o->h.get? b=aa o
 it:h.IsListIter I l (j+1)
 st:∃vb kb c,h.get? S=aa (ff "list" #[vb,kb] c)/\vs[i]?=aa vb/\pZ h (kf i) kb
 ij:i<=j
 best:∀j',j'<=j->eT (kf j').1 (kf j').2 (kf i).1 (kf i).2=aj
theorem Ku(hh:A.handled=ae)(hu:A.units+4<cLine)(hl:s.heap.IsList l vs.toArray)(fI:s.heap.get? I=ae)(fS:s.heap.get? S=ae)(N:S≠I)(n:EE P w A s q vs kf)(hR:∀i v K t,vs[i]?=aa v->(∀j,j<vs.length->eT (kf j).1 (kf j).2 (kf i).1 (kf i).2=aj)->(∀b o,s.heap.get? b=aa o->K.get? b=aa o)->R (.ok (.ret v)) {s with heap:=K,toks:=t}):∀(r j i:Nat) (h:aB) (Y:Nat),vs.length-(j+1)=r->j+1<=vs.length->K_ s l I S vs kf j i h->lK (aw P w) A (.builtin "min.loop" ⟨[.ref I,.ref q,.ref S],[]⟩) R {s with heap:=h,toks:=Y}:=by
 have v5:(toString "min"++toString ".loop" : String) = "min.loop":=by decide
 have hlI:l≠I:=λz=>by obtain⟨o,e,_⟩:=hl;rw[z,fI]at e;cases e
 have t4:l≠S:=λz=>by obtain⟨o,e,_⟩:=hl;rw[z,fS]at e;cases e
 have W:=Walks.list (prog:=P) (w:=w) (A:=A.in1) hh I l hlI vs.toArray;have y:vs.toArray.size=vs.length:=cg ..;have lk:∀{h:aB},(∀b o,s.heap.get? b=aa o->h.get? b=aa o)->h.IsList l vs.toArray:=λk=>by obtain⟨o,e,r⟩:=hl;exact⟨o,k _ _ e,r⟩
 intro r
 induction r with
 |zero=>
  intro j i h Y hr hj M;obtain⟨O,kb,c,H,m,F⟩:=M.st;refine n5 Jf ?_;rw[qP tR _];refine ap (zn H rfl ?_);refine ap (vT (W.done _ _ _ ⟨by rw[y,show vs.length=j+1 by lia];exact M.it,lk M.keep⟩ λK t mO=>?_));have x:=qO K S (io λ_=>(#[]:Array ai));refine ap ?_;refine wpAny_updateSeq (mO S _ (by simpa using N) H) rfl (ap (C3 (aG ?_)));refine hR i O _ _ m (λf jO=>M.best f ∅) λb o e=>?_;have nb:b≠I:=λz=>by rw[z,fI]at e;cases e
  have Z:b≠S:=λz=>by rw[z,fS]at e;cases e
  exact(x.2 b Z).trans (mO b o (by simpa using nb) (M.keep b o e))
 |succ r ih=>
  intro j i h Y hr hj M;obtain⟨O,kb,c,H,m,F⟩:=M.st;have bh:j+1<vs.length:=∅
  refine n5 Jf ?_;rw[qP tR _];refine ap (zn H rfl ?_);refine ap (vT (W.item (j+1) _ _ _ (by rw[y];exact bh) ⟨M.it,lk M.keep⟩ λv h1 X hP cN gE=>?_));have hv:vs[j+1]?=aa v:=by simpa using hP
  obtain⟨oI,eI,qU,C⟩:=id cN.1;have d:∀b o,s.heap.get? b=aa o->h1.get? b=aa o:=λb o e=>gE b o (by intro z;rw[fe.mp z,fI]at e;cases e) (M.keep b o e);refine ap (vT (jn (ez (n (j+1) v hv h1 X d) (λu s2 he=>?_) λ_ _ hF=>hF.elim)));obtain⟨G,T,rfl,L,D⟩:=he;have p:∀b o,h.get? b=aa o->o.cls=.type "tuple"->G.get? b=aa o:=λb o e ht=>L b o (gE b o (by
   intro z;rw[fe.mp z]at e;obtain⟨o',e',c',_⟩:=M.it;rw[e]at e';cases e';rw[ht]at c';simp at c') e)
  have Jz:=F.keep p;have a:∀b o,s.heap.get? b=aa o->G.get? b=aa o:=λb o e=>L b o (d b o e);have g:=L S _ (gE S _ (by simpa using N) H);have J:=L I _ eI;refine ap (vT (jn (ap (SI (s:={s with heap:=G,toks:=T}) (A:=A.in1) D Jz (show A.units+1<cLine by lia) ?_))));refine ap (jn (nQ ?_));refine ap (C3 (aG ?_));by_cases lV:eT (kf (j+1)).1 (kf (j+1)).2 (kf i).1 (kf i).2=ah
  .have x:=qO G S (io λ_=>#[v,u]);obtain⟨c2,j7⟩:∃c2,(G.update S (io λ_=>#[v,u])).get? S=aa (ff "list" #[v,u] c2):=⟨_,zq g λ_=>#[v,u]⟩
   simp only[lV,if_true];refine ap ?_;refine wpAny_updateSeq g rfl (ap (C3 ?_));rw[v5];refine aG ⟨qQ tR _,ih (j+1) (j+1) _ _ ∅ bh ⟨λb o e=>?_,⟨oI,(x.2 I N.symm).trans J,qU,C⟩,⟨v,u,c2,j7,hv,?_⟩,aY _,λf jO=>?_⟩⟩
   .exact(x.2 b (λz=>by rw[z,fS]at e;cases e)).trans (a b o e)
   .refine D.keep λb o e ht=>(x.2 b ?_).trans e;rintro rfl;rw[g]at e;cases e;exact GY ht
   .by_cases e:f=j+1
    .subst e;cases B:eT (kf (j+1)).1 (kf (j+1)).2 (kf (j+1)).1 (kf (j+1)).2 with
     |false=>rfl
     |true=>unfold eT at B;rw[if_pos rfl,decide_eq_true_iff]at B;exact absurd B (zv _)
    .cases B:eT (kf f).1 (kf f).2 (kf (j+1)).1 (kf (j+1)).2 with
     |false=>rfl
     |true=>have:=Le B lV;rw[M.best f ∅]at this;cases this
  .have pF:eT (kf (j+1)).1 (kf (j+1)).2 (kf i).1 (kf i).2=aj:=by simpa using lV
   simp only[pF,mz,if_false];refine ap (C3 ?_);rw[v5];refine aG ⟨qQ tR _,ih (j+1) i _ _ ∅ bh ⟨a,⟨oI,J,qU,C⟩,⟨O,kb,c,g,m,Jz⟩,by have:=M.ij;lia,λf jO=>?_⟩⟩;by_cases e:f=j+1
   .subst e;exact pF
   .exact M.best f ∅
theorem No(T:A.handled=ae)(hu:A.units+4<cLine)(g:s.heap.IsList l vs.toArray)(bT:0<vs.length)(c:EE P w A s q vs kf)(hQ:∀i v Z p,vs[i]?=aa v->(∀j,j<vs.length->eT (kf j).1 (kf j).2 (kf i).1 (kf i).2=aj)->(∀b o,s.heap.get? b=aa o->Z.get? b=aa o)->Q v {s with heap:=Z,toks:=p}):ar (aw P w) A (call (.builtin "min") [.ref l] [(vD "key",.ref q)]) Q E s:=by
 have M:(toString "min"++toString ".loop" : String) = "min.loop":=by decide
 refine kmk_tree PySem.F.kind_min PySem.F.plain_min PySem.F.entry_min (kmk_min_key _ _) ?_;refine ap (zh (show Builtin.Builtins.bindParams "min" ["key","default"] 0 ⟨[],[(vD "key",.ref q)]⟩=pure [aa (.ref q),ae] from rfl) ?_);refine ap (aG ?_);refine ap (Cy g ?_);refine ap (wpAny_newList ?_ (j4 _));rw[M];generalize h:s.heap.objs.size=I;generalize H:s.heap.push {cls:=.type "list_iterator",data:=.fields #[.ref l,.int 0 0]}=g1;have G:g1.get? I=aa {cls:=.type "list_iterator",data:=.fields #[.ref l,.int 0 0]}:=by rw[<-H,<-h];exact cy _ rfl
 have F:∀b o,s.heap.get? b=aa o->g1.get? b=aa o:=λb o e=>by rw[<-H];exact bn _ e
 have d:g1.objs.size=I+1:=by rw[<-H,<-h];exact j5 ..
 generalize hS:g1.objs.size=S at d;have J:s.heap.get? I=ae:=vz (by rw[<-h];exact aY _);have fS:s.heap.get? S=ae:=vz (by rw[h,d];exact vK _);have m:S≠I:=by rw[d];exact Nat.succ_ne_self _
 refine aG ⟨qQ tR _,?_⟩;have N:∀b o,s.heap.get? b=aa o->(g1.push (ff "list" #[] 0)).get? b=aa o:=λb o e=>bn _ (F b o e);have gS:(g1.push (ff "list" #[] 0)).get? S=aa (ff "list" #[] 0):=by rw[<-hS];exact cy _ rfl
 have gI:(g1.push (ff "list" #[] 0)).get? I=aa {cls:=.type "list_iterator",data:=.fields #[.ref l,.int 0 0]}:=bn _ G;have C:l≠I:=λz=>by obtain⟨o,e,_⟩:=g;rw[z,J]at e;cases e
 have W:=Walks.list (prog:=P) (w:=w) (A:=A.in1) T I l C vs.toArray;have x:vs.toArray.size=vs.length:=cg ..;refine n5 Jf ?_;rw[qP tR _];refine ap (zn gS rfl ?_);refine ap (vT (W.item 0 _ _ _ (by rw[x];exact bT) ⟨⟨_,gI,rfl,rfl⟩,(let ⟨o,e,r⟩:=g;⟨o,N _ _ e,r⟩)⟩ λv Y n hP cN gE=>?_));have O:vs[0]?=aa v:=by simpa using hP
 obtain⟨oI,eI,qU,B⟩:=id cN.1;have a:∀b o,s.heap.get? b=aa o->Y.get? b=aa o:=λb o e=>gE b o (by intro z;rw[fe.mp z,J]at e;cases e) (N b o e);refine ap (vT (jn (ez (c 0 v O Y n a) (λu s2 he=>?_) λ_ _ hF=>hF.elim)));obtain⟨X,tk2,rfl,K,D⟩:=he;have f:=K S _ (gE S _ (by simpa using m) gS);have t:=qO X S (io λ_=>#[v,u]);obtain⟨L,j7⟩:∃L,(X.update S (io λ_=>#[v,u])).get? S=aa (ff "list" #[v,u] L):=⟨_,zq f λ_=>#[v,u]⟩
 refine ap ?_;refine wpAny_updateSeq f rfl ?_;rw[M];refine aG ⟨qQ tR _,Ku T hu g J fS m c hQ _ 0 0 _ _ rfl bT ⟨λb o e=>?_,⟨oI,(t.2 I m.symm).trans (K I _ eI),qU,B⟩,⟨v,u,L,j7,O,?_⟩,aY _,λj' jO=>?_⟩⟩
 .exact(t.2 b (λz=>by rw[z,fS]at e;cases e)).trans (K b o (a b o e))
 .refine D.keep λb o e ht=>(t.2 b ?_).trans e;rintro rfl;rw[f]at e;cases e;exact GY ht
 .obtain rfl:j'=0:=∅
  cases y:eT (kf 0).1 (kf 0).2 (kf 0).1 (kf 0).2 with
  |false=>rfl
  |true=>unfold eT at y;rw[if_pos rfl,decide_eq_true_iff]at y;exact absurd y (zv _)
end
open Att
section
variable{a:aQ}{w:aE}{A:aT}{E:ai->am->Prop}{s:am}
structure Ag(x:Str)(params:qG)(scope:dy):Prop where
 bind:∀(name qual:Str) (body:az) (cl:List (Str×ag)) (pm aI ct v:ai),fV (PySem.W.kla_fn name qual params body scope cl pm aI ct) ⟨[v],[]⟩=pure [(x,v)]
 lx:scope.names.lookup x=aa .local
 ly:scope.names.lookup ("len" : Str)=aa .globalImplicit
 nc:∀z∈scope.names,z.2≠.cell
 co:scope.isCoroutine=aj
 gen:scope.isGenerator=aj
 kind:scope.kind=.function
 dx:(x==("__debug__":Str))=aj
abbrev BZ(x:Str)(k:Nat)(g f d c b:Pos):az:=.Tuple [.Call (.Name "len" g) [.Name x f] [] d,.Name x c] k b
theorem MA{f B:ag}{x g:Str}{c:qG}{d:dy}{k:Nat}{J I H G F:Pos}{j:List (Str×ag)}{D p:ai}{z:Str}{t:Tok}{q:Str->Option ai}{Q:ai->am->Prop}(L:Ag x c d)(X:A.depth<vB) (M:s.heap.get? f=aa (CZ "<lambda>" g c (BZ x k J I H G F) d j D B p)) (W:s.heap.CodeRec (.ref B) g) (m:s.heap.NoLimit)(O:s.heap.Ns bQ q) (N:q "len"=ae) (P:∃l,s.heap.Ns o6 l/\l "len"=aa (.builtin "len")) (y:z.length<=a_)(h:∀n C u,(∀b o,s.heap.get? b=aa o->n.get? b=aa o)->pZ n ((z.length:Nat),z) u->Q u {s with heap:=n,toks:=C}):ar (aw a w) A (call (.ref f) [.str z t]) Q E s:=by refine tf (PySem.W.kla_callFunE X M rfl L.co L.gen rfl W ?_);rw[L.bind];refine aG (wpAny_newFunctionEnv L.nc (λz y=>by rw[fe.mp y];exact L.lx) (λi r K=>?_) L.kind);have keep:∀b o,s.heap.get? b=aa o->i.get? b=aa o:=λb o e=>(K.2 b (cY (bK e))).trans (bn _ e);refine⟨m.keeps keep,PySem.W.kla_codeExpr ?_⟩;obtain⟨l,T,S⟩:=P;have Y:=p9;refine wpAny_Tuple_spliced ?_;refine s_ ?_;refine tj (Io L.kind L.ly (Calls.loadGlobal_builtin (O.keeps keep) N (T.keeps keep) S ?_));refine TK (s_ (yY (Im L.kind L.lx r (v:=.str z t) (by simp) (y0 ?_)) L.dx)) rfl rfl;refine len_str ∅ ?_;refine s_ (yY (Im L.kind L.lx r (v:=.str z t) (by simp) (y0 ?_)) L.dx);refine⟨by rw[k8];simp,?_⟩;exact h _ _ _ (λb o e=>bn _ (keep b o e)) ⟨_,_,_,rfl,⟨_,cy _ rfl,rfl,_,rfl⟩⟩
end
section
variable{X:Cx}{g:List (ag×Obj)}{d:St}{H:Hp}{s:am}
def Rh(h:TA):TE:=λd H Q=>h d H λi f=>∃(a:ag) (xs:List Str),i=[.ref a]/\Rd f a (.lst (xs.map .str))/\xs≠[]/\(∀x∈xs,x.length<=a_) /\
 ∀x c,x∈xs->(∀y∈xs,eT (y.length:Nat) y (x.length:Nat) x=aj)->(∀b o,f b=aa o->c b=aa o)->Q (.str x) c
theorem P6{z x n:Str}{p0:Pos}{c P:ag}{l:qG}{r:dy}{k:Nat}{p p1 p2 p3 p4 p5 F kp E:Pos}{W:TA}(hc:X.calm=ah)(hr:X.A.depth+1<vB)(hu:X.A.units+8<cLine)(LA:xz X n c P)(LO:Ag x l r)(hq:X.env.qual++"<lambda>"=n++".<locals>.<lambda>")(wp:zb r X.env=pure []) (v9:defaultsOf l X.env=([],[]))(hg:Gl X "min") (hm:X.mg "min"=ae) (lX:X.mg "len"=ae) (ha:PA X [.Name z p0] W):PE X (.Call (.Name "min" p) [.Name z p0] [⟨aa "key",.Lambda l (BZ x k p1 p2 p3 p4 p5) r F,kp⟩] E) (Rh W):=by
 intro g s d H Q I h;refine tj (sL I hg hm (show eF "min"=aa (.builtin "min") by kernel_rfl) ?_ (by decide) (by decide));refine callWith_kw (aL (ha E g s d H _ I h) λus s1 ζ=>?_);obtain⟨vs,H1,I1,Z,q⟩:=ζ;obtain⟨a,xs,rfl,hA,bT,bi,hQ⟩:=q;obtain⟨u,rfl⟩:∃u,us=[u]:=by
  cases Z with
  |cons _ t=>cases t;exact⟨_,rfl⟩
 obtain rfl:u=.ref a:=by
  cases Z with
  |cons z _=>exact z
 refine kws_cons (RX I1 LA hq wp v9 λf c' ctv S s2 w C hf hfL zH hcL=>kws_nil ?_);have M:Rd S a (.lst (xs.map .str)):=hA.elim (λz=>.inl (C _ _ z)) λ⟨o,z⟩=>.inr ⟨o,C _ _ z⟩;obtain⟨m,lR,hl⟩:=id w.loc;obtain⟨zl,D,n0,Y,eL⟩:=M.ok w.hok;have A:D.length=xs.length:=by rw[<-Y.length,cM]
 have J:∀(i:Nat) (v:ai),D[i]?=aa v->∃x t,xs[i]?=aa x/\v=.str x t:=λi v G=>by obtain⟨xv,B,rx⟩:=Hd Y G;rw[kD]at B;obtain⟨x,mR,rfl⟩:=mw.mp B;obtain⟨t,rfl⟩:=rx;exact⟨x,t,mR,rfl⟩
 obtain⟨mb,oz,pF⟩:=w.mod.blt;have L:mb "len"=aa (.builtin "len"):=(pF "len" (by decide)).trans (show eF "len"=aa (.builtin "len") by kernel_rfl);show ar _ _ (call (.builtin "min") [.ref a] [(vD "key",.ref f)]) _ _ _;refine No (vs:=D) (kf:=λi=>(((xs.getD i eV).length:Nat),xs.getD i eV)) (w.ok.hd hc) ∅ ⟨_,eL,rfl,n0,rfl⟩ (by rw[A];exact List.length_pos_iff.mpr bT) (λi v G N T k=>?_) λi v N T G mH k=>?_
 .obtain⟨x,t,B,rfl⟩:=J i v G;have O:xs.getD i eV=x:=by simp[B]
  dsimp only;rw[O];obtain⟨cc,oc,vc,tc,z,ec,rc⟩:=zH;cases z;refine MA (s:={s2 with heap:=N,toks:=T}) LO (Nat.lt_of_succ_lt hr) (k _ _ hf) ⟨_,oc,vc,tc,rfl,k _ _ ec,rc⟩ (w.mod.nolimit.keeps λb o e=>k b o (w.bk b o e)) ((w.mod.glob.keeps w.bk).keeps k) lX ⟨mb,(oz.keeps w.bk).keeps k,L⟩ (bi x (y3 B)) λh2 K u k2 hu=>?_;exact⟨h2,K,rfl,k2,hu⟩
 .obtain⟨x,t,B,rfl⟩:=J i v G;have O:xs.getD i eV=x:=by simp[B]
  refine⟨.str x,S,?_,⟨t,rfl⟩,hQ x S (y3 B) (λy hy=>?_) C⟩
  .have:N.Ns X.env.locals m:=lR.keeps k;exact w.mapKept lR this λb o _ e=>k b o e
  .obtain⟨j,hj⟩:=List.mem_iff_getElem?.mp hy;have:=mH j (by rw[A];exact(dR.mp hj).1);have ey:xs.getD j eV=y:=by simp[hj]
   rw[O,ey]at this;exact this
end
end L2
namespace Pu
open L2
def b9(x y:Tx):Bool:=if x.length=y.length then decide (x<y)else decide (x.length<y.length)
def oW:List Tx->Option Tx
 |[]=>ae
 |x::r=>aa (r.foldl (λb y=>if b9 y b then y else b) x)
theorem N4(x:Tx):b9 x x=aj:=by unfold b9;rw[if_pos rfl];exact decide_eq_false (zv x)
theorem Bl{x y z:Tx}(b:b9 x y=ah)(a:b9 y z=ah):b9 x z=ah:=by
 unfold b9 at *;split at b <;> split at a <;> split <;> simp only[decide_eq_true_iff]at * <;> first|lia|skip
 exact List.lt_trans b a
theorem AX{x y:Tx}(b:b9 x y=aj)(a:b9 y x=aj):x=y:=by
 unfold b9 at *;split at b
 .rename_i e;rw[if_pos e.symm]at a;simp only[decide_eq_false_iff_not]at b a;exact List.le_antisymm (List.not_lt.mp a) (List.not_lt.mp b)
 .rename_i e;rw[if_neg (λz=>e z.symm)]at a;simp only[decide_eq_false_iff_not]at b a;lia
theorem Gd(r:List Tx):∀b:Tx,(r.foldl (λb y=>if b9 y b then y else b) b∈b::r)/\∀y∈b::r,b9 y (r.foldl (λb y=>if b9 y b then y else b) b)=aj:=by
 induction r with
 |nil=>intro b;exact⟨by simp,λy d=>by simp at d;subst d;exact N4 y⟩
 |cons c r n=>
  intro b;rw[k_];obtain⟨l,i⟩:=n (if b9 c b then c else b);refine⟨?_,λy d=>?_⟩
  .rcases bE.mp l with h|h
   .rw[h];split <;> simp
   .simp[h]
  .generalize r.foldl (λb y=>if b9 y b then y else b) (if b9 c b then c else b)=m at l i;have a:=i _ (lI ..);cases f:b9 y m with
   |false=>rfl
   |true=>
    rcases bE.mp d with rfl|d
    .by_cases g:b9 c y=ah
     .rw[if_pos g]at a;rw[Bl g f]at a;cases a
     .rw[if_neg g]at a;rw[f]at a;cases a
    .rcases bE.mp d with rfl|d
     .by_cases g:b9 y b=ah
      .rw[if_pos g]at a;rw[f]at a;cases a
      .rw[if_neg g]at a;have o:b9 y b=aj:=by simpa using g
       by_cases j:b9 b y=ah
       .rw[Bl j f]at a;cases a
       .rw[AX o (by simpa using j)]at f;rw[f]at a;cases a
     .rw[i y (by simp[d])]at f;cases f
theorem GU{a:List Tx}{x:Tx}(h:x∈a)(c:∀y∈a,b9 y x=aj):oW a=aa x:=by
 cases a with
 |nil=>cases h
 |cons b r=>obtain⟨f,d⟩:=Gd r b;show aa _=aa x;congr 1;exact AX (c _ f) (d x h)
theorem Qw(x y:Tx):eT ((tS x).length:Nat) (tS x) ((tS y).length:Nat) (tS y)=b9 x y:=by
 unfold eT b9;have b:(tS x).length=x.length:=by simp[tS,mv]
 have a:(tS y).length=y.length:=by simp[tS,mv]
 rw[b,a];simp only[oX,Int.natCast_inj,Int.ofNat_lt]
def r8(i:Nat):ak->R PV:=λa=>(aF (eh a i) a).bind λxs a=>aF ((gA xs).bind λb=>(oW b).map .str) a
section
variable{X:Cx}{E:XK}
theorem LJ(i:Nat){z x n:Str}{c P:ag}{d:qG}{f:dy}{k:Nat}{p O N M L K J g Y q:Pos}(hc:X.calm=ah)(hr:X.A.depth+1<vB)(hu:X.A.units+64<cLine)(LA:xz X n c P)(hm:X.mg "min"=ae)(W:X.mg "len"=ae)(hq:X.env.qual++"<lambda>"=n++".<locals>.<lambda>":=by rfl) (D:zb f X.env=pure []:=by rfl)(LO:Ag x d f:=by exact⟨λ_ _ _ _ _ _ _ _=>rfl,rfl,rfl,by decide,rfl,rfl,rfl,by decide⟩)(hN:X.N[i]?=aa z:=by rfl) (dS:ef X.env.scope z:=by first|exact Or.inl rfl|exact Or.inr (Or.inl rfl)|exact Or.inr (Or.inr rfl)) (hd:(z==("__debug__":Str))=aj:=by decide) (bo:(z==("__classdict__":Str))=aj:=by decide)(G:defaultsOf d X.env=([],[]):=by rfl) (hg:Gl X "min":=by rfl):DE X E (.Call (.Name "min" p) [.Name z O] [⟨aa "key",.Lambda d (BZ x k N M L K J) f g,Y⟩] q) (r8 i):=λF S C σ H Q w h=>by
 unfold r8 at h;cases v:eh C i with
 |none=>rw[v]at h;exact h.elim
 |some xs=>
  rw[v]at h;simp only[b_,R.bind_ok]at h;cases u:gA xs with
  |none=>rw[u]at h;exact h.elim
  |some s=>
   rw[u,gT]at h;cases j:oW s with
   |none=>rw[j]at h;exact h.elim
   |some r=>
    rw[j]at h;simp only[pf,b_]at h;obtain rfl:=rJ u;obtain⟨a,ea,⟨us,ha,I⟩,_⟩:=w.own i _ (jg v);obtain⟨rfl,A⟩:=Ul.mp I;refine bU (P6 hc hr ∅ LA LO hq D G hg hm W (iH (fj hN dS hd bo) jU (by rfl))) ?_;refine⟨_,ea,a,s.map tS,rfl,.inl ?_,λz=>?_,λy t=>?_,λy B t T m=>?_⟩
    .rw[ha,eJ];rfl
    .rw[Jg]at z;subst z;cases j
    .obtain⟨y,l,rfl⟩:=cJ.mp t;have:=A y l;have e:(tS y).length=y.length:=by simp[tS,mv]
     rw[e];exact cQ this kP
    .obtain⟨y,l,rfl⟩:=cJ.mp t;have:oW s=aa y:=GU l λz Z=>by have:=T (tS z) (cJ.mpr ⟨z,Z,rfl⟩);rwa[Qw]at this
     rw[this]at j;cases j;have al:Al F F H B:=⟨λ_ z=>z,λb o e=>m b o e,λ_ z=>.inl z⟩
     exact h F S B (w.al al) al.grow (tV r) ⟨rfl,A r l⟩
end
end Pu
namespace L2
open SeqAt
theorem Tn{a:Type}{M:Model}{A:aT}{E:ai->am->Prop}{s:am}{Q:a->am->Prop}{n:Nat}{f:Nat->a->Sem (ForInStep a)}{b:a}(h:ar M A (forIn (zw 0 n 1) b f) Q E s):ar M A (forIn ([0:n]:UK) b f) Q E s:=by rw[Std.Legacy.Range.forIn_eq_forIn_range'];simpa[Std.Legacy.Range.size]using h
theorem SX(l:ag)(a:Array ai)(n:Nat)(H:Option ag)(t:Array (Option ai))(x:ai)(e:ai->Bool)(j:Nat)(K:j<a.size)(G:e a[j]=ah)(F:∀m (J:m<a.size),m<j->e a[m]=aj):Meets (Builtin.«tuple.index» ⟨[.ref l,x],[]⟩) (λA R s=>s.heap.get? l=aa {cls:=.type "tuple",dict:=H,data:=.seq a n,slots:=t}/\(∀y,y∈a->EqAt A.in1 s y x (e y))/\R (.ok (.ret (.int j s.toks))) {s with toks:=s.toks+1}) :=
 .of_wp λf w A R s h=>by
  obtain⟨v,g,d,r,u⟩:=s;obtain⟨z,D,h⟩:=h
  wp_walk using y6 z,Tn
  refine C0 _ (λrest (b:Option Fin×Unit) o=>b.1=ae/\o=⟨v,g,d,r,u⟩/\∃i,i<=j/\rest=zw i (a.size-i) 1) _ ?_ ?_ _ _ ⟨rfl,rfl,0,j4 _,by simp⟩
  .rintro i rest b o ⟨E,rfl,k,B,c⟩;have p:a.size-k=(a.size-k-1)+1:=∅
   rw[p,List.range'_succ]at c;injection c with hi c;subst hi;have q:i<a.size:=∅
   have C:a[i]?=aa a[i]:=zm q;rw[C];dsimp only;refine ap (D a[i] (Array.getElem_mem q) f w _ _ ?_);by_cases I:i=j
   .subst I;rw[G]
    wp_walk
    exact⟨_,rfl,h⟩
   .rw[F i q ∅]
    wp_walk
    exact⟨rfl,rfl,i+1,∅,by rw[c];congr 1⟩
  .rintro b o ⟨E,rfl,k,B,c⟩;have:a.size-k=0:=by have:=congrArg kC c;simpa using this.symm
   lia
section
variable{X:Cx}
def SG(K:ax):V->List V->Hp->VK->Prop:=λx a H Q=>∃(p:ag) (xs:List V) (y:V) (j:Nat),x=.ref p/\a=[y]/\cW K H p xs/\gb y=ah/\xs.all gb=ah/\j<xs.length /\
 (∀z,xs[j]?=aa z->dJ z y=ah)/\(∀(i:Nat) z,i<j->xs[i]?=aa z->dJ z y=aj)/\Q (.int j) H
theorem Re:vr X "tuple.index" (SG X.K):=by
 intro af s Y H x Z v us Q I C D h;obtain⟨p,xs,y,j,rfl,rfl,M,P,t,hj,O,N,q⟩:=h;cases C;obtain⟨u,rfl,E⟩:=D.one;obtain⟨a,r,⟨⟨W,T,A,B⟩,e,o,n,l⟩,hz⟩:=I.tuple M;simp only at o l;subst o l;have hl:a.length=xs.length:=r.length.symm;have c:∀(i:Nat) (g:i<a.toArray.size),∃w,xs[i]?=aa w/\jA y a.toArray[i]=dJ w y:=λi g=>by
  have J:i<a.length:=by simpa using g
  have z:xs[i]?=aa xs[i]:=eW ∅;obtain⟨w,b,G⟩:=r.get z;have S:a[i]=w:=by rw[eW J]at b;exact dQ b
  refine⟨_,z,?_⟩;rw[<-ut G (qN.mp t _ (Cz _))];simp[S]
 refine tu F.slot_tuple_index ⟨_,e,rfl⟩ F.entry_tuple_index (F.args_tuple_index_2 _ _) (SX p a.toArray n T B u (jA y) j (by simp;lia) ?_ ?_) ⟨e,λw K=>ui E P r t w (by simpa using K),?_⟩
 .obtain⟨w,b,d⟩:=c j (by simp;lia);rw[d];exact O w b
 .intro m L f;obtain⟨w,b,d⟩:=c m L;rw[d];exact N m w f b
 .exact⟨.int _,H,I.tok _,⟨_,rfl⟩,q⟩
end
end L2
namespace Pu
open L2
section
variable{X:Cx}{E:XK}{pin:List Nat}{e o:az}{d de:ak->R PV}{y:Str}
theorem NF{b a:Pos}(Y:DE X E o d)(he:DE X E e de)(W:j0 o "index" X.env (aK o X.env)=aK o X.env:=by rfl)(T:(b.endLine == a.line)=ah:=by rfl) (cN:me e=aj:=by rfl):DE X E (.Call (.Attribute o "index" b) [e] [] a) (Ai nA d de):=λF S I u H Q M h=>by
 have s:=ka (es:=[]) (env:=X.env) cN;refine bU (Kg PySem.F.slot_tuple_index PySem.F.type_tuple_index Re bD (iH bD jU s) W (by rw[s];rfl) T s rfl) (Y F S I u H _ M ((Ok.bind h).imp λx g F1 S1 H1 m g1 t v K=>?_));split at t
 .rename_i xs;obtain⟨p,A,rfl,B,L⟩:=K;refine⟨⟨p,A,rfl,B⟩,he F1 S1 g u H1 _ m ((Ok.bind t).imp λk G F2 S2 H2 N D q w l=>?_)⟩;unfold nA at q;cases c:dU k with
  |none=>rw[c]at q;exact q.elim
  |some z=>
   cases r:jz xs with
   |none=>rw[c,r]at q;exact q.elim
   |some J=>
    rw[c,r]at q;cases n:J.findIdx? (λy=>dJ y z)with
    |none=>rw[gT,gT,n]at q;exact q.elim
    |some j=>
     rw[gT,gT,n]at q;obtain⟨rfl,hf⟩:=ud (L.grow D m.fit) r;rw[jP l c];obtain⟨C,P,O⟩:=IM.mp n;refine⟨p,A,z,j,rfl,rfl,cW.of (D.imm m.fit B id),rD c,hf,C,λy f=>?_,λi y Z f=>?_,q F2 S2 H2 N (bz.refl ..) _ rfl⟩
     .rw[eW C]at f;cases f;exact P
     .have:=O i Z;rw[eW ∅]at f;cases f;simpa using this
 .exact t.elim
def FT:V->List V->Hp->VK->Prop:=λx xs H Q=>∃y c,x=tV y/\xs=[tV c]/\Q (.bl (decide (c <:+ y))) H
theorem S6(y c:Tx):Txt.endswith (tS y) (tS c)=decide (c <:+ y):=by
 have f:(tS y).length=y.length:=by simp[tS,mv]
 have b:(tS c).length=c.length:=by simp[tS,mv]
 unfold Txt.endswith Builtin.Str.subAt;rw[f,b,mr,ge,decide_eq_true_iff,decide_eq_true_iff,beq_iff_eq];have g:(tS y).cps.extract (y.length-c.length) (y.length-c.length+c.length)=(tS c).cps↔(y.drop (y.length-c.length)).take c.length=c:=by show y.toArray.extract _ _=c.toArray↔_;rw[<-Array.toList_inj];simp[List.extract_eq_take_drop]
 rw[g];constructor
 .rintro⟨h,a⟩;have:y.drop (y.length-c.length)=c:=by rw[ip (by simp;lia)]at a;exact a
  rw[<-this];exact List.drop_suffix _ _
 .rintro⟨p,rfl⟩;refine⟨by simp,?_⟩;simp
theorem Ki:sX X "str.endswith" FT:=by intro j s f H x xs v g Q I a b h;obtain⟨y,c,rfl,rfl,q⟩:=h;obtain⟨t,rfl⟩:=a;obtain⟨u,rfl,i,rfl⟩:=vals1 b;exact SC.endswith ⟨.bl _,H,I.tok _,(by rw[S6];rfl),q⟩
def uf(y:Tx):List PV->Option PV
 |[.str c]=>aa (.bl (decide (c <:+ y)))
 |_=>ae
theorem Ss{K:ax}:PM K FT uf:=λF H y xs b Q pv f a e q=>by
 unfold uf at e;split at e
 .rename_i c;cases e;obtain⟨v,rfl,rfl,_⟩:=gH a;exact⟨y,c,rfl,rfl,q _ F H (Al.refl ..) rfl⟩
 .cases e
end
def rF:PV->PV->Option PV
 |.tup [],.tup a=>aa (.tup a)
 |.tup (x::xs),.tup []=>if xs.length<1000 then aa (.tup (x::xs))else ae
 |x,y=>bB x y
theorem D7{K:ax}:P2 K (λx y H Q=>BJ K x y H Q\/xA K x y H Q) rF:=λF H x y v u Q pv d c e q=>by
 unfold rF at e;split at e
 .cases e;obtain⟨a,i,rfl,g,j⟩:=d;obtain⟨b,h,rfl,f,l⟩:=id c;rw[show i=[] from j]at g;exact .inl ⟨a,b,h,rfl,rfl,cW.of g,cW.of f,q _ F H (Al.refl ..) c⟩
 .split at e
  .rename_i n;cases e;obtain⟨a,i,rfl,g,j⟩:=id d;obtain⟨b,h,rfl,f,l⟩:=id c;rw[show h=[] from l]at f;have m:=j.len;refine .inr (.inr (.inl ⟨a,b,i,[],rfl,rfl,cW.of g,cW.of f,?_,?_,λ_=>q _ F H (Al.refl ..) d,λz=>absurd rfl z⟩))
   .rintro rfl;simp at m
   .rw[m,k8];simp;lia
  .cases e
 .exact .inr (fK F H _ _ v u Q pv d c e q)
end Pu
namespace L2
open Pu
def uv(a:ag)(o:Obj)(b:List (aD×V)):It :=⟨λi H=>H a=aa (.frz o (.dK b))/\i<b.length,λi H x c=>c=H/\∃p,b[i]?=aa p/\x=p.2,λi H=>H a=aa (.frz o (.dK b))/\b.length<=i⟩
theorem Qv{P:aQ}{w:aE}{K:ax}{Y:az}(a j:ag)(o:Obj)(g:List (aD×V)):p7 P w K Y (uv a o g) [j] j (λi h=>h.IsValIter j a i g.length (wW o)) where
 mem:=by simp
 obj:=λi h f b l=>by
  have e:b=j:=by simpa using l
  subst e;obtain⟨o,e,c,d⟩:=f;exact⟨o,e,λv z=>by rw[d]at z;cases z⟩
 keep:=λi h r f k=>f.at λo e=>k j (by simp) o e
 item:=by
  intro X D t F S i T s N H E I n f B;subst D t F;obtain⟨x,Q⟩:=B;obtain⟨y,A⟩:=(show cq X.prog X.w H s.heap a (.frz o (.dK g))from I.hok a _ x)
  obtain⟨Z,W,m,C⟩:=B6 y A;obtain⟨p,O⟩:∃p,g[i]?=aa p:=⟨_,eW Q⟩
  obtain⟨q,u,e1,e2⟩:=L2.KV.at m O;obtain⟨L,J,f2,f3,f4,G⟩:=n j (by simp);rw[m.len]at f;refine wpAny_pyNext_values_item (k:=q.1) (v:=q.2) f C u λr M sb=>?_;have I1:Inv X T N H {s with heap:=r}:=I.turned (t':=s.toks) (λb o l e=>(sb.2 b l).trans e) L J f3 f4 G;rw[<-m.len]at M;obtain⟨oi,e,c,d⟩:=id M;exact⟨q.2,rfl,rM (s:={s with heap:=r}) e c d (by decide) ⟨p.2,H,I1,e2,⟨rfl,p,O,rfl⟩,M,λb l=>(n b l).1⟩⟩
 done:=by
  intro X D t F S i T s N H E I n f B;subst D t F;obtain⟨x,Q⟩:=B;obtain⟨y,A⟩:=(show cq X.prog X.w H s.heap a (.frz o (.dK g))from I.hok a _ x)
  obtain⟨Z,W,m,C⟩:=B6 y A;obtain⟨L,J,f2,f3,f4,G⟩:=n j (by simp);have hl:=m.len;rw[hl]at f;exact wpAny_pyNext_values_end (I.ok.hd S) f C (tN ∅) λr eb=>⟨rfl,I.turned (t':=s.toks) (λb o l e=>eb b o l e) L J f3 f4 G⟩
 self:=λ_ _ _ _ _ f h=>wpAny_pyIter_valiter f h
section
variable{X:Cx}{c:az}
def QZ(i:Nat):TI:=λd H R=>∃a b,d[i]?=aa (aa (.ref a))/\H a=aa (.dK b)/\∀o q,H q=ae->(b.map (·.1)).Nodup->b.length<=a_->R (uv a o b) (upd (upd H q (iM q a)) a (.frz o (.dK b)))
theorem Rn(i:Nat){y:Str}{m g f:Pos}(N:X.N[i]?=aa y)(G:ef X.env.scope y)(L:(y==("__debug__":Str))=aj)(Q:(y==("__classdict__":Str))=aj)(F:j0 (.Name y m) "values" X.env (aK (.Name y m) X.env)=aK (.Name y m) X.env) (E:(g.endLine == f.line)=ah):PI X c (.Call (.Attribute (.Name y m) "values" g) [] [] f) (QZ i):=by
 intro T s B H R I h;obtain⟨a,d,O,n,q⟩:=h;refine aL (ER IG IZ PySem.F.type_dict_values Go (fj N G L Q) F E T s B H (λx A=>∃q,x=.ref q/\H q=ae/\A=upd H q (iM q a)) I ⟨.ref a,O,.inr (.inr (.inl ⟨rfl,.inl ⟨_,n⟩⟩)),a,d,rfl,rfl,n,λq J=>⟨q,rfl,J,rfl⟩⟩) λv j ζ=>?_;obtain⟨x,A,r,C,D⟩:=ζ;obtain⟨p,e,t,P⟩:=D;subst e P;cases C;have S:a≠p:=by rintro rfl;rw[n]at t;cases t
 have u:upd H p (iM p a) a=aa (.dK d):=by rw[bj S];exact n
 obtain⟨o,K,w⟩:=r.freeze u;obtain⟨Z,Y,z,l⟩:=B6 (o:=o) K (show cq X.prog X.w _ j.heap a (.dK d)from r.hok a _ u);obtain⟨W,_,_⟩:=(show cq X.prog X.w _ j.heap p (iM p a)from r.hok p _ upd_same)
 refine wpAny_pyIter_values W l ?_;rw[<-z.len];refine⟨j.heap.objs.size,[j.heap.objs.size],_,_,_,rfl,w.kept (t':=j.toks) λb o e=>bn _ e,Qv a _ o d,⟨_,cy _ rfl,rfl,rfl⟩,λb M=>?_,q o p t (by rw[z.keysD];exact l.nodup) (show d.length<=a_ by have:=(show cq X.prog X.w _ j.heap a (.dK d)from r.hok a _ u).1;exact this)⟩;have e:b=j.heap.objs.size:=by simpa using M
 subst e;exact w.fpOk (aY _) (w.hok.fresh (aY _))
end
section
variable{X:Cx}{c:dy}{x:Str}{f:List Str}{d:List Nat}
def TB(i:Nat)(u:TT)(w:TE)(d:List Nat):TE:=λp H Q=>∃a g,p[i]?=aa (aa (.ref a))/\H a=aa (.dK g)/\∀o q l,H q=ae->(g.map (·.1)).Nodup->g.length<=a_->upd (upd H q (iM q a)) a (.frz o (.dK g)) l=ae->∃W:Nat->Nat->List V->Hp->Prop,(∃m,W 0 m [] (upd (upd (upd H q (iM q a)) a (.frz o (.dK g))) l (.lst [])))/\∀i m h n,W i m h n ->
 ((uv a o g).stop i n/\Q (.ref l) (upd n a (.dK g)))\/((uv a o g).go i n/\∀v t,(uv a o g).yld i n v t->u (aa v::gJ p d) t λb s=>if b=ah then w (aa v::gJ p d) s λy r=>r l=aa (.lst h)/\h.length<a_/\∃j,j<m/\W (i+1) j (h++[y]) (upd r l (.lst (h++[y]))) else ∃j,j<m/\W (i+1) j h s)
theorem On{D:az}{T F r j g:Pos}{y:Str}{A:List az}{K:TT}{L:TE}(i:Nat)(B:jx X c x f d)(hc:X.calm=ah)(hN:X.N[i]?=aa y)(hv:ef X.env.scope y)(hd:(y==("__debug__":Str))=aj)(bo:(y==("__classdict__":Str))=aj)(iX:j0 (.Name y r) "values" X.env (aK (.Name y r) X.env)=aK (.Name y r) X.env) (Z:(j.endLine == g.line)=ah)(ht:∀C b n J G,qi (cx X c f C b n J G) A K) (he:∀C b n J G,PE (cx X c f C b n J G) D L) (hs:∀x,nV (.Call (.Attribute (.Name y r) "values" j) [] [] g) X.env x=pure x:=by intro _;rfl):PE X (.ListComp D [⟨.Name x T,.Call (.Attribute (.Name y r) "values" j) [] [] g,A,0⟩] c F) (TB i K L d):=by
 intro af s N H Q I h;obtain⟨a,p,ea,M,h⟩:=h;have hn:∀o u,X.H₀ a≠aa (.frz o u):=λo u z=>by
  have:=I.base.frzs a o u z;rw[M]at this;cases this
 refine aL (FU B hc (Rn i hN hv hd bo iX Z) ht he hs af s N H (λv E=>∃o,E a=aa (.frz o (.dK p))/\Q v (upd E a (.dK p))) I ⟨a,p,ea,M,λo q hq Y hz l hl=>?_⟩) λv s' ⟨x,E,I',S,o,e',q⟩=>⟨x,_,I'.thaw e' hn,S,q⟩
 obtain⟨W,P,t⟩:=h o q l hq Y hz hl;refine⟨W,P,λi m O E w=>?_⟩;rcases t i m O E w with⟨st,q⟩|z
 .exact .inl ⟨st,o,st.1,q⟩
 .exact .inr ⟨z.1,λv H1 y=>⟨[aa v],rfl,rfl,z.2 v H1 y⟩⟩
end
end L2
namespace Pu
open L2
section
variable{X:Cx}{E:XK}{pin:List Nat}{c:Pos}
def oG:List (aD×PV)->Option (List Int)
 |[]=>aa []
 | (_,.int i)::r=>(oG r).map (i::·)
 |_=>ae
theorem RY{K:ax}{H:Hp}{F:ag->Prop}:∀{a:List (aD×PV)}{d:List (aD×V)}{b:List Int},ik K H F a d->oG a=aa b->d.map (·.2)=b.map V.int:=by
 intro a d b h e;unfold ik at h
 induction h generalizing b with
 |nil=>cases e;rfl
 |@cons p q ps qs r _ ih=>
  obtain⟨l,pv⟩:=p;obtain⟨j,g⟩:=q;cases pv <;> simp only[oG,mw]at e <;> try cases e
  obtain⟨i,f⟩:=r;obtain rfl:g=V.int _:=f;rename_i h;rw[cn,ih h.1,<-h.2];rfl
def qe(i:Nat):ak->R PO:=λa=>(aF (dm a i) a).bind λb a=>(aF (oG b) a).bind λd a=>.ok (.lst ((d.filter λn=>decide (0<n)).map .int)) a
theorem DJ{K:ax}{H:Hp}{F:ag->Prop}:∀l:List Int,Reps K H F (l.map .int) (l.map V.int)
 |[]=>rfl
 |i::l=>⟨_,_,rfl,rfl,DJ l⟩
theorem QQ{H:Hp}{a l q:ag}{o b:HO}{u v:HO}(e:H a=aa v)(f:l≠a)(d:q≠a):upd (upd (upd (upd H q b) a o) l u) a v=upd (upd H q b) l u:=by
 have:upd H q b a=aa v:=by rw[bj (dY d)];exact e
 exact Tr this f
theorem Sn{g:dy}{x y:Str}(i:Nat){px p1 p2 p3 p4 G u t:Pos}{c0}(B:jx X g x [x] [])(hc:X.calm=ah)(hN:X.N[i]?=aa y:=by rfl)(dS:ef X.env.scope y:=by first|exact Or.inl rfl|exact Or.inr (Or.inl rfl)|exact Or.inr (Or.inr rfl))(hd:(y==("__debug__":Str))=aj:=by decide) (bo:(y==("__classdict__":Str))=aj:=by decide)(iX:j0 (.Name y G) "values" X.env (aK (.Name y G) X.env)=aK (.Name y G) X.env:=by rfl) (iY:(u.endLine == t.line)=ah:=by rfl)(hp0:∀C d f A w,PE (cx X g [x] C d f A w) (.Name x p1) (yI 0):=by intro _ _ _ _ _;exact pv 0) (gm:∀C d f A w,PE (cx X g [x] C d f A w) (.Name x p2) (yI 0):=by intro _ _ _ _ _;exact pv 0)(hs:∀x,nV (.Call (.Attribute (.Name y G) "values" u) [] [] t) X.env x=pure x:=by intro _;rfl):DN X E (.ListComp (.Name x p1) [⟨.Name x px,.Call (.Attribute (.Name y G) "values" u) [] [] t,[.Compare (.Name x p2) [.Gt] [.Constant (.int 0) c0 p3] p4],0⟩] g c) (qe i):=λF S ε σ H Q T h=>by
 unfold qe at h;cases e0:dm ε i with
 |none=>rw[e0]at h;exact h.elim
 |some kvs=>
  rw[e0]at h;simp only[b_,R.bind_ok]at h;cases N:oG kvs with
  |none=>rw[N]at h;exact h.elim
  |some r=>
  rw[N]at h;simp only[b_,R.bind_ok]at h;obtain⟨a,s,ea,ha,hk,hS,_⟩:=T.dkAt (lE e0);have I:=RY hk N;have bi:s.length=r.length:=by have:=congrArg kC I;rwa[cM,cM]at this
  refine bU (On i B hc hN dS hd bo iX iY (λC d f A w=>Ic (yE (JN (gm C d f A w) HE))) (λC d f A w=>hp0 C d f A w) hs) ⟨a,s,ea,ha,λo q l hq nd hz D=>?_⟩;have hqa:q≠a:=by rintro rfl;rw[ha]at hq;cases hq
  have P:l≠a:=by rintro rfl;rw[upd_same]at D;cases D
  have K:l≠q:=by rintro rfl;rw[bj P,upd_same]at D;cases D
  have W:H l=ae:=by rw[bj P,bj K]at D;exact D
  let PS:Nat->List V:=λj=>((r.take j).filter λn=>decide (0<n)).map V.int
  refine⟨λj m Z H'=>m=s.length-j/\j<=s.length/\Z=PS j/\H'=upd (upd (upd H q (iM q a)) a (.frz o (.dK s))) l (.lst Z),⟨_,rfl,j4 _,by simp[PS],rfl⟩,?_⟩;rintro j m Z H' ⟨rfl,hj,rfl,rfl⟩;have M:upd (upd (upd H q (iM q a)) a (.frz o (.dK s))) l (.lst (PS j)) a=aa (.frz o (.dK s)):=by rw[bj (dY P),upd_same]
  by_cases bh:j<s.length
  .refine .inr ⟨⟨M,bh⟩,λv H1 ⟨N,p,hp,e2⟩=>?_⟩;subst N e2;have L:j<r.length:=∅
   have J:p.2=V.int r[j]:=by
    have h1:(s.map (·.2))[j]?=aa p.2:=by rw[kD,hp];rfl
    rw[I,kD,eW L]at h1;exact(dQ h1).symm
   have Y:PS (j+1)=PS j++(if 0<r[j] then [V.int r[j]] else []):=by show((r.take (j+1)).filter λn=>decide (0<n)).map V.int=((r.take j).filter λn=>decide (0<n)).map V.int++_;rw[TV L,C4,tE];congr 1;by_cases z:0<r[j] <;> simp[z]
   have dI:(PS j).length<=j:=by show(List.map V.int _).length<=j;rw[cM];exact cQ (Jh _ _) (by rw[jZ];lia)
   refine⟨p.2,rfl,r[j],0,J,rfl,_,rfl,?_⟩;dsimp only;by_cases z:0<r[j]
   .rw[if_pos (show decide (0<r[j])=ah from decide_eq_true z)];rw[if_pos z]at Y;refine⟨p.2,rfl,upd_same,∅,s.length-(j+1),∅,rfl,bh,?_,?_⟩
    .rw[J];exact Y.symm
    .rw[LZ]
   .rw[if_neg (show ¬decide (0<r[j])=ah by rw[decide_eq_false z];exact fc)];rw[if_neg z,fW]at Y;exact⟨s.length-(j+1),∅,rfl,bh,Y.symm,rfl⟩
  .have e:j=s.length:=∅
   subst e;refine .inl ⟨⟨M,aY _⟩,?_⟩;rw[QQ ha P hqa];have hPS:PS s.length=(r.filter λn=>decide (0<n)).map V.int:=by show((r.take s.length).filter _).map V.int=_;rw[bi,CU]
   rw[hPS];have O:Al F F H (upd H q (iM q a)):=Al.new0 hq;have lh:upd H q (iM q a) l=ae:=by rw[bj K];exact W
   have rl1:=T.al O;have al:Al F F (upd H q (iM q a)) (upd (upd H q (iM q a)) l (.lst ((r.filter λn=>decide (0<n)).map V.int))):=Al.new0 lh;refine h F S _ (rl1.al al) (O.grow.trans al.grow) l (λb=>b=l) ⟨⟨_,upd_same,DJ _⟩,λb=>qR⟩ λb z=>?_;subst z;refine⟨W,λz=>?_,λ⟨j,z⟩=>?_,_,upd_same,trivial⟩
   .obtain⟨o,q⟩:=T.ex b z;rw[W]at q;cases q
   .obtain⟨_,_,o,q,_⟩:=T.foot j b z;rw[W]at q;cases q
theorem zQ{b:List Int}{a:List ai}(r:bv (b.map V.int) a):IntsAre a b:=by
 induction b generalizing a with
 |nil=>cases r;exact .nil
 |cons i b d=>
  cases r with
  |cons h r=>obtain⟨t,rfl⟩:=h;exact .cons _ _ (d r)
theorem K5(o:X.calm=ah):eM X (.builtin "sum") (λxs H Q=>∃(p:ag) (a:List Int),xs=[.ref p]/\cE X.K H p (a.map V.int)/\Q (.int a.sum) H):=by
 intro B s x H xs y Q I r h;obtain⟨p,a,rfl,m,q⟩:=h;obtain⟨u,rfl,j⟩:=vals1 r;cases j;obtain⟨b,i,l,z⟩:=I.list m;have f:=zQ i;obtain⟨xs,d⟩:=f.allInts.items;have t:s.heap.IsList p (intItems xs):=d ▸ l.isList;refine sum_intListG (I.ok.hd o) t λA g t' n=>?_;have w:a=xs.toList.map (·.1):=by rw[<-nums_intItems,<-d];exact(show numsOf b.toArray.toList=a from f.numsOf).symm
 have v:preSum (numAt xs) xs.size=a.sum:=by rw[preSum_eq,ip (by simp),w]
 rw[v];exact⟨.int a.sum,H,I.kept (t':=g) n,⟨t',rfl⟩,q⟩
def sA:List PV->Option PV
 |[.lst xs]=>(intsQ xs).map λa=>.int a.sum
 |_=>ae
where intsQ:List PV->Option (List Int)
 |[]=>aa []
 |.int i::r=>(intsQ r).map (i::·)
 |_=>ae
theorem Eo{K:ax}{H:Hp}{F:ag->Prop}:∀{xs:List PV}{a:List V}{b:List Int},Reps K H F xs a->sA.intsQ xs=aa b->a=b.map V.int
 |[],_,_,r,e=>by cases e;exact r
 |x::xs,a,b,⟨v,r,g,f,d⟩,e=>by
  cases x <;> simp only[sA.intsQ,mw]at e <;> try cases e
  rename_i h;rw[g,Eo d h.1,<-h.2,show v=_ from f];rfl
theorem NV:PL X.K (λxs H Q=>∃(p:ag) (b:List Int),xs=[.ref p]/\cE X.K H p (b.map V.int)/\Q (.int b.sum) H) sA:=λF H xs l Q pv f e q=>by
 unfold sA at e;split at e
 .obtain⟨v,rfl,a,m,rfl,h,_,d⟩:=gH f;obtain⟨g,j,i⟩:=mw.mp e;have:=Eo d j;subst this;subst i;exact⟨a,g,rfl,.inl h,q _ F H (Al.refl ..) rfl⟩
 .cases e
end
end Pu
local macro_rules | `(tactic| simp! [$xs,*]) => `(tactic| simp [Pu.aS, Pu.cS, Pu.dB, Pu.d2, Pu.d1, Pu.dV, Pu.dC, Pu.dL, Pu.dF, Pu.aq, Pu.aC, Pu.ce, Pu.kc, Pu.cu, Pu.eR, Pu.bd, Pu.gV, Pu.gO, Pu.bJ, Pu.fg, Pu.fz, Pu.cI, Pu.eu, Pu.fJ, Pu.R.bind, Pu.aF, Pu.bp, Pu.et, Pu.bu, Pu.back, Pu.fk, Pu.li, Pu.nG, Pu.oP, Pu.qr, Pu.uY, Pu.bA, Pu.ki, Pu.fN, Pu.bP, Pu.d8, Pu.vp, Pu.kt, Pu.BR, Pu.kL, Pu.ve, Pu.xj, Pu.i7, Pu.mX, Pu.Ba, Pu.nh, Pu.fh, Pu.eh, Pu.nq, Pu.kn, Pu.pW, Pu.imm, Pu.sH, Pu.m8, bO, kC, $xs,*])
local macro_rules | `(⇑$x) => `(.val (.int $x))
local macro_rules | `(↥$x) => `(.val (.str $x))
namespace Sh
open L2 Pu
set_option genInjectivity false in
structure Ad where
 SlitError:ag
 NoText:ag
 NoWidth:ag
 NoView:ag
 NoWindow:ag
 Never:ag
 Full:ag
 Nothing:ag
 Unlike:ag
 NoPlace:ag
 NoLetters:ag
 BadText:ag
 Seeker:ag
 Slit:ag
def jf(a:Ad):List ag:=[a.NoText,a.NoWidth,a.NoView,a.NoWindow,a.Never,a.Full,a.Nothing,a.Unlike,a.NoPlace,a.NoLetters,a.BadText]
def rG(a:Ad)(c:ai):Bool:=match c with
 |.ref x=>(jf a).contains x
 |_=>aj
def jy(a:Ad)(c:ai)(D:V):Option Bool:=match c,D with
 |.ref x,.ref d=>if(jf a).contains x&&(jf a).contains d then aa (x == d)else ae
 |.ref x,.ty T=>if(jf a).contains x&&T == "ValueError" then aa ah else ae
 |_,_=>ae
def yau(a:Ad):ak->R aP:=ce (dL sC (aq (dF (dX [1] (bW (dV 0)) (fu) (d2 (rR aj) (dV 0) (dV 1)))) (aC)))
def yM(a:Ad):ak->R Slot:=bp 2 [] (bu 0 (yau a))
def yay(a:Ad):ak->R aP:=ce (mX (dL e_ (aq (dV 0) (aq (dC (.raw (.ty "int"))) (aC)))) (ve (dL e_ (aq (dV 0) (aq (dC (.raw (.ty "bool"))) (aC))))))
def mW(a:Ad):ak->R Slot:=bp 1 [] (bu 0 (yay a))
def yaz(a:Ad):ak->R aP:=ce (mX (bA (bd (mW a) (gV (dV 0) (bJ)))) (nh (fh λi j=>decide (i<=j)) (fh λi j=>decide (i<=j)) (dC (.int 1)) (dV 0) (dC (.int 4))))
def nI(a:Ad):ak->R Slot:=bp 1 [] (bu 0 (yaz a))
def yaA(a:Ad):ak->R aP:=ce (mX (dL e_ (aq (dV 0) (aq (dC (.raw (.ty "str"))) (aC)))) (mX (d2 (eqT aj) (dL bw (aq (dV 0) (aC))) (dV 1)) (bA (bd (yM a) (gV (dV 0) (gV (dV 2) (bJ)))))))
def oY(a:Ad):ak->R Slot:=bp 3 [] (bu 0 (yaA a))
def yao(a:Ad):ak->R aP:=aS (cS (i7 (kL (dB (dL e_ (aq (dV 0) (aq (dC (.raw (.ty "tuple"))) (aC)))))) (kL (dB (nh (fh λi j=>decide (i<=j)) (fh λi j=>decide (i<=j)) (dC (.int 1)) (dL bw (aq (dV 0) (aC))) (dC (.int 9)))))) (ce (dC (.bl aj))) (d8))
 (aS (cS (kL (dB (dL sC (aq (dF (dX [1,2] (bW (dV 0)) (fu) (bA (bd (oY a) (gV (dV 0) (gV (dV 1) (gV (dV 2) (bJ)))))))) (aC))))) (ce (dC (.bl aj))) (d8))
 (ce (d2 (eqT aj) (dF (dL sw (aq (dV 0) (aC)))) (dF (dL lv (aq (dV 0) (aC)))))))
def kj(a:Ad):ak->R Slot:=bp 3 [] (bu 0 (yao a))
def yax(a:Ad):ak->R aP:=aS (cS (i7 (kL (dB (dL e_ (aq (dV 0) (aq (dC (.raw (.ty "tuple"))) (aC)))))) (dB (d2 (eqT ah) (dL bw (aq (dV 0) (aC))) (dC (.int 2))))) (ce (dC (.bl aj))) (d8))
 (ce (mX (bA (bd (nI a) (gV (d2 bG (dV 0) (dC (.int 0))) (bJ)))) (bA (bd (kj a) (gV (d2 bG (dV 0) (dC (.int 1))) (gV (d2 bG (dV 0) (dC (.int 0))) (gV (dV 1) (bJ))))))))
def iI(a:Ad):ak->R Slot:=bp 2 [] (bu 0 (yax a))
def yaw(a:Ad):ak->R aP:=kc (bd (iI a) (gV (dV 0) (gV (dC (.str [97,98,99])) (bJ))))
def nu(a:Ad):ak->R Slot:=bp 1 [] (bu 0 (yaw a))
def yap(a:Ad):ak->R aP:=cS (kL (dB (bA (bd (nu a) (gV (dV 0) (bJ)))))) (xo (.ref a.NoView) (λb=>dW ((dC (.str [97,32,118,105,101,119,32,105,115,32,97,32,116,117,112,108,101,32,111,102,32,97,32,119,105,100,116,104,32,97,110,100,32,97,32,114,105,115,105,110,103,32,116,117,112,108,101,32,111,102,32,49,32,116,111,32,57,32,119,105,110,100,111,119,115])) b))) (d8)
def kh(a:Ad):ak->R Slot:=bp 1 [] (bu 0 (yap a))
def yaR(a:Ad):ak->R aP:=aS (cS (kL (dB (nh (fh λi j=>decide (i<=j)) (fh λi j=>decide (i<=j)) (dC (.int 1)) (dL bw (aq (dV 1) (aC))) (dC (.int 9))))) (xo (.ref a.NoView) (λb=>dW ((dC (.str [97,32,118,105,101,119,32,104,97,115,32,49,32,116,111,32,57,32,119,105,110,100,111,119,115])) b))) (d8))
 (ce (dL bP (aq (dV 0) (aq (dL ma (aq (dF (dL lv (aq (dV 1) (aC)))) (aC))) (aC)))))
def sS(a:Ad):ak->R Slot:=bp 2 [] (bu 0 (yaR a))
def yaq(a:Ad):ak->R aP:=aS (eR 1 (si))
 (aS (λb=>dD (d7 2 (bW (dV 0)) (fH 1 (dV 2) (d2 bB (iN 1 (dV 2) (dC (.int 0))) (dC (.int 1)))) b))
 (kU 1))
def vo(a:Ad):ak->R Slot:=bp 1 [] (bu 2 (yaq a))
def yam(a:Ad)(c:ak->R Slot):ak->R aP:=aS (cS (kL (dB (uJ 2))) (aS (nq 3 (dV 0)) (vp (.ret (.val .non)))) (d8))
 (aS (cu 4 (bR bV (dV 0) (bx (d2 bB (d2 iO (dL bw (aq (dV 0) (aC))) (dV 1)) (dC (.int 1)))) (bZ)))
 (λb=>dD (d7 5 (bW (dC (.str [97,98,99]))) (aS (cu 6 (d2 bB (dV 4) (dV 5)))
 (cS (dB (d2 (fh λi j=>decide (j<i)) (iN 2 (dV 6) (dC (.int 0))) (dC (.int 0)))) (aS (fH 2 (dV 6) (d2 iO (nH 2 (dV 6)) (dC (.int 1))))
 (aS (kt (bd (c) (gV (d2 bB (dV 0) (dV 5)) (gV (dV 1) (gO 2 (gO 3 (bJ)))))))
 (fH 2 (dV 6) (d2 bB (nH 2 (dV 6)) (dC (.int 1)))))) (d8))) b)))
def o0(a:Ad):Nat->ak->R Slot
 |0=>bp 4 [2,3] (bu 3 AJ)
 |k+1=>bp 4 [2,3] (bu 3 (yam a (o0 a k)))
def yaQ(a:Ad):ak->R aP:=aS (kt (bd (kh a) (gV (dV 0) (bJ))))
 (aS (cu 1 (d2 bG (dV 0) (dC (.int 0))))
 (aS (eR 2 (dL fN (aC)))
 (aS (λb=>dD (d7 3 (bW (dF (dL u_ (aq (dF (dX [] (bW (d2 bG (dV 0) (dC (.int 1)))) (fu) (bR bV (dV 0) (bZ) (bx (d1 cG (dC (.int 1))))))) (aC))))) (kt (pJ (o0 a 12) (nk (dV 3) (nk (dV 1) (gN (ki (bd (vo a) (gV (d2 bG (dV 0) (dC (.int 1))) (bJ)))) (gO 2 (bJ))))))) b))
 (kU 2))))
def sK(a:Ad):ak->R Slot:=bp 1 [] (bu 3 (yaQ a))
def yav(a:Ad):ak->R aP:=ce (dL bw (aq (bA (bd (sK a) (gV (dV 0) (bJ)))) (aC)))
def uH(a:Ad):ak->R Slot:=bp 1 [] (bu 0 (yav a))
def yan(a:Ad):ak->R aP:=aS (λb=>dD (d7 2 (dL uh (aq (d2 iO (dL bw (aq (dV 1) (aC))) (dC (.int 1))) (aq (dC (.int 0)) (aq (d1 cG (dC (.int 1))) (aC))))) (cS (dB (uB uf (dV 0) (aq (bR bV (dV 1) (bZ) (bx (dV 2))) (aC)))) (ce (bR bV (dV 1) (bx (dV 2)) (bZ))) (d8)) b))
 (ce (dV 1))
def ux(a:Ad):ak->R Slot:=bp 2 [] (bu 1 (yan a))
def yaS(a:Ad):ak->R aP:=aS (cu 2 (Ai nA (dV 0) (dV 1)))
 (ce (d2 rF (bR bV (dV 0) (bZ) (bx (dV 2))) (bR bV (dV 0) (bx (d2 rF (dV 2) (dC (.int 1)))) (bZ))))
def uF(a:Ad):ak->R Slot:=bp 2 [] (bu 1 (yaS a))
def yaM(a:Ad)(rc:ak->R Slot):ak->R aP:=aS (cS (dB (d2 (eqT aj) (dL bw (aq (dV 1) (aC))) (dC (.int 0)))) (ce (dC (.str []))) (d8))
 (aS (cS (dB (qy ah 2 (dL bP (aq (dV 0) (aq (dV 1) (aC)))))) (aS (eR 3 (dL fN (aC)))
 (aS (λb=>dD (d7 4 (bW (dF (dL qm (aq (dV 1) (aC))))) (nq 3 (d2 bB (bA (bd (ux a) (gV (dV 0) (gV (dV 4) (bJ))))) (bA (bd (rc) (gV (dV 4) (gV (bA (bd (uF a) (gV (dV 1) (gV (dV 4) (bJ))))) (gO 2 (bJ)))))))) b))
 (u9 2 (dL bP (aq (dV 0) (aq (dV 1) (aC)))) (r8 3)))) (d8))
 (ce (vn 2 (dL bP (aq (dV 0) (aq (dV 1) (aC)))))))
def lj(a:Ad):Nat->ak->R Slot
 |0=>bp 3 [2] (bu 2 AJ)
 |k+1=>bp 3 [2] (bu 2 (yaM a (lj a k)))
def yaP(a:Ad):ak->R aP:=aS (kt (bd (kh a) (gV (dV 0) (bJ))))
 (kc (pJ (lj a 10) (nk (dC (.str [])) (nk (d2 bG (dV 0) (dC (.int 1))) (gN (Bs) (bJ))))))
def uX(a:Ad):ak->R Slot:=bp 1 [] (bu 0 (yaP a))
def yar(a:Ad):ak->R aP:=aS (eR 1 (si))
 (aS (λb=>dD (d7 2 (bW (dV 0)) (aS (fH 1 (bR bV (dV 2) (bZ) (bx (d1 cG (dC (.int 1))))) (d2 bB (iN 1 (bR bV (dV 2) (bZ) (bx (d1 cG (dC (.int 1))))) (dC (.int 0))) (dC (.int 1))))
 (fH 1 (bR bV (dV 2) (bx (dC (.int 1))) (bZ)) (d2 iO (iN 1 (bR bV (dV 2) (bx (dC (.int 1))) (bZ)) (dC (.int 0))) (dC (.int 1))))) b))
 (kU 1))
def w6(a:Ad):ak->R Slot:=bp 1 [] (bu 2 (yar a))
def yaO(a:Ad):ak->R aP:=aS (eR 1 (uc (bR bV (d2 bG (dV 0) (dC (.int 0))) (bZ) (bx (d1 cG (dC (.int 1))))) (dC (.bl ah))))
 (aS (cu 2 (dC (.int 0)))
 (aS (λb=>dD (gc (dB (d2 (fh λi j=>decide (i<j)) (dV 2) (nz 1))) (aS (cu 2 (nz 1))
 (d7 3 (bW (dV 0)) (cS (i7 (dB (gx aj 1 (bR bV (dV 3) (bZ) (bx (d1 cG (dC (.int 1))))))) (dB (gx aj 1 (bR bV (dV 3) (bx (dC (.int 1))) (bZ))))) (aS (fH 1 (bR bV (dV 3) (bZ) (bx (d1 cG (dC (.int 1))))) (dC (.bl ah)))
 (fH 1 (bR bV (dV 3) (bx (dC (.int 1))) (bZ)) (dC (.bl ah)))) (d8)))) 1000 b))
 (kU 1)))
def uV(a:Ad):ak->R Slot:=bp 1 [] (bu 3 (yaO a))
def yas(a:Ad):ak->R aP:=aS (eR 1 (ki (bd (w6 a) (gV (dV 0) (bJ)))))
 (ce (dL sE (aq (dC (.int 1)) (aq (dL sA (aq (dF (qe 1)) (aC))) (aC)))))
def yR(a:Ad):ak->R Slot:=bp 1 [] (bu 1 (yas a))
def yat(a:Ad):ak->R aP:=aS (kt (bd (kh a) (gV (dV 0) (bJ))))
 (aS (cu 1 (d2 bG (dV 0) (dC (.int 1))))
 (aS (cu 2 (dC (.int 0)))
 (aS (λb=>dD (gc (dB (d2 (fh λi j=>decide (j<i)) (dL bw (aq (dV 1) (aC))) (dC (.int 0)))) (aS (eR 3 (ki (bd (uV a) (gV (dV 1) (bJ)))))
 (aS (cu 2 (d2 bB (dV 2) (bA (bd (yR a) (gV (dF (dX [3] (bW (dV 1)) (dB (gx aj 1 (bR bV (dV 0) (bZ) (bx (d1 cG (dC (.int 1))))))) (dV 0))) (bJ))))))
 (cu 1 (dF (dX [3] (bW (dV 1)) (dB (gx ah 1 (bR bV (dV 0) (bZ) (bx (d1 cG (dC (.int 1))))))) (dV 0)))))) 1000 b))
 (ce (dV 2)))))
def ur(a:Ad):ak->R Slot:=bp 1 [] (bu 3 (yat a))
def yaD(a:Ad):ak->R aP:=aS (cS (dB (d2 (fh λi j=>decide (i<j)) (dV 1) (dL bw (aq (dV 0) (aC))))) (ce (d2 bG (dV 0) (dV 1))) (d8))
 (aS (cS (dB (d2 (eqT aj) (dV 0) (dF (dL fN (aC))))) (ce (dC (.int 0))) (d8))
 (ce (d2 bB (d2 lC (d2 bG (dV 0) (d2 gG (dV 1) (dL bw (aq (dV 0) (aC))))) (dC (.int 31))) (dV 1))))
def sk(a:Ad):ak->R Slot:=bp 2 [] (bu 0 (yaD a))
def yaF(a:Ad):ak->R aP:=aS (cu 3 (d2 gG (d2 bB (d2 bB (d2 lC (bA (bd (sk a) (gV (dV 0) (gV (dV 1) (bJ))))) (dC (.int 1103515245))) (d2 lC (dC (.int 7919)) (dV 1))) (dC (.int 12345))) (dC (.int 2147483647))))
 (ce (d2 gG (d2 gG (d2 gG (d2 uC (dV 3) (dC (.int 5))) (dC (.int 2147483647))) (dC (.int 999983))) (dV 2)))
def yK(a:Ad):ak->R Slot:=bp 3 [] (bu 1 (yaF a))
def yaE(a:Ad):ak->R aP:=aS (nq 1 (dC (.int 0)))
 (kc (bd (yK a) (gV (dV 0) (gV (kn (λxs=>pW (bw xs)) 1) (gV (dV 2) (bJ))))))
def jX(a:Ad):ak->R Slot:=bp 3 [1] (bu 0 (yaE a))
def yaH(a:Ad):ak->R aP:=ce (d2 bG (dV 2) (bA (bd (jX a) (gV (dV 0) (gO 1 (gV (dL bw (aq (dV 2) (aC))) (bJ)))))))
def uI(a:Ad):ak->R Slot:=bp 3 [1] (bu 0 (yaH a))
def yaJ(a:Ad):ak->R aP:=aS (cu 4 (bA (bd (uI a) (gV (dV 0) (gO 1 (gV (dF (dL fN (aq (dC (.int 1)) (aq (dC (.int 2)) (aq (dC (.int 2)) (aq (dC (.int 3)) (aq (dC (.int 3)) (aq (dC (.int 3)) (aC))))))))) (bJ)))))))
 (aS (cu 5 (dC (.str [])))
 (aS (λb=>dD (d7 6 (dL nr (aq (d2 bB (dV 2) (bA (bd (jX a) (gV (dV 0) (gO 1 (gV (d2 bB (d2 iO (dV 3) (dV 2)) (dC (.int 1))) (bJ))))))) (aC))) (cu 5 (d2 bB (dV 5) (d2 bG (dC (.str [97,98,99])) (bA (bd (jX a) (gV (dV 0) (gO 1 (gV (dV 4) (bJ))))))))) b))
 (ce (dV 5))))
def rX(a:Ad):ak->R Slot:=bp 4 [1] (bu 3 (yaJ a))
def yaI(a:Ad):ak->R aP:=ce (dL ma (aq (dF (dL lv (aq (dF (dX [0,1] (dL nr (aq (dL bw (aq (dV 0) (aC))) (aC))) (dB (d2 (fh λi j=>decide (i<=j)) (d2 bB (dV 0) (dV 2)) (dL bw (aq (dV 1) (aC))))) (bR bV (dV 1) (bx (dV 0)) (bx (d2 bB (dV 0) (dV 2)))))) (aC)))) (aC)))
def xE(a:Ad):ak->R Slot:=bp 2 [] (bu 0 (yaI a))
def yaK(a:Ad):ak->R aP:=aS (cu 4 (cS (dB (d2 (eqT ah) (dV 2) (dC (.int 2)))) (d2 bB (dC (.int 2)) (bA (bd (jX a) (gV (dV 0) (gO 1 (gV (dC (.int 3)) (bJ))))))) (d2 bB (dC (.int 1)) (bA (bd (jX a) (gV (dV 0) (gO 1 (gV (dC (.int 4)) (bJ)))))))))
 (aS (eR 5 (dL sw (aq (bA (bd (xE a) (gV (bA (bd (rX a) (gV (dV 0) (gO 1 (gV (dV 4) (gV (d2 iO (d2 bB (dV 4) (dV 3)) (dC (.int 1))) (bJ))))))) (gV (dV 4) (bJ))))) (aC))))
 (aS (λb=>dD (d7 6 (dL nr (aq (d2 gG (dV 2) (dC (.int 3))) (aC))) (yN 5 (bA (bd (jX a) (gV (dV 0) (gO 1 (gV (kn (λxs=>pW (bw xs)) 5) (bJ)))))) (bA (bd (rX a) (gV (dV 0) (gO 1 (gV (dV 4) (gV (dV 4) (bJ)))))))) b))
 (ce (dL bP (aq (dV 4) (aq (dL ma (aq (dF (kn (λxs=>sH (lv xs)) 5)) (aC))) (aC)))))))
def t9(a:Ad):ak->R Slot:=bp 4 [1] (bu 3 (yaK a))
def yaG(a:Ad):ak->R aP:=aS (cu 2 (dF (dL fN (aq (dC .non) (aq (dC (.int 5)) (aq (dC (.str [50,58,32,97,98])) (aq (dF (dL fN (aq (dC (.int 1)) (aq (dL bP (aq (dC (.str [97])) (aC))) (aC))))) (aq (dL bP (aq (dC (.int 1)) (aq (dL bP (aC)) (aC)))) (aq (dL bP (aq (dC (.int 2)) (aq (dL bP (aq (dC (.str [97])) (aC))) (aC)))) (aq (dL bP (aq (dC (.int 0)) (aq (dL bP (aq (dC (.str [])) (aC))) (aC)))) (aq (dL bP (aq (dC (.int 5)) (aq (dL bP (aq (dC (.str [97,97,97,97,97])) (aC))) (aC)))) (aq (dL bP (aq (dC (.bl ah)) (aq (dL bP (aq (dC (.str [97])) (aC))) (aC)))) (aC)))))))))))))
 (aS (cu 2 (d2 bB (dV 2) (dF (dL fN (aq (dL bP (aq (dC (.int 1)) (aq (dL bP (aq (dC (.str [98])) (aq (dC (.str [97])) (aC)))) (aC)))) (aq (dL bP (aq (dC (.int 1)) (aq (d2 xt (dL bP (aq (dC (.str [97])) (aC))) (dC (.int 10))) (aC)))) (aq (dL bP (aq (dC (.int 1)) (aq (dL bP (aq (dC (.str [100])) (aC))) (aC)))) (aq (dL bP (aq (dC (.int 1)) (aq (dL bP (aq (dC (.str [65])) (aC))) (aC)))) (aq (dL bP (aq (dC (.int 1)) (aq (dF (dL fN (aq (dC (.str [97])) (aC)))) (aC)))) (aq (dL bP (aq (dC (.int 1)) (aq (dL bP (aq (dC (.int 1)) (aC))) (aC)))) (aC)))))))))))
 (aS (cu 2 (d2 bB (dV 2) (dF (dL fN (aq (dL bP (aq (dC (.int 1)) (aC))) (aq (dL bP (aq (dC (.int 1)) (aq (dL bP (aq (dC (.str [97])) (aC))) (aq (dC (.int 1)) (aC))))) (aq (dL bP (aq (dC (.str [49])) (aq (dL bP (aq (dC (.str [97])) (aC))) (aC)))) (aC))))))))
 (kc (bd (uI a) (gV (dV 0) (gO 1 (gV (dV 2) (bJ))))))))
def yQ(a:Ad):ak->R Slot:=bp 2 [1] (bu 1 (yaG a))
def yaL(a:Ad):ak->R aP:=aS (eR 1 (dL fN (aq (dL (jR (jy a)) (aq (dV 0) (aq (dC (.raw (.ref a.NoText))) (aC)))) (aq (dL (jR (jy a)) (aq (dV 0) (aq (dC (.raw (.ref a.NoWidth))) (aC)))) (aq (dL (jR (jy a)) (aq (dV 0) (aq (dC (.raw (.ref a.NoView))) (aC)))) (aq (dL (jR (jy a)) (aq (dV 0) (aq (dC (.raw (.ref a.NoWindow))) (aC)))) (aC)))))))
 (aS (xZ 1 (dF (dL fN (aq (dL (jR (jy a)) (aq (dV 0) (aq (dC (.raw (.ref a.Never))) (aC)))) (aq (dL (jR (jy a)) (aq (dV 0) (aq (dC (.raw (.ref a.Full))) (aC)))) (aq (dL (jR (jy a)) (aq (dV 0) (aq (dC (.raw (.ref a.Nothing))) (aC)))) (aq (dL (jR (jy a)) (aq (dV 0) (aq (dC (.raw (.ref a.Unlike))) (aC)))) (aC))))))))
 (aS (xZ 1 (dF (dL fN (aq (dL (jR (jy a)) (aq (dV 0) (aq (dC (.raw (.ref a.NoPlace))) (aC)))) (aq (dL (jR (jy a)) (aq (dV 0) (aq (dC (.raw (.ref a.NoLetters))) (aC)))) (aq (dL (jR (jy a)) (aq (dV 0) (aq (dC (.raw (.ref a.BadText))) (aC)))) (aC)))))))
 (aS (cS (i7 (dB (d2 (eqT ah) (sq AF 1 (dC (.bl ah))) (dC (.int 1)))) (kL (dB (dL (jR (jy a)) (aq (dV 0) (aq (dC (.raw (.ty "ValueError"))) (aC))))))) (ce (dL bP (aq (dC (.str [114,101,102,117,115,101,100])) (aq (d1 cG (dC (.int 1))) (aC))))) (d8))
 (ce (dL bP (aq (dC (.str [114,101,102,117,115,101,100])) (aq (sq nA 1 (dC (.bl ah))) (aC))))))))
def uZ(a:Ad):ak->R Slot:=bp 1 [] (bu 1 (yaL a))
def yaN(a:Ad):ak->R aP:=aS (kt (bd (kh a) (gV (dV 0) (bJ))))
 (kc (bd (sS a) (gV (d2 bG (dV 0) (dC (.int 0))) (gV (dF (dX [] (bW (d2 bG (dV 0) (dC (.int 1)))) (fu) (nt (dV 0) (bx (d1 cG (dC (.int 1))))))) (bJ)))))
def nD(a:Ad):ak->R Slot:=bp 1 [] (bu 0 (yaN a))
end Sh
local macro_rules | `(tactic| and_intros) => `(tactic| (refine' Pu.Ug ?a ?l ?c ?k; (case a => k_is); (case l => k_is); (case c => k_is); (case k => k_is)))
namespace K35
open L2 Pu Sh
def dw(i:Nat):ba:=PySem.Challenge.pw_slitview_k35_whole_mirrored.main.body.getD i (.Pass ⟨0,0,0,0⟩)
abbrev zZ:ba:=dw 45
abbrev zO:ba:=dw 46
abbrev A0:ba:=dw 47
abbrev wU:ba:=dw 50
abbrev BW:ba:=dw 48
abbrev AI:ba:=dw 49
abbrev Ak:ba:=dw 51
abbrev As:ba:=dw 18
abbrev B9:ba:=dw 19
abbrev xr:ba:=dw 17
abbrev BI:ba:=dw 20
abbrev xx:ba:=dw 21
abbrev BB:ba:=dw 22
abbrev Bc:ba:=dw 23
abbrev B_:ba:=dw 24
abbrev Ao:ba:=dw 25
abbrev yo:ba:=dw 27
abbrev Az:ba:=dw 30
abbrev Ae:ba:=dw 29
abbrev yT:ba:=dw 31
abbrev AO:ba:=dw 32
abbrev Aa:ba:=dw 40
abbrev zS:ba:=dw 39
abbrev yc:ba:=dw 42
abbrev uQ:ba:=dw 43
abbrev AC:ba:=dw 34
abbrev BS:ba:=dw 35
abbrev AA:ba:=dw 36
abbrev By:ba:=dw 37
abbrev AD:ba:=dw 53
abbrev Ar:ba:=dw 54
abbrev B7:ba:=dw 52
abbrev rA:ba:=dw 55
structure dq(K:ax)(mg:Str->Option ai)(base:aB)(a:Ad):Prop where
 yaD:cK K mg "_law_cell_at" zZ
 yaF:cK K mg "_law_mixed" zO
 yaE:cK K mg "_law_draw" A0
 yaI:cK K mg "_law_seen" wU
 yaH:cK K mg "_law_pick" BW
 yaJ:cK K mg "_law_text" AI
 yaK:cK K mg "_law_view" Ak
 yay:cK K mg "is_whole_number" As
 yaz:cK K mg "is_width" B9
 yau:cK K mg "has_only" xr
 yaA:cK K mg "is_window" BI
 yao:cK K mg "are_windows" xx
 yax:cK K mg "is_view_with" BB
 yaw:cK K mg "is_view" Bc
 yap:cK K mg "check_view" B_
 yaR:cK K mg "view_of" Ao
 yaN:cK K mg "mirrored" yo
 yam:cK K mg "add_endings" Az
 yaq:cK K mg "counted" Ae
 yaQ:cK K mg "texts" yT
 yav:cK K mg "how_many" AO
 yaO:cK K mg "reached_pieces" Aa
 yar:cK K mg "excesses" zS
 yas:cK K mg "fewest_for" yc
 yat:cK K mg "fewest_texts" uQ
 yan:cK K mg "added_letters" AC
 yaS:cK K mg "without" BS
 yaM:cK K mg "least_ending" AA
 yaP:cK K mg "shortest" By
 yaL:cK K mg "_law_which" AD
 yaC:cK K mg "_law_ask" Ar
 yaG:cK K mg "_law_odd" B7
 yaB:cK K mg "law" rA
 yaU:mg "ValueError"=ae
 yaV:mg "all"=ae
 yaW:mg "any"=ae
 yaX:mg "bool"=ae
 yaY:mg "int"=ae
 yaZ:mg "isinstance"=ae
 ya0:mg "len"=ae
 ya1:mg "list"=ae
 ya2:mg "max"=ae
 ya3:mg "min"=ae
 ya4:mg "range"=ae
 ya5:mg "set"=ae
 ya6:mg "sorted"=ae
 ya7:mg "str"=ae
 ya8:mg "sum"=ae
 ya9:mg "tuple"=ae
 ybb:∃t,mg "LETTERS"=aa (.str (tS [97,98,99]) t)
 ybc:∃t,mg "MOST_WINDOWS"=aa (.int 9 t)
 ybd:∃t,mg "WIDEST"=aa (.int 4 t)
 yak:mg "SlitError"=aa (.ref a.SlitError)
 yaf:mg "NoText"=aa (.ref a.NoText)
 yah:mg "NoWidth"=aa (.ref a.NoWidth)
 yag:mg "NoView"=aa (.ref a.NoView)
 yai:mg "NoWindow"=aa (.ref a.NoWindow)
 yac:mg "Never"=aa (.ref a.Never)
 yab:mg "Full"=aa (.ref a.Full)
 yaj:mg "Nothing"=aa (.ref a.Nothing)
 yal:mg "Unlike"=aa (.ref a.Unlike)
 yae:mg "NoPlace"=aa (.ref a.NoPlace)
 yad:mg "NoLetters"=aa (.ref a.NoLetters)
 yaa:mg "BadText"=aa (.ref a.BadText)
 yba:OwnCls "NoView" a.NoView [.type "ValueError",.type "Exception",.type "BaseException",.type "object"] "ValueError.__new__" mg base
 err_SlitError:qo base a.SlitError
 und:∀c,rG a c=ah->Under base a.SlitError c
 tab:Ax K (jy a)
 yaT:∃c T,BM K mg "least_ending" c T
section
variable{P:aQ}{w:aE}{K:ax}{d:Str->Option ai}{b:aB}{a:Ad}
theorem Qt:cb ["_law_script","_law_k"] ["_law_script","_law_k"] (aZ zZ):=by ac_nf
theorem QE(G:dq K d b a):cU (cr P w) P w K d b "_law_cell_at" 1 ["_law_script","_law_k"] (bM K (sk a)) :=
 dA (k:=0) (pin:=[]) G.yaD Qt rfl (λ_ _ _ _ _ _ g i=>Pu.Ui (λ_ _=>rfl) g i) (λf j A c s H E h=>by exact
  (bq (iL (i9 Hf lA (au 1) (cV g8 ig G.ya0 g6 (ay (au 0) aJ)) rfl) (bt (dE (iA iP iQ (au 0) (au 1)))) iC)
  (bq (iL (i9 (vf h.units) uy (au 0) (nB aJ) rfl) (bt (dE aO)) iC)
  (bt (dE (cH fQ fK (cH AU Aw (iA iP iQ (au 0) (cH rP sW (au 1) (cV g8 ig G.ya0 g6 (ay (au 0) aJ)))) aO) (au 1)))))))
theorem Pd:cb ["_law_script","_law_k","_law_many","_law_drawn"] ["_law_script","_law_k","_law_many"] (aZ zO):=by ac_nf
theorem JK(G:dq K d b a):cU (cr P w) P w K d b "_law_mixed" 2 ["_law_script","_law_k","_law_many"] (bM K (yK a)) :=
 dA (k:=1) (pin:=[]) G.yaF Pd rfl (λ_ _ _ _ _ _ g i=>Pu.Ut (λ_ _ _=>rfl) g i) (λf j A c s H E h=>by exact
  (bq (gv 3 Pd.nd (cH rP sW (cH fQ fK (cH fQ fK (cH AU Aw ((bX (QE G) (h.mono (by decide)) cR (a9 (au 0) (a9 (au 1) bL)))).de aO) (cH AU Aw aO (au 1))) aO) aO))
  (bt (dE (cH rP sW (cH rP sW (cH rP sW (cH Ri Ts (au 3) aO) aO) aO) (au 2))))))
theorem Sm:cb ["_law_script","_law_town","_law_many"] ["_law_script","_law_town","_law_many"] (aZ A0):=by ac_nf
theorem pK(G:dq K d b a):cU (cr P w) P w K d b "_law_draw" 3 ["_law_script","_law_town","_law_many"] (bM K (jX a)) :=
 dA (k:=2) (pin:=[1]) G.yaE Sm rfl (λ_ _ _ _ _ _ g i=>Pu.Ut (λ_ _ _=>rfl) g i) (λf j A c s H E h=>by exact
  (bq (A7 1 aO)
  (bt (rK (bX (JK G) (h.mono (by decide)) cR (a9 (au 0) (a9 (GT 1 g8 ig G.ya0 g6) (a9 (au 2) bL))))))))
theorem RF:cb ["_law_text_here","_law_width"] ["_law_text_here","_law_width"] (aZ wU):=by ac_nf
theorem Km(G:dq K d b a):cU (cr P w) P w K d b "_law_seen" 1 ["_law_text_here","_law_width"] (bM K (xE a)) :=
 dA (k:=0) (pin:=[]) G.yaI RF rfl (λ_ _ _ _ _ _ i l=>Pu.Ui (λ_ _=>rfl) i l) (λf o A h s H E n=>by exact
  (bt (dE (yU yy yD G.ya9 sd (ay (uk rV sP G.ya6 oU (ay (oF (cap:=[0,1]) (N':=["_law_at","_law_text_here","_law_width"]) (jx.of ["_law_text_here","_law_width"] (aZ wU) rfl rfl (by decide +kernel)) rfl (z8 G.ya4 (ay (cV g8 ig G.ya0 g6 (ay (au 0) aJ)) aJ)) (λC c g m j=>by exact A6 (i9 pI lA (cH fQ fK (au 0) (au 2)) (cV g8 ig G.ya0 g6 (ay (au 1) aJ)) rfl)) (λC c g m j=>by exact(g_ ie hZ (au 1) (fL (au 0)) (fL (cH fQ fK (au 0) (au 2)))))).de aJ)).de aJ)))))
theorem Pg:cb ["_law_script","_law_town","_law_some"] ["_law_script","_law_town","_law_some"] (aZ BW):=by ac_nf
theorem HU(G:dq K d b a):cU (cr P w) P w K d b "_law_pick" 4 ["_law_script","_law_town","_law_some"] (bM K (uI a)) :=
 dA (k:=3) (pin:=[1]) G.yaH Pg rfl (λ_ _ _ _ _ _ g i=>Pu.Ut (λ_ _ _=>rfl) g i) (λf j A c s H E h=>by exact
  (bt (dE (iA iP iQ (au 2) ((bX (pK G) (h.mono (by decide)) cR (a9 (au 0) (iB 1 (a9 (cV g8 ig G.ya0 g6 (ay (au 2) aJ)) bL))))).de))))
theorem Td:cb ["_law_script","_law_town","_law_low","_law_most","_law_few","_law_made","_law_k"] ["_law_script","_law_town","_law_low","_law_most"] (aZ AI):=by ac_nf
theorem Et(G:dq K d b a):cU (cr P w) P w K d b "_law_text" 5 ["_law_script","_law_town","_law_low","_law_most"] (bM K (rX a)) :=
 dA (k:=4) (pin:=[1]) G.yaJ Td rfl (λ_ _ _ _ _ _ h i=>Pu.UG (λ_ _ _ _=>rfl) h i) (λf j A c s H E g=>by exact
  (bq (gv 4 Td.nd ((bX (HU G) (g.mono (by decide)) cR (a9 (au 0) (iB 1 (a9 (nB (ay aO (ay aO (ay aO (ay aO (ay aO (ay aO aJ))))))) bL))))).de)
  (bq (gv 5 Td.nd (eZ []))
  (bq (l6 (m_ 6 mF rfl Td.nd (z8 G.ya4 (ay (cH fQ fK (au 2) ((bX (pK G) (g.mono (by decide)) kq (a9 (au 0) (iB 1 (a9 (cH fQ fK (cH rL rN (au 3) (au 2)) aO) bL))))).de) aJ)) (bt (gv 5 Td.nd (cH fQ fK (au 5) (iA iP iQ (eZ [97,98,99]) ((bX (pK G) (g.mono (by decide)) kq (a9 (au 0) (iB 1 (a9 (au 4) bL))))).de))))))
  (bt (dE (au 5)))))))
theorem R5:cb ["_law_script","_law_town","_law_spoil","_law_most","_law_width","_law_windows","_law_k"] ["_law_script","_law_town","_law_spoil","_law_most"] (aZ Ak):=by ac_nf
theorem Q7(G:dq K d b a):cU (cr P w) P w K d b "_law_view" 6 ["_law_script","_law_town","_law_spoil","_law_most"] (bM K (t9 a)) :=
 dA (k:=5) (pin:=[1]) G.yaK R5 rfl (λ_ _ _ _ _ _ h i=>Pu.UG (λ_ _ _ _=>rfl) h i) (λf j A g s H E c=>by exact
  (bq (gv 4 R5.nd (Pb (i9 (mY c.units) nv (au 2) aO rfl) (cH fQ fK aO ((bX (pK G) (c.mono (by decide)) cR (a9 (au 0) (iB 1 (a9 aO bL))))).de) (cH fQ fK aO ((bX (pK G) (c.mono (by decide)) cR (a9 (au 0) (iB 1 (a9 aO bL))))).de)))
  (bq (mh 5 R5.nd (FS HV Gy G.ya1 EQ (ay ((bX (Km G) (c.mono (by decide)) cR (a9 ((bX (Et G) (c.mono (by decide)) cR (a9 (au 0) (iB 1 (a9 (au 4) (a9 (cH rL rN (cH fQ fK (au 4) (au 3)) aO) bL)))))).de (a9 (au 4) bL)))).de aJ)))
  (bq (l6 (m_ 6 mF rfl R5.nd (z8 G.ya4 (ay (cH rP sW (au 2) aO) aJ)) (bt (PP 5 ((bX (pK G) (c.mono (by decide)) kq (a9 (au 0) (iB 1 (a9 (GT 5 g8 ig G.ya0 g6) bL))))).de ((bX (Et G) (c.mono (by decide)) kq (a9 (au 0) (iB 1 (a9 (au 4) (a9 (au 4) bL)))))).de))))
  (bt (dE (cX (ay (au 4) (ay (yU yy yD G.ya9 sd (ay (P4 5 rV sP G.ya6 oU).de aJ)) aJ)))))))))
theorem Nj:cb ["thing"] ["thing"] (aZ As):=by ac_nf
theorem K7(G:dq K d b a):cU (cr P w) P w K d b "is_whole_number" 1 ["thing"] (bM K (mW a)) :=
 dA (k:=0) (pin:=[]) G.yay Nj rfl (λ_ _ _ _ _ _ g h=>Pu.Uw (λ_=>rfl) g h) (λf j A c s H E i=>by exact
  (bt (dE (u0 (cV rO sm G.yaZ iJ (ay (au 0) (ay (rT G.yaY PN) aJ))) (wT (QX (cV rO sm G.yaZ iJ (ay (au 0) (ay (rT G.yaX Pq) aJ)))))))))
theorem R4:cb ["thing"] ["thing"] (aZ B9):=by ac_nf
theorem M9(G:dq K d b a):cU (cr P w) P w K d b "is_width" 2 ["thing"] (bM K (nI a)) :=
 dA (k:=1) (pin:=[]) G.yaz R4 rfl (λ_ _ _ _ _ _ g i=>Pu.Uw (λ_=>rfl) g i) (λf j A c s H E h=>by exact
  (bt (dE (u0 ((bX (K7 G) (h.mono (by decide)) cR (a9 (au 0) bL))).de (wT (SN pI pI lA lA aO (au 0) (BN G.ybd)))))))
theorem Ll:cb ["text","signs"] ["text","signs"] (aZ xr):=by ac_nf
theorem Pk(G:dq K d b a):cU (cr P w) P w K d b "has_only" 1 ["text","signs"] (bM K (yM a)) :=
 dA (k:=0) (pin:=[]) G.yau Ll rfl (λ_ _ _ _ _ _ i l=>Pu.Ui (λ_ _=>rfl) i l) (λf o A h s H E n=>by exact
  (bt (dE (cV (Hr rfl) Ij G.yaV HW (ay (oF (cap:=[1]) (N':=["sign","signs"]) (jx.of ["text","signs"] (aZ xr) rfl rfl (by decide +kernel)) rfl (jW (au 0)) (λC c g m j=>by exact rW) (λC c g m j=>by exact(yG Rv J2 (au 0) (au 1) rfl))).de aJ)))))
theorem Ls:cb ["thing","width","signs"] ["thing","width","signs"] (aZ BI):=by ac_nf
theorem MU(G:dq K d b a):cU (cr P w) P w K d b "is_window" 2 ["thing","width","signs"] (bM K (oY a)) :=
 dA (k:=1) (pin:=[]) G.yaA Ls rfl (λ_ _ _ _ _ _ h i=>Pu.Ut (λ_ _ _=>rfl) h i) (λf j A c s H E g=>by exact
  (bt (dE (u0 (cV rO sm G.yaZ iJ (ay (au 0) (ay (rT G.ya7 NU) aJ))) (u0 (yG (vf g.units) uy (cV g8 ig G.ya0 g6 (ay (au 0) aJ)) (au 1) rfl) (wT ((bX (Pk G) (g.mono (by decide)) cR (a9 (au 0) (a9 (au 2) bL)))).de))))))
theorem Q3:cb ["thing","width","signs"] ["thing","width","signs"] (aZ xx):=by ac_nf
theorem NM(G:dq K d b a):cU (cr P w) P w K d b "are_windows" 3 ["thing","width","signs"] (bM K (kj a)) :=
 dA (k:=2) (pin:=[]) G.yao Q3 rfl (λ_ _ _ _ _ _ j m=>Pu.Ut (λ_ _ _=>rfl) j m) (λf o A h s H E i=>by exact
  (bq (iL ((pO (oN (qz (cV rO sm G.yaZ iJ (ay (au 0) (ay (rT G.ya9 sd) aJ))))) (pN (oN (Ew pI pI lA lA aO (cV g8 ig G.ya0 g6 (ay (au 0) aJ)) (BN G.ybc)))))).dt (bt (dE kT)) iC)
  (bq (iL (oN (qz (cV (Hr rfl) Ij G.yaV HW (ay (oF (cap:=[1,2]) (N':=["window","width","signs"]) (jx.of ["thing","width","signs"] (aZ xx) rfl rfl (by decide +kernel)) rfl (jW (au 0)) (λC c g n l=>by exact rW) (λC c g n l=>by exact((bX (MU G) (i.mono (by decide)) kq (a9 (au 0) (a9 (au 1) (a9 (au 2) bL))))).de)).de aJ)))) (bt (dE kT)) iC)
  (bt (dE (yG (vf i.units) uy (FS HV Gy G.ya1 EQ (ay (au 0) aJ)).de (uk rV sP G.ya6 oU (ay (au 0) aJ)).de rfl))))))
theorem JS:cb ["thing","signs"] ["thing","signs"] (aZ BB):=by ac_nf
theorem Lw(G:dq K d b a):cU (cr P w) P w K d b "is_view_with" 4 ["thing","signs"] (bM K (iI a)) :=
 dA (k:=3) (pin:=[]) G.yax JS rfl (λ_ _ _ _ _ _ h i=>Pu.Ui (λ_ _=>rfl) h i) (λf j A c s H E g=>by exact
  (bq (iL ((pO (oN (qz (cV rO sm G.yaZ iJ (ay (au 0) (ay (rT G.ya9 sd) aJ))))) (pN (i9 (mY g.units) nv (cV g8 ig G.ya0 g6 (ay (au 0) aJ)) aO rfl)))).dt (bt (dE kT)) iC)
  (bt (dE (u0 ((bX (M9 G) (g.mono (by decide)) cR (a9 (iA iP iQ (au 0) aO) bL))).de (wT ((bX (NM G) (g.mono (by decide)) cR (a9 (iA iP iQ (au 0) aO) (a9 (iA iP iQ (au 0) aO) (a9 (au 1) bL))))).de))))))
theorem KM:cb ["thing"] ["thing"] (aZ Bc):=by ac_nf
theorem Q0(G:dq K d b a):cU (cr P w) P w K d b "is_view" 5 ["thing"] (bM K (nu a)) :=
 dA (k:=4) (pin:=[]) G.yaw KM rfl (λ_ _ _ _ _ _ g i=>Pu.Uw (λ_=>rfl) g i) (λf j A c s H E h=>by exact
  (bt (rK (bX (Lw G) (h.mono (by decide)) cR (a9 (au 0) (a9 (Ht G.ybb) bL))))))
theorem Tg:cb ["thing"] ["thing"] (aZ B_):=by ac_nf
theorem yA(G:dq K d b a):cU (cr P w) P w K d b "check_view" 6 ["thing"] (bM K (kh a)) :=
 dA (k:=5) (pin:=[]) G.yap Tg rfl (λ_ _ _ _ _ _ g i=>Pu.Uw (λ_=>rfl) g i) (λf j A c s H E h=>by exact
  (bt (iL (oN (qz ((bX (Q0 G) (h.mono (by decide)) cR (a9 (au 0) bL))).de)) (bt (GC Ei rfl G.yba PySem.F.excBase_ValueError (eZ [97,32,118,105,101,119,32,105,115,32,97,32,116,117,112,108,101,32,111,102,32,97,32,119,105,100,116,104,32,97,110,100,32,97,32,114,105,115,105,110,103,32,116,117,112,108,101,32,111,102,32,49,32,116,111,32,57,32,119,105,110,100,111,119,115]))) iC)))
theorem R1:cb ["width","windows"] ["width","windows"] (aZ Ao):=by ac_nf
theorem LK(G:dq K d b a):cU (cr P w) P w K d b "view_of" 1 ["width","windows"] (bM K (sS a)) :=
 dA (k:=0) (pin:=[]) G.yaR R1 rfl (λ_ _ _ _ _ _ g h=>Pu.Ui (λ_ _=>rfl) g h) (λf j A c s H E i=>by exact
  (bq (iL (oN (Ew pI pI lA lA aO (cV g8 ig G.ya0 g6 (ay (au 1) aJ)) (BN G.ybc))) (bt (GC Ei rfl G.yba PySem.F.excBase_ValueError (eZ [97,32,118,105,101,119,32,104,97,115,32,49,32,116,111,32,57,32,119,105,110,100,111,119,115]))) iC)
  (bt (dE (cX (ay (au 0) (ay (yU yy yD G.ya9 sd (ay (uk rV sP G.ya6 oU (ay (au 1) aJ)).de aJ)) aJ)))))))
theorem SE:cb ["view"] ["view"] (aZ yo):=by ac_nf
theorem z7(G:dq K d b a):cU (cr P w) P w K d b "mirrored" 7 ["view"] (bM K (nD a)) :=
 dA (k:=6) (pin:=[]) G.yaN SE rfl (λ_ _ _ _ _ _ j m=>Pu.Uw (λ_=>rfl) j m) (λf o A h s H E i=>by exact
  (bq (rH (bX (yA G) (i.mono (by decide)) cR (a9 (au 0) bL)))
  (bt (rK (bX (LK G) (i.mono (by decide)) cR (a9 (iA iP iQ (au 0) aO) (a9 (oF (cap:=[]) (N':=["window"]) (jx.of ["view"] (aZ yo) rfl rfl (by decide +kernel)) rfl (jW (iA iP iQ (au 0) aO)) (λC c g n l=>by exact rW) (λC c g n l=>by exact(zK (au 0) (fL (kl kg kr aO))))).de bL)))))))
theorem El:cb ["text","width","left","found","head","letter","window"] ["text","width","left","found"] (aZ Az):=by ac_nf
theorem N5(G:dq K d b a)(m:Nat):cU (cr P w) P w K d b "add_endings" (1+m) ["text","width","left","found"] (bM K (o0 a m)):=by
 induction m with
 |zero=>exact dA (k:=0) (pin:=[2,3]) G.yam El rfl (λ_ _ _ _ _ _ h i=>Pu.UG (λ_ _ _ _=>rfl) h i) (λf l A c s H E g=>HA)
 |succ m j=>exact dA (k:=1+m) (pin:=[2,3]) G.yam El rfl (λ_ _ _ _ _ _ h i=>Pu.UG (λ_ _ _ _=>rfl) h i) (λf l A c s H E g=>by exact
  (bq (iL (oN (qz (OS 2 rfl G.yaW))) (bq (A7 3 (au 0))
  (bt Sk)) iC)
  (bq (gv 4 El.nd (g_ ie hZ (au 0) (fL (cH fQ fK (cH rL rN (cV g8 ig G.ya0 g6 (ay (au 0) aJ)) (au 1)) aO)) iG))
  (bt (l6 (m_ 5 mF rfl El.nd (jW (Ht G.ybb)) (bq (gv 6 El.nd (cH fQ fK (au 4) (au 5)))
  (bt (iL (i9 FE lA (ym 2 g.units (au 6) aO) aO rfl) (bq (qw 2 g.units (au 6) (cH rL rN (FH 2 g.units (au 6)) aO))
  (bq (rH (bX j (g.mono ∅) kq (a9 (cH fQ fK (au 0) (au 5)) (a9 (au 1) (iB 2 (iB 3 bL))))))
  (bt (qw 2 g.units (au 6) (cH fQ fK (FH 2 g.units (au 6)) aO))))) iC)))))))))
theorem Kx:cb ["windows","counts","window"] ["windows"] (aZ Ae):=by ac_nf
theorem L7(G:dq K d b a):cU (cr P w) P w K d b "counted" 1 ["windows"] (bM K (vo a)) :=
 dA (k:=0) (pin:=[]) G.yaq Kx rfl (λ_ _ _ _ _ _ h i=>Pu.Uw (λ_=>rfl) h i) (λf j A c s H E g=>by exact
  (bq (mh 1 Kx.nd (EA))
  (bq (l6 (m_ 2 mF rfl Kx.nd (jW (au 0)) (bt (qw 1 g.units (au 2) (cH fQ fK (ym 1 g.units (au 2) aO) aO)))))
  (bt (xY 1)))))
theorem Th:cb ["view","width","found","head"] ["view"] (aZ yT):=by ac_nf
theorem zY(G:dq K d b a):cU (cr P w) P w K d b "texts" 14 ["view"] (bM K (sK a)) :=
 dA (k:=13) (pin:=[]) G.yaQ Th rfl (λ_ _ _ _ _ _ j m=>Pu.Uw (λ_=>rfl) j m) (λf o A h s H E i=>by exact
  (bq (rH (bX (yA G) (i.mono (by decide)) cR (a9 (au 0) bL)))
  (bq (gv 1 Th.nd (iA iP iQ (au 0) aO))
  (bq (mh 2 Th.nd (uo aJ))
  (bq (l6 (m_ 3 mF rfl Th.nd (jW (MB rfl (ay (oF (cap:=[]) (N':=["window"]) (jx.of ["view","width","found","head"] (aZ yT) rfl rfl (by decide +kernel)) rfl (jW (iA iP iQ (au 0) aO)) (λC c g n l=>by exact rW) (λC c g n l=>by exact(g_ ie hZ (au 0) iG (fL (kl kg kr aO))))).de aJ) G.ya6 G.ya5).de) (bt (rH (Ha (N5 G 12) (i.mono (by decide)) kq (w8 (au 3) (w8 (au 1) (Fa (((bX (L7 G) (i.mono (by decide)) kq (a9 (iA iP iQ (au 0) aO) bL))).dn) (iB 2 bL)))))))))
  (bt (xY 2)))))))
theorem PY:cb ["view"] ["view"] (aZ AO):=by ac_nf
theorem EH(G:dq K d b a):cU (cr P w) P w K d b "how_many" 15 ["view"] (bM K (uH a)) :=
 dA (k:=14) (pin:=[]) G.yav PY rfl (λ_ _ _ _ _ _ g i=>Pu.Uw (λ_=>rfl) g i) (λf j A c s H E h=>by exact
  (bt (dE (cV g8 ig G.ya0 g6 (ay ((bX (zY G) (h.mono (by decide)) cR (a9 (au 0) bL))).de aJ)))))
theorem Sl:cb ["windows","reached","known","window"] ["windows"] (aZ Aa):=by ac_nf
theorem Q6(G:dq K d b a):cU (cr P w) P w K d b "reached_pieces" 1 ["windows"] (bM K (uV a)) :=
 dA (k:=0) (pin:=[]) G.yaO Sl rfl (λ_ _ _ _ _ _ h i=>Pu.Uw (λ_=>rfl) h i) (λf j A g s H E c=>by exact
  (bq (mh 1 Sl.nd (MO (g_ ie hZ (iA iP iQ (au 0) aO) iG (fL (kl kg kr aO))) kT))
  (bq (gv 2 Sl.nd aO)
  (bq (l6 (F7 (λ_=>1000) mF (i9 Hf lA (au 2) (Hi 1 G.ya0) rfl) (bq (gv 2 Sl.nd (Hi 1 G.ya0))
  (bt (m_ 3 mF rfl Sl.nd (jW (au 0)) (bt (iL ((pO (A3 1 c.units (g_ ie hZ (au 3) iG (fL (kl kg kr aO)))) (pN (A3 1 c.units (g_ ie hZ (au 3) (fL aO) iG))))).dt (bq (qw 1 c.units (g_ ie hZ (au 3) iG (fL (kl kg kr aO))) kT)
  (bt (qw 1 c.units (g_ ie hZ (au 3) (fL aO) iG) kT))) iC)))))))
  (bt (xY 1))))))
theorem Nx:cb ["windows","excess","window"] ["windows"] (aZ zS):=by ac_nf
theorem Qs(G:dq K d b a):cU (cr P w) P w K d b "excesses" 1 ["windows"] (bM K (w6 a)) :=
 dA (k:=0) (pin:=[]) G.yar Nx rfl (λ_ _ _ _ _ _ h i=>Pu.Uw (λ_=>rfl) h i) (λf j A g s H E c=>by exact
  (bq (mh 1 Nx.nd (EA))
  (bq (l6 (m_ 2 mF rfl Nx.nd (jW (au 0)) (bq (qw 1 c.units (g_ ie hZ (au 2) iG (fL (kl kg kr aO))) (cH fQ fK (ym 1 c.units (g_ ie hZ (au 2) iG (fL (kl kg kr aO))) aO) aO))
  (bt (qw 1 c.units (g_ ie hZ (au 2) (fL aO) iG) (cH rL rN (ym 1 c.units (g_ ie hZ (au 2) (fL aO) iG) aO) aO))))))
  (bt (xY 1)))))
theorem Kr:cb ["windows","excess"] ["windows"] (aZ yc):=by ac_nf
theorem Kb(G:dq K d b a):cU (cr P w) P w K d b "fewest_for" 2 ["windows"] (bM K (yR a)) :=
 dA (k:=1) (pin:=[]) G.yas Kr rfl (λ_ _ _ _ _ _ g i=>Pu.Uw (λ_=>rfl) g i) (λf j A c s H E h=>by exact
  (bq (mh 1 Kr.nd (((bX (Qs G) (h.mono (by decide)) cR (a9 (au 0) bL))).dn))
  (bt (dE (cV (OK rfl) Mb G.ya2 Ng (ay aO (ay (cV (K5 rfl) NV G.ya8 rfl (ay (Sn 1 (jx.of ["windows","excess"] (aZ yc) rfl rfl (by decide +kernel)) rfl).de aJ)) aJ)))))))
theorem Q9:cb ["view","left","count","reached"] ["view"] (aZ uQ):=by ac_nf
theorem Hc(G:dq K d b a):cU (cr P w) P w K d b "fewest_texts" 7 ["view"] (bM K (ur a)) :=
 dA (k:=6) (pin:=[]) G.yat Q9 rfl (λ_ _ _ _ _ _ m n=>Pu.Uw (λ_=>rfl) m n) (λf o A j s H E h=>by exact
  (bq (rH (bX (yA G) (h.mono (by decide)) cR (a9 (au 0) bL)))
  (bq (gv 1 Q9.nd (iA iP iQ (au 0) aO))
  (bq (gv 2 Q9.nd aO)
  (bq (l6 (F7 (λ_=>1000) mF (i9 FE lA (cV g8 ig G.ya0 g6 (ay (au 1) aJ)) aO rfl) (bq (mh 3 Q9.nd (((bX (Q6 G) (h.mono (by decide)) kq (a9 (au 1) bL))).dn))
  (bq (gv 2 Q9.nd (cH fQ fK (au 2) ((bX (Kb G) (h.mono (by decide)) kq (a9 (oF (cap:=[3]) (N':=["window","reached"]) (jx.of ["view","left","count","reached"] (aZ uQ) rfl rfl (by decide +kernel)) rfl (jW (au 1)) (λC c g l i=>by exact A6 (A3 1 h.units (g_ ie hZ (au 0) iG (fL (kl kg kr aO))))) (λC c g l i=>by exact(au 0))).de bL))).de))
  (bt (Kc 1 Q9.nd (cap:=[3]) (N':=["window","reached"]) (jx.of ["view","left","count","reached"] (aZ uQ) rfl rfl (by decide +kernel)) rfl (jW (au 1)) (λC c g l i=>by exact A6 (Oq 1 h.units (g_ ie hZ (au 0) iG (fL (kl kg kr aO))))) (λC c g l i=>by exact(au 0))))))))
  (bt (dE (au 2))))))))
theorem QI:cb ["ahead","window","shared"] ["ahead","window"] (aZ AC):=by ac_nf
theorem QU(G:dq K d b a):cU (cr P w) P w K d b "added_letters" 1 ["ahead","window"] (bM K (ux a)) :=
 dA (k:=0) (pin:=[]) G.yan QI rfl (λ_ _ _ _ _ _ g h=>Pu.Ui (λ_ _=>rfl) g h) (λf j A c s H E i=>by exact
  (bq (l6 (m_ 2 mF rfl QI.nd (KZ G.ya4 (ay (cH rL rN (cV g8 ig G.ya0 g6 (ay (au 1) aJ)) aO) (ay aO (ay (kl kg kr aO) aJ)))) (bt (iL (qz (NG PySem.F.slot_str_endswith PySem.F.type_str_endswith Ki Ss (au 0) (ay (g_ ie hZ (au 1) iG (fL (au 2))) aJ))) (bt (dE (g_ ie hZ (au 1) (fL (au 2)) iG))) iC))))
  (bt (dE (au 1)))))
theorem Ps:cb ["windows","window","place"] ["windows","window"] (aZ BS):=by ac_nf
theorem OC(G:dq K d b a):cU (cr P w) P w K d b "without" 1 ["windows","window"] (bM K (uF a)) :=
 dA (k:=0) (pin:=[]) G.yaS Ps rfl (λ_ _ _ _ _ _ g h=>Pu.Ui (λ_ _=>rfl) g h) (λf j A c s H E i=>by exact
  (bq (gv 2 Ps.nd (NF (au 0) (au 1)))
  (bt (dE (cH Ep D7 (g_ ie hZ (au 0) iG (fL (au 2))) (g_ ie hZ (au 0) (fL (cH Ep D7 (au 2) aO)) iG))))))
theorem Fq:cb ["ahead","left","known","endings","window"] ["ahead","left","known"] (aZ AA):=by ac_nf
theorem Kt(G:dq K d b a)(m:Nat):cU (cr P w) P w K d b "least_ending" (2+m) ["ahead","left","known"] (bM K (lj a m)):=by
 induction m with
 |zero=>exact dA (k:=1) (pin:=[2]) G.yaM Fq rfl (λ_ _ _ _ _ _ i j=>Pu.Ut (λ_ _ _=>rfl) i j) (λf o A h s H E g=>HA)
 |succ m n=>exact Ro (k:=2+m) (pin:=[2]) G.yaT (by decide) G.yaM Fq rfl (λ_ _ _ _ _ _ i j=>Pu.Ut (λ_ _ _=>rfl) i j) (λf o c T A h s H E g l=>by exact
  (bq (iL (i9 (vf g.units) uy (cV g8 ig G.ya0 g6 (ay (au 1) aJ)) aO rfl) (bt (dE (eZ []))) iC)
  (bq (iL (Kd 2 g.units (cX (ay (au 0) (ay (au 1) aJ)))) (bq (mh 3 Fq.nd (uo aJ))
  (bq (l6 (m_ 4 mF rfl Fq.nd (jW (K6 rfl (ay (au 1) aJ) G.ya6 G.ya5).de) (bt (A7 3 (cH fQ fK ((bX (QU G) (g.mono ∅) kq (a9 (au 0) (a9 (au 4) bL)))).de ((bX n (g.mono ∅) kq (a9 (au 4) (a9 ((bX (OC G) (g.mono ∅) kq (a9 (au 1) (a9 (au 4) bL)))).de (iB 2 bL))))).de)))))
  (bt (QL 2 g.units (cX (ay (au 0) (ay (au 1) aJ))) (LJ 3 rfl g.d1 g.units (by first|exact l|exact xz.nox l) G.ya3 G.ya0))))) iC)
  (bt (dE (SF 2 g.units (cX (ay (au 0) (ay (au 1) aJ)))))))))
theorem NY:cb ["view"] ["view"] (aZ By):=by ac_nf
theorem Hw(G:dq K d b a):cU (cr P w) P w K d b "shortest" 13 ["view"] (bM K (uX a)) :=
 dA (k:=12) (pin:=[]) G.yaP NY rfl (λ_ _ _ _ _ _ h i=>Pu.Uw (λ_=>rfl) h i) (λf j A c s H E g=>by exact
  (bq (rH (bX (yA G) (g.mono (by decide)) cR (a9 (au 0) bL)))
  (bt (rK (Ha (Kt G 10) (g.mono (by decide)) cR (w8 (eZ []) (w8 (iA iP iQ (au 0) aO) (Fa (Tw) bL))))))))
theorem LB:cb ["_law_e","_law_own"] ["_law_e"] (aZ AD):=by ac_nf
theorem Nk(G:dq K d b a):xu P w K d b "_law_which" 1 ["_law_e"] (bM K (uZ a)) :=
 LI (k:=0) (pin:=[]) G.yaL LB rfl (λ_ _ _ _ _ _ g i=>Pu.Uw (λ_=>rfl) g i) (λf j A c s H h=>by exact
  (bq (mh 1 LB.nd (uo (ay (cV kW (kQ G.tab) G.yaZ iJ (ay (au 0) (ay (lw G.yaf) aJ))) (ay (cV kW (kQ G.tab) G.yaZ iJ (ay (au 0) (ay (lw G.yah) aJ))) (ay (cV kW (kQ G.tab) G.yaZ iJ (ay (au 0) (ay (lw G.yag) aJ))) (ay (cV kW (kQ G.tab) G.yaZ iJ (ay (au 0) (ay (lw G.yai) aJ))) aJ))))))
  (bq (FK 1 (nB (ay (cV kW (kQ G.tab) G.yaZ iJ (ay (au 0) (ay (lw G.yac) aJ))) (ay (cV kW (kQ G.tab) G.yaZ iJ (ay (au 0) (ay (lw G.yab) aJ))) (ay (cV kW (kQ G.tab) G.yaZ iJ (ay (au 0) (ay (lw G.yaj) aJ))) (ay (cV kW (kQ G.tab) G.yaZ iJ (ay (au 0) (ay (lw G.yal) aJ))) aJ))))))
  (bq (FK 1 (nB (ay (cV kW (kQ G.tab) G.yaZ iJ (ay (au 0) (ay (lw G.yae) aJ))) (ay (cV kW (kQ G.tab) G.yaZ iJ (ay (au 0) (ay (lw G.yad) aJ))) (ay (cV kW (kQ G.tab) G.yaZ iJ (ay (au 0) (ay (lw G.yaa) aJ))) aJ)))))
  (bq (iL ((pO (i9 (mY h.units) nv (Mg 1 kT) aO rfl) (pN (oN (qz (cV kW (kQ G.tab) G.yaZ iJ (ay (au 0) (ay (rT G.yaU Q4) aJ)))))))).dt (bt (dE (cX (ay (eZ [114,101,102,117,115,101,100]) (ay (kl kg kr aO) aJ))))) iC)
  (bt (dE (cX (ay (eZ [114,101,102,117,115,101,100]) (ay (KG 1 kT) aJ))))))))))
def yaC(a:Ad):ak->R aP:=uS 1 (rG a) (xX (nD a) (gV (dV 0) (bJ))) (kc (λc=>dW (bd (uZ a) (gV (dV 1) (bJ)) c)))
def yn(a:Ad):ak->R Slot:=bp 1 [] (bu 1 (yaC a))
theorem R9:cb ["_law_thing","_law_e"] ["_law_thing"] (aZ Ar):=by ac_nf
theorem Ma(G:dq K d b a):cU (cr P w) P w K d b "_law_ask" 8 ["_law_thing"] (bM K (yn a)) :=
 dA (k:=7) (pin:=[]) G.yaC R9 rfl (λ_ _ _ _ _ _ j l=>Pu.Uw (λ_=>rfl) j l) (λf m A c s H E i=>by
  have g:=λh=>Room.hand (v:=aa (.ref h)) i;exact
  (bt (MY 1 R9.nd (Lu (z7 G) (i.mono (by decide)) (a9 (au 0) bL)) G.yak G.err_SlitError G.und (λh=>by exact(bt (rK (OM (Nk G) ((g h).mono (by decide)) (a9 (au 1) bL))))))))
theorem Kl:cb ["_law_script","_law_town","_law_some"] ["_law_script","_law_town"] (aZ B7):=by ac_nf
theorem Qc(G:dq K d b a):cU (cr P w) P w K d b "_law_odd" 5 ["_law_script","_law_town"] (bM K (yQ a)) :=
 dA (k:=4) (pin:=[1]) G.yaG Kl rfl (λ_ _ _ _ _ _ g i=>Pu.Ui (λ_ _=>rfl) g i) (λf j A c s H E h=>by exact
  (bq (gv 2 Kl.nd (nB (ay Ka (ay aO (ay (eZ [50,58,32,97,98]) (ay (nB (ay aO (ay (cX (ay (eZ [97]) aJ)) aJ))) (ay (cX (ay aO (ay (cX aJ) aJ))) (ay (cX (ay aO (ay (cX (ay (eZ [97]) aJ)) aJ))) (ay (cX (ay aO (ay (cX (ay (eZ []) aJ)) aJ))) (ay (cX (ay aO (ay (cX (ay (eZ [97,97,97,97,97]) aJ)) aJ))) (ay (cX (ay kT (ay (cX (ay (eZ [97]) aJ)) aJ))) aJ)))))))))))
  (bq (gv 2 Kl.nd (cH fQ fK (au 2) (nB (ay (cX (ay aO (ay (cX (ay (eZ [98]) (ay (eZ [97]) aJ))) aJ))) (ay (cX (ay aO (ay (cH Tp SW (cX (ay (eZ [97]) aJ)) aO) aJ))) (ay (cX (ay aO (ay (cX (ay (eZ [100]) aJ)) aJ))) (ay (cX (ay aO (ay (cX (ay (eZ [65]) aJ)) aJ))) (ay (cX (ay aO (ay (nB (ay (eZ [97]) aJ)) aJ))) (ay (cX (ay aO (ay (cX (ay aO aJ)) aJ))) aJ)))))))))
  (bq (gv 2 Kl.nd (cH fQ fK (au 2) (nB (ay (cX (ay aO aJ)) (ay (cX (ay aO (ay (cX (ay (eZ [97]) aJ)) (ay aO aJ)))) (ay (cX (ay (eZ [49]) (ay (cX (ay (eZ [97]) aJ)) aJ))) aJ))))))
  (bt (rK (bX (HU G) (h.mono (by decide)) cR (a9 (au 0) (iB 1 (a9 (au 2) bL))))))))))
def yaB(a:Ad):ak->R aP:=aS (eR 1 (dL fN (aC)))
 (aS (cu 2 (bA (bd (jX a) (gV (dV 0) (gO 1 (gV (dC (.int 3)) (bJ)))))))
 (aS (cu 3 (bA (bd (t9 a) (gV (dV 0) (gO 1 (gV (dV 2) (gV (dC (.int 7)) (bJ))))))))
 (aS (cu 4 (bA (bd (nD a) (gV (dV 3) (bJ)))))
 (aS (cS (i7 (dB (d2 (eqT ah) (dV 4) (dL bP (aq (d2 bG (dV 3) (dC (.int 0))) (aq (dL ma (aq (dF (dL lv (aq (dF (dX [] (bW (d2 bG (dV 3) (dC (.int 1)))) (fu) (nt (dV 0) (bx (d1 cG (dC (.int 1))))))) (aC)))) (aC))) (aC)))))) (dB (d2 (eqT ah) (bA (bd (nD a) (gV (dV 4) (bJ)))) (dV 3)))) (ce (dC (.bl aj))) (d8))
 (aS (cS (i7 (dB (d2 (eqT ah) (bA (bd (sK a) (gV (dV 4) (bJ)))) (dF (dL lv (aq (dF (dX [] (bW (bA (bd (sK a) (gV (dV 3) (bJ))))) (fu) (nt (dV 0) (bx (d1 cG (dC (.int 1))))))) (aC)))))) (dB (d2 (eqT ah) (bA (bd (uH a) (gV (dV 4) (bJ)))) (bA (bd (uH a) (gV (dV 3) (bJ))))))) (ce (dC (.bl aj))) (d8))
 (aS (cS (i7 (dB (d2 (eqT ah) (dL bw (aq (bA (bd (uX a) (gV (dV 4) (bJ)))) (aC))) (dL bw (aq (bA (bd (uX a) (gV (dV 3) (bJ)))) (aC))))) (dB (d2 (eqT ah) (bA (bd (ur a) (gV (dV 4) (bJ)))) (bA (bd (ur a) (gV (dV 3) (bJ))))))) (ce (dC (.bl aj))) (d8))
 (ce (d2 (eqT aj) (bA (bd (yn a) (gV (bA (bd (yQ a) (gV (dV 0) (gO 1 (bJ))))) (bJ)))) (dL bP (aq (dC (.str [114,101,102,117,115,101,100])) (aq (dC (.int 2)) (aC))))))))))))
def uj(a:Ad):ak->R Slot:=bp 1 [] (bu 4 (yaB a))
theorem OR:cb ["_law_script","_law_town","_law_spoil","_law_asked","_law_made"] ["_law_script"] (aZ rA):=by ac_nf
theorem Ox(G:dq K d b a){f:ag}{m:il}(p:pY K "law" "law" rA f m):lp P w K d b (cr P w) 16 f m ["_law_script"] (bM K (uj a)) :=
 Nq (k:=15) (pin:=[]) p OR rfl (λ_ _ _ _ _ _ n o=>Pu.Uw (λ_=>rfl) n o) (λf q A j s H E c=>by exact
  (bq (mh 1 OR.nd (uo aJ))
  (bq (gv 2 OR.nd ((bX (pK G) (c.mono (by decide)) cR (a9 (au 0) (iB 1 (a9 aO bL))))).de)
  (bq (gv 3 OR.nd ((bX (Q7 G) (c.mono (by decide)) cR (a9 (au 0) (iB 1 (a9 (au 2) (a9 aO bL)))))).de)
  (bq (gv 4 OR.nd ((bX (z7 G) (c.mono (by decide)) cR (a9 (au 3) bL))).de)
  (bq (iL ((pO (i9 (mY c.units) nv (au 4) (cX (ay (iA iP iQ (au 3) aO) (ay (yU yy yD G.ya9 sd (ay (uk rV sP G.ya6 oU (ay (oF (cap:=[]) (N':=["_law_window"]) (jx.of ["_law_script","_law_town","_law_spoil","_law_asked","_law_made"] (aZ rA) rfl rfl (by decide +kernel)) rfl (jW (iA iP iQ (au 3) aO)) (λC g h l i=>by exact rW) (λC g h l i=>by exact(zK (au 0) (fL (kl kg kr aO))))).de aJ)).de aJ)) aJ))) rfl) (pN (i9 (mY c.units) nv ((bX (z7 G) (c.mono (by decide)) cR (a9 (au 4) bL))).de (au 3) rfl)))).dt (bt (dE kT)) iC)
  (bq (iL ((pO (i9 (mY c.units) nv ((bX (zY G) (c.mono (by decide)) cR (a9 (au 4) bL))).de (uk rV sP G.ya6 oU (ay (oF (cap:=[]) (N':=["_law_text_here"]) (jx.of ["_law_script","_law_town","_law_spoil","_law_asked","_law_made"] (aZ rA) rfl rfl (by decide +kernel)) rfl (jW ((bX (zY G) (c.mono (by decide)) cR (a9 (au 3) bL))).de) (λC g h l i=>by exact rW) (λC g h l i=>by exact(zK (au 0) (fL (kl kg kr aO))))).de aJ)).de rfl) (pN (i9 (mY c.units) nv ((bX (EH G) (c.mono (by decide)) cR (a9 (au 4) bL))).de ((bX (EH G) (c.mono (by decide)) cR (a9 (au 3) bL))).de rfl)))).dt (bt (dE kT)) iC)
  (bq (iL ((pO (i9 (mY c.units) nv (cV g8 ig G.ya0 g6 (ay ((bX (Hw G) (c.mono (by decide)) cR (a9 (au 4) bL))).de aJ)) (cV g8 ig G.ya0 g6 (ay ((bX (Hw G) (c.mono (by decide)) cR (a9 (au 3) bL))).de aJ)) rfl) (pN (i9 (mY c.units) nv ((bX (Hc G) (c.mono (by decide)) cR (a9 (au 4) bL))).de ((bX (Hc G) (c.mono (by decide)) cR (a9 (au 3) bL))).de rfl)))).dt (bt (dE kT)) iC)
  (bt (dE (yG (vf c.units) uy ((bX (Ma G) (c.mono (by decide)) cR (a9 ((bX (Qc G) (c.mono (by decide)) cR (a9 (au 0) (iB 1 bL)))).de bL))).de (cX (ay (eZ [114,101,102,117,115,101,100]) (ay aO aJ))) rfl)))))))))))
end
end K35
namespace Mx
open L2 Pu
def bY:Tx:=[97,98,99]
def eQ:Nat->List Tx
 |0=>[[]]
 |k+1=>bY.flatMap λc=>(eQ k).map (c::·)
theorem qg:∀(k:Nat) (x:Tx),x∈eQ k↔x.length=k/\∀c∈x,c∈bY
 |0,x=>by
  simp only[eQ,fe];constructor
  .rintro rfl;simp
  .rintro⟨h,_⟩;exact oh.mp h
 |k+1,x=>by
  simp only[eQ,C5,cJ];constructor
  .rintro⟨c,i,y,g,rfl⟩;obtain⟨f,b⟩:=(qg k y).mp g;refine⟨by simp[f],λd a=>?_⟩;rcases bE.mp a with rfl|a
   .exact i
   .exact b d a
  .rintro⟨f,b⟩;cases x with
   |nil=>cases f
   |cons c y=>exact⟨c,b c (by simp),y,(qg k y).mpr ⟨CL f,λd a=>b d (by simp[a])⟩,rfl⟩
theorem Hy:∀k:Nat,(eQ k).length=3^k
 |0=>rfl
 |k+1=>by simp only[eQ,bY,vU,Ji,cL,cM,Hy k,j3,Nat.pow_succ];lia
theorem Ow(i j:Nat):eQ (i+j)=(eQ i).flatMap λh=>(eQ j).map (h++·):=by
 induction i with
 |zero=>simp[eQ]
 |succ i a=>rw[show i+1+j=(i+j)+1 by lia];simp only[eQ,a,List.flatMap_assoc,List.map_flatMap,List.flatMap_map,eJ,Function.comp_def,kF]
theorem BK:∀k:Nat,(eQ k).Pairwise (λa b=>a<b)
 |0=>by simp[eQ]
 |k+1=>by
  simp only[eQ];rw[List.pairwise_flatMap];refine⟨λc _=>?_,?_⟩
  .rw[List.pairwise_map];exact(BK k).imp λh=>List.cons_lt_cons_iff.mpr (.inr ⟨rfl,h⟩)
  .have:bY.Pairwise (λa b=>a<b):=by decide
   refine this.imp λh=>?_;intro x f y d;obtain⟨i,_,rfl⟩:=cJ.mp f;obtain⟨g,_,rfl⟩:=cJ.mp d;exact List.cons_lt_cons_iff.mpr (.inl h)
theorem JR{a b:Tx}(h:a<b):df a b=ah:=by simp only[df,decide_eq_true_eq];exact List.le_of_lt h
theorem DY(k:Nat):(eQ k).Pairwise (λa b=>df a b=ah):=(BK k).imp JR
theorem Ge(k:Nat):(eQ k).Nodup:=(BK k).imp λh z=>by subst z;exact zv _ h
def aV(z:Tx)(w:Nat):List Tx:=((cz z.length).filter λi=>decide (i+w<=z.length)).map λi=>(z.drop i).take w
theorem Gu(w L:Nat):∀m:Nat,(cz m).filter (λi=>decide (i+w<=L))=cz (min m (L+1-w))
 |0=>by simp
 |m+1=>by
  rw[tD,C4,Gu w L m];by_cases h:m+w<=L
  .rw[show min m (L+1-w)=m by lia,show min (m+1) (L+1-w)=m+1 by lia,tD];simp[h]
  .rw[show min (m+1) (L+1-w)=min m (L+1-w) by lia];simp[h]
theorem ko(z:Tx)(w:Nat)(a:1<=w):aV z w=(cz (z.length+1-w)).map λi=>(z.drop i).take w:=by unfold aV;rw[Gu,show min z.length (z.length+1-w)=z.length+1-w by lia]
def nw(w:Nat)(t:Tx):Tx->List Tx
 |[]=>[]
 |c::s=>(t.drop (t.length+1-w)++[c])::nw w (t++[c]) s
theorem Ho(w:Nat)(b:1<=w):∀(s t:Tx),w<=t.length+1->nw w t s=(cz s.length).map λi=>((t++s).drop (t.length+1-w+i)).take w
 |[],t,_=>by simp[nw]
 |c::s,t,h=>by
  rw[nw,Ho w b s (t++[c]) (by simp;lia),d_,vM,cn,eJ];congr 1
  .show _=((t++c::s).drop (t.length+1-w)).take w;rw[vL ∅,List.take_append];have a:(t.drop (t.length+1-w)).length=w-1:=by rw[k9];lia
   rw[a,ip (by rw[a];lia),show w-(w-1)=1 by lia];rfl
  .refine gC λi _=>?_;simp only[pr];rw[cL,pc,show t.length+1+1-w+i=t.length+1-w+Nat.succ i by lia];simp
theorem Ab{w:Nat}(a:1<=w){h s:Tx}(b:h.length=w-1):aV (h++s) w=nw w h s:=by rw[ko _ _ a,Ho w a s h ∅,cL,show h.length+s.length+1-w=s.length by lia];refine gC λi _=>?_;rw[show h.length+1-w+i=i by lia]
theorem Rj{w:Nat}(a:1<=w)(t:Tx)(c:Nat):aV (t++[c]) w=aV t w++(if w<=t.length+1 then [((t++[c]).drop (t.length+1-w)).take w] else []):=by
 rw[ko _ _ a,ko _ _ a,cL,pc];by_cases h:w<=t.length+1
 .rw[if_pos h,show t.length+1+1-w=(t.length+1-w)+1 by lia,tD,tE];congr 1;refine gC λi b=>?_;have b:i<t.length+1-w:=by simpa using b
  rw[vL ∅,vV (by rw[k9];lia)]
 .rw[if_neg h,show t.length+1+1-w=0 by lia,show t.length+1-w=0 by lia];simp
def iK(w:Nat):Nat->Tx->List Tx->List Tx
 |0,t,_=>[t]
 |r+1,t,q=>bY.flatMap λc=>if t.drop (t.length+1-w)++[c]∈q then iK w r (t++[c]) (q.erase (t.drop (t.length+1-w)++[c]))else []
theorem DL(w:Nat):∀(r:Nat) (t:Tx) (q:List Tx),q.length=r->iK w r t q=((eQ r).filter λs=>(nw w t s).isPerm q).map (t++·)
 |0,t,q,hq=>by have:q=[]:=oh.mp hq;subst this;simp[iK,eQ,nw,List.isPerm]
 |r+1,t,q,hq=>by
  simp only[iK,eQ,List.filter_flatMap,List.map_flatMap];congr 1;funext c;rw[C6,eJ];by_cases h:t.drop (t.length+1-w)++[c]∈q
  .rw[if_pos h,DL w r (t++[c]) _ (by rw[pt h,hq];rfl)];have e:((λs=>(nw w t s).isPerm q) ∘ λx=>c::x)=λs=>(nw w (t++[c]) s).isPerm (q.erase (t.drop (t.length+1-w)++[c])):=by funext s;show(q.contains (t.drop (t.length+1-w)++[c])&&(nw w (t++[c]) s).isPerm (q.erase (t.drop (t.length+1-w)++[c])))=_;rw[List.contains_iff_mem.mpr h,Bool.true_and]
   rw[e];refine gC λs _=>?_;simp
  .rw[if_neg h];have e:((λs=>(nw w t s).isPerm q) ∘ λx=>c::x)=λ_=>aj:=by
    funext s;show(q.contains (t.drop (t.length+1-w)++[c])&&(nw w (t++[c]) s).isPerm (q.erase (t.drop (t.length+1-w)++[c])))=_;have:q.contains (t.drop (t.length+1-w)++[c])=aj:=by rw[IW];intro z;exact h (List.contains_iff_mem.mp z)
    rw[this,Bool.false_and]
   rw[e];simp
def eD(w:Nat)(ls:List Tx):List Tx:=(aR (b0 (ls.map pA))).flatMap λh=>iK w ls.length h ls
theorem OT{a b:Type}{l:List a}{f:a->List b}(p:a->Bool)(h:∀x∈l,p x=aj->f x=[]):l.flatMap f=(l.filter p).flatMap f:=by
 induction l with
 |nil=>rfl
 |cons x l c=>
  rw[vU,c λy d=>h y (by simp[d]),Jj];cases e:p x with
  |true=>simp
  |false=>rw[h x (by simp) e];simp
theorem u6{w:Nat}{a:List Tx}(g:1<=w)(C:1<=a.length)(j:∀x∈a,x.length=w/\∀c∈x,c∈bY):eD w a=(eQ (w-1+a.length)).filter λz=>(aV z w).isPerm a:=by
 rw[Ow,List.filter_flatMap];have A:(λh=>((eQ a.length).map (h++·)).filter λz=>(aV z w).isPerm a)=λh=>((eQ a.length).filter λs=>(aV (h++s) w).isPerm a).map (h++·):=by funext h;rw[C6];rfl
 rw[A,OT (λh=>decide (h∈a.map pA))]
 .have v:(eQ (w-1)).filter (λh=>decide (h∈a.map pA))=aR (b0 (a.map pA)):=by
   refine u5 ?_ ((DY (w-1)).filter _);refine(List.perm_ext_iff_of_nodup ((Ge (w-1)).filter _) (SV _)).mpr λx=>?_;rw[kZ,decide_eq_true_eq,l9,qg];refine⟨λh=>h.2,λh=>⟨?_,h⟩⟩;obtain⟨y,d,rfl⟩:=cJ.mp h;obtain⟨t,r⟩:=j y d;exact⟨by rw[CN,t],λc q=>r c ((List.dropLast_sublist _).mem q)⟩
  rw[v];unfold eD;have:∀l:List Tx,(∀h∈l,h.length=w-1)->l.flatMap (λh=>iK w a.length h a)=l.flatMap λh=>((eQ a.length).filter λs=>(aV (h++s) w).isPerm a).map (h++·):=by
   intro l
   induction l with
   |nil=>intro _;rfl
   |cons h l n=>
    intro b;rw[vU,vU,n λy d=>b y (by simp[d]),DL w _ h a rfl];have u:(λs=>(nw w h s).isPerm a)=λs=>(aV (h++s) w).isPerm a:=by funext s;rw[Ab g (b h (by simp))]
    rw[u]
  refine this _ λh b=>?_;have p:=(l9 _ _).mp ((eY _).mem_iff.mp b);obtain⟨y,d,rfl⟩:=cJ.mp p;rw[CN,(j y d).1]
 .intro h b i;have B:=((qg _ h).mp b).1;rw[Jg,List.filter_eq_nil_iff];intro s o f;have m:=((qg _ s).mp o).1;rw[Ab g B,List.isPerm_iff]at f;cases s with
  |nil=>rw[j3]at m;lia
  |cons c s=>rw[nw,show h.length+1-w=0 by lia,pe]at f;have:h++[c]∈a:=f.mem_iff.mp (by simp);rw[decide_eq_false_iff_not]at i;exact i (cJ.mpr ⟨_,this,by simp⟩)
end Mx
namespace Sh
open L2 Pu Mx
theorem xU{f:PV->PV->Option PV}{d b:ak->R PV}{c ε1 a:ak}{x y z:PV}(h:d c=.ok x ε1)(i:b ε1=.ok y a)(g:f x y=aa z):d2 f d b c=.ok z a:=by unfold d2;rw[h];show(b ε1).bind _=_;rw[i];show aF (f x y) a=_;rw[g];rfl
section
theorem uE{ls:List Tx}(h:ls.length<=1000000):lv [.lst (ao ls)]=aa (.lst (ao (aR ls))):=by show(gA (ao ls)).bind _=_;rw[rQ,gT,if_pos h]
end
section
variable{a:Ad}
abbrev cF(b:List Int):Slot:=.val (.lst (b.map .int))
theorem HF(b:List Int)(k:Int)(d:0<=k)(h:k<b.length):∃v,gw (b.map PV.int) k=aa (.int v):=by
 have c:k.toNat<b.length:=∅
 refine⟨b[k.toNat],?_⟩;rw[yg d (by rw[cM];exact c)];simp
theorem ML(b:List Int):Pu.eqT aj (.lst (b.map .int)) (.lst [])=aa (.bl b.isEmpty):=by
 cases b with
 |nil=>rfl
 |cons x xs=>
  have d:∀l:List Int,jl (l.map .int)=0:=λl=>by induction l with|nil=>rfl|cons y l c=>simp[jl,jh,c]
  have:jl ((x::xs).map .int)=0:=d _;simp only[cn]at this;simp[Pu.eqT,dU,cO,g7,jh,this]
theorem lz(b:Bool)(i j:Int):Pu.eqT b (.int i) (.int j)=aa (.bl (b^^decide (i=j))):=by show(if uW (V.int i) (V.int j)then aa (PV.bl (b^^decide (V.int i=V.int j)))else ae)=_;have:uW (V.int i) (V.int j)=ah:=rfl;rw[if_pos this];simp
theorem KB(b:List Int)(k:Int)(i:0<=k):∃v,sk a [cF b,⇑k]=.ok (⇑v) [cF b,⇑k]:=by
 by_cases h:k<b.length
 .obtain⟨v,c⟩:=HF b k i h;refine⟨v,?_⟩;simp![sk,yaD,bw,bG,c,h]
 .have e:=ML b;by_cases d:b=[]
  .subst d;refine⟨0,?_⟩;simp only[vH,Jk]at e;have j:¬k<0:=∅
   simp![sk,yaD,bw,bG,e,j]
  .have m:0<b.length:=by cases b with|nil=>exact absurd rfl d|cons=>simp
   obtain⟨v,c⟩:=HF b (k % b.length) (Int.emod_nonneg _ ∅) (Jl _ ∅);refine⟨v*31+k,?_⟩;have l:b.isEmpty=aj:=by cases b with|nil=>exact absurd rfl d|cons=>rfl
   rw[l]at e;have g:gG (.int k) (.int (b.length:Int))=aa (.int (k % b.length)):=by simp[gG];lia
   have f:lC (.int v) (.int 31)=aa (.int (v*31)):=by simp[lC,vh]
   simp![sk,yaD,bw,bG,h,e,g,c,f,bB]
theorem Oz(b:List Int)(k m:Int)(q:0<=k)(i:0<m):∃v,0<=v/\v<m/\yK a [cF b,⇑k,⇑m]=.ok (⇑v) [cF b,⇑k,⇑m]:=by
 obtain⟨c,p⟩:=KB (a:=a) b k q;have r:0<=(c*1103515245+7919*k+12345) % 2147483647:=Int.emod_nonneg _ (by decide);have d1:(c*1103515245+7919*k+12345) % 2147483647<2147483647:=Jl _ (by decide);have o:lC (.int c) (.int 1103515245)=aa (.int (c*1103515245)):=by simp[lC,vh]
 have n:lC (.int 7919) (.int k)=aa (.int (7919*k)):=by simp[lC,vh]
 have h:gG (.int (c*1103515245+7919*k+12345)) (.int 2147483647)=aa (.int ((c*1103515245+7919*k+12345) % 2147483647)):=by simp[gG]
 generalize (c*1103515245+7919*k+12345) % 2147483647=d at r d1 h;have l:uC (.int d) (.int 5)=aa (.int (d^5)):=by
  have:d.natAbs<2^64:=∅
  simp[uC,this]
 have g:gG (.int (d^5)) (.int 2147483647)=aa (.int (d^5 % 2147483647)):=by simp[gG]
 generalize d^5 % 2147483647=d5 at g;have f:gG (.int d5) (.int 999983)=aa (.int (d5 % 999983)):=by simp[gG]
 generalize d5 % 999983=d6 at f;have j:gG (.int d6) (.int m)=aa (.int (d6 % m)):=by simp[gG,i]
 refine⟨d6 % m,Int.emod_nonneg _ ∅,Jl _ i,?_⟩;simp![yK,yaF,p,o,n,h,l,g,f,j,bB]
theorem qu(b:List Int)(xs:List PV)(m:Int)(h:0<m)(i:xs.length<=1000):∃v,0<=v/\v<m/\jX a [cF b,.own (.lst xs),⇑m]=.ok (⇑v) [cF b,.own (.lst (xs++[.int 0])),⇑m]:=by
 obtain⟨v,f,d,g⟩:=Oz (a:=a) b ((xs.length:Int)+1) m ∅ h;refine⟨v,f,d,?_⟩;have c:xs.length<b8:=by unfold b8;lia
 simp![jX,yaE,bw,c,g]
theorem Fl{c:Type}(b:List c)(v:Int)(f:0<=v)(g:v<b.length):∃x∈b,gw b v=aa x:=by
 have d:v.toNat<b.length:=∅
 exact⟨b[v.toNat],Cz _,yg f d⟩
theorem G_(c:List Int)(xs b:List PV)(h:xs.length<=1000)(l:0<b.length):∃x∈b,uI a [cF c,.own (.lst xs),.val (.lst b)]=.ok (.val x) [cF c,.own (.lst (xs++[.int 0])),.val (.lst b)]:=by obtain⟨v,f,d,i⟩:=qu (a:=a) c xs (b.length:Nat) ∅ h;obtain⟨x,j,g⟩:=Fl b v f d;refine⟨x,j,?_⟩;simp![uI,yaH,bw,bG,i,g]
theorem Bz{n:Nat}(h:n<=1000000):nr [.int n]=aa (gY 0 n):=by show(if(n:Int)<=1000000/\-1000000<=(n:Int)then aa (gY 0 (n:Int).toNat)else ae)=_;rw[if_pos ⟨∅,∅⟩];simp
theorem xH{x y:Tx}(h:x.length+y.length<=b8):bB (.str x) (.str y)=aa (.str (x++y)):=by show(if(x++y).length<=b8 then aa (PV.str (x++y))else ae)=_;rw[if_pos (by rw[cL];exact h)]
theorem dZ{d1 d2:ak->R aP}{ε ε1:ak}(h:d1 ε=.ok .next ε1):aS d1 d2 ε=d2 ε1:=by unfold aS;rw[h]
theorem yx{i:Nat}{d:ak->R PV}{b ε1:ak}{x:PV}(h:d b=.ok x ε1):cu i d b=.ok .next (ε1.set i (.val x)):=by unfold cu;rw[h];rfl
theorem An{i:Nat}{db:ak->R aP}{I:Nat->ak->Prop}{N:Nat}(step:∀k c x,k<N->I k c->∃b,db (c.set i (.val x))=.ok .next b/\I (k+1) b):∀(xs:List PV) (k:Nat) (c:ak),k+xs.length<=N->I k c->∃b,ii i db xs c=.ok .next b/\I (k+xs.length) b
 |[],k,c,_,h=>⟨c,rfl,h⟩
 |x::xs,k,c,g,h=>by simp only[d_]at g;obtain⟨f,n,l⟩:=step k c x ∅ h;obtain⟨d,m,j⟩:=An step xs (k+1) f ∅ l;refine⟨d,by unfold ii;rw[n];exact m,?_⟩;rw[d_,show k+(xs.length+1)=k+1+xs.length by lia];exact j
theorem yP{i:Nat}{db:ak->R aP}{I:List PV->ak->Prop}(step:∀(x:PV) (r:List PV) c,I (x::r) c->∃b,db (c.set i (.val x))=.ok .next b/\I r b):∀(xs:List PV) (c:ak),I xs c->∃b,ii i db xs c=.ok .next b/\I [] b
 |[],c,h=>⟨c,rfl,h⟩
 |x::xs,c,h=>by obtain⟨f,m,j⟩:=step x xs c h;obtain⟨d,l,g⟩:=yP step xs f j;exact⟨d,by unfold ii;rw[m];exact l,g⟩
theorem GK(j:List Int)(xs:List PV)(g b:Nat)(K:g<=b)(W:b<=100)(T:xs.length<=500):∃(z:Tx) (h:List PV),g<=z.length/\z.length<=b/\(∀c∈z,c∈bY)/\h.length<=xs.length+2+b /\ rX a [cF j,.own (.lst xs),⇑g,⇑b]=.ok (↥z) [cF j,.own (.lst h),⇑g,⇑b]:=by
 obtain⟨f,w,H⟩:=G_ (a:=a) j xs [.int 1,.int 2,.int 2,.int 3,.int 3,.int 3] ∅ (by decide);obtain⟨few,rfl,O,Y⟩:∃few:Int,f=.int few/\0<few/\few<=3:=by simp only[bE,jF,or_false]at w;rcases w with rfl|rfl|rfl|rfl|rfl|rfl <;> exact⟨_,rfl,by decide,by decide⟩
 obtain⟨m,S,Q,l⟩:=qu (a:=a) j (xs++[.int 0]) ((b:Int)-g+1) ∅ (by simp;lia);obtain⟨n,J⟩:∃n:Nat,(g:Int)+m=n:=⟨(g+m).toNat,∅⟩
 have G:nr [.int ((g:Int)+m)]=aa (gY 0 n):=by rw[J];exact Bz ∅
 have Z:(gY 0 n).length=n:=by simp[gY]
 obtain⟨A,y,h,z,o,rfl,u,E,s⟩:=An (i:=6) (db:=cu 5 (d2 bB (dV 5) (d2 bG (dC (.str [97,98,99])) (bA (bd (jX a) (gV (dV 0) (gO 1 (gV (dV 4) (Pu.bJ)))))))))
  (I:=λk t=>∃h z o,t=[cF j,.own (.lst h),⇑g,⇑b,⇑few,↥z,o]/\z.length=k/\h.length<=xs.length+2+k/\∀c∈z,c∈bY) (N:=n)
  (by
   rintro k t x X ⟨h,z,o,rfl,u,E,s⟩;obtain⟨v,B,P,F⟩:=qu (a:=a) j h few O ∅;obtain⟨c,L,D⟩:=Fl bY v B (by simp[bY];lia);refine⟨[cF j,.own (.lst (h++[.int 0])),⇑g,⇑b,⇑few,↥(z++[c]),.val x],?_,h++[.int 0],z++[c],.val x,rfl,by simp[u],by simp;lia,λd l=>?_⟩
   .have p:bG (.str [97,98,99]) (.int v)=aa (.str [c]):=by
     show(gw bY v).map _=_;rw[D];rfl
    have M:bB (.str z) (.str [c])=aa (.str (z++[c])):=xH (by simp[b8];lia);simp![F,p,M]
   .simp only[jm,fe]at l;rcases l with l|rfl
    .exact s d l
    .exact L)
  (gY 0 n) 0 [cF j,.own (.lst (xs++[.int 0]++[.int 0])),⇑g,⇑b,⇑few,.val (.str []),.none] ∅ ⟨xs++[.int 0]++[.int 0],[],.none,rfl,rfl,by simp,by simp⟩
 refine⟨z,h,∅,∅,s,∅,?_⟩;have C:iO (.int b) (.int g)=aa (.int ((b:Int)-g)):=rfl;have r:bB (.int ((b:Int)-g)) (.int 1)=aa (.int ((b:Int)-g+1)):=rfl;have q:bB (.int g) (.int m)=aa (.int ((g:Int)+m)):=rfl;simp only[eG,kF,iq]at y;simp![rX,yaJ,H,C,r,q,l,d7,G,dD,y]
theorem pQ{cap:List Nat}{dt:ak->R Bool}{de:ak->R PV}{ε:ak}(p:PV->Bool)(f:PV->PV):∀(xs:List PV),(∀x∈xs,dW (gz cap dt x ε)=.ok (p x) ε/\(p x=ah->dW (gz cap de x ε)=.ok (f x) ε))->∀b,jV cap dt de xs b ε=.ok (b++(xs.filter p).map f) ε
 |[],_,b=>by simp[jV]
 |x::xs,h,b=>by
  have g:=h x (by simp);have d:=pQ p f xs (λy i=>h y (by simp[i]));unfold jV;rw[g.1];simp only[R.bind_ok];cases c:p x with
  |false=>simp only[d b,Jj,c];simp
  |true=>simp only[g.2 c,R.bind_ok,d (b++[f x]),Jj,c];simp
theorem Oc{z:Tx}{i w:Nat}(h:i+w<=z.length):eN z (aa (i:Int)) (aa ((i:Int)+w))=(z.drop i).take w:=by
 unfold eN;have c:HT.sIx z.length 0 (aa (i:Int))=i:=by rw[HT.sIx_nat];lia
 have b:HT.sIx z.length z.length (aa ((i:Int)+w))=i+w:=by rw[show(i:Int)+w=((i+w:Nat):Int) by lia,HT.sIx_nat];lia
 rw[c,b,Nat.add_sub_cancel_left]
theorem QT(z:Tx)(w:Nat)(o:z.length<=60):xE a [↥z,⇑w]=.ok (.val (.tup (ao (aR (aV z w))))) [↥z,⇑w]:=by
 have g:nr [.int (z.length:Nat)]=aa (gY 0 z.length):=Bz ∅;have b:=pQ (cap:=[0,1]) (dt:=(dB (d2 (fh λi j=>decide (i<=j)) (d2 bB (dV 0) (dV 2)) (dL bw (aq (dV 1) (aC)))))) (de:=(bR bV (dV 1) (bx (dV 0)) (bx (d2 bB (dV 0) (dV 2)))))
  (ε:=[↥z,⇑w]) (λx=>match x with|.int i=>decide (i+w<=z.length)|_=>aj) (λx=>match x with|.int i=>.str (eN z (aa i) (aa (i+w)))|_=>.non) (gY 0 z.length)
  (by
   intro x d;simp only[gY,cJ]at d;obtain⟨i,f,rfl⟩:=d;refine⟨?_,λh=>?_⟩
   .simp![gz,gF,dW,bw,bB]
   .simp![gz,gF,dW,bw,bB,bR,bx,bV]) []
 have l:(aV z w).length<=1000000:=by unfold aV;rw[cM];have:=Jh (λi=>decide (i+w<=z.length)) (cz z.length);rw[zd]at this;lia
 have m:(((gY 0 z.length).filter (λx=>match x with|.int i=>decide (i+w<=z.length)|_=>aj)).map (λx=>match x with|.int i=>PV.str (eN z (aa i) (aa (i+w)))|_=>.non))=ao (aV z w):=by
  unfold gY aV ao;rw[C6,eJ,eJ];have n:((λx=>match x with|PV.int i=>decide (i+(w:Int)<=(z.length:Nat))|_=>aj) ∘ λ(i:Nat)=>PV.int (0+(i:Nat)))=λi=>decide (i+w<=z.length):=by funext i;simp only[pr];congr 1;simp;lia
  rw[n];refine gC λi f=>?_;have:=(kZ.mp f).2;simp only[decide_eq_true_eq]at this;simp only[pr,Int.zero_add];rw[Oc this]
 simp only[iq]at b;rw[m]at b;have c:=uE l;generalize ao (aR (aV z w))=T at c;generalize ao (aV z w)=B at b c;simp![xE,yaI,bw,g,dX,b,c,ma]
theorem Dq{z:Tx}{w:Nat}:∀x∈aV z w,x.length=w/\∀c∈x,c∈z:=by intro x b;simp only[aV,cJ,kZ,vy,decide_eq_true_eq]at b;obtain⟨i,⟨_,h⟩,rfl⟩:=b;exact⟨by rw[jZ,k9];lia,λc d=>List.mem_of_mem_drop (List.mem_of_mem_take d)⟩
theorem Rm{z:Tx}{w m:Nat}(c:1<=w)(f:w<=z.length)(d:z.length<=w+m):1<=(aV z w).length/\(aV z w).length<=m+1:=by
 unfold aV;rw[cM];have:∀n,((cz n).filter λi=>decide (i+w<=z.length)).length=min n (z.length+1-w):=by
  intro n
  induction n with
  |zero=>simp
  |succ n b=>
   rw[tD,C4,cL,b];by_cases h:n+w<=z.length
   .simp[List.filter,h];lia
   .simp[List.filter,h];lia
 rw[this];lia
structure Good(l:Tx)(w:Nat)(ls:List Tx):Prop where
 len:∀x∈ls,x.length=w
 abc:∀x∈ls,∀c∈x,c∈l
 some:1<=ls.length
 few:ls.length<=9
theorem Good.perm{l:Tx}{w:Nat}{ls b:List Tx}(g:Good l w ls)(p:b.Perm ls):Good l w b:=⟨λx h=>g.len x (p.mem_iff.mp h),λx h=>g.abc x (p.mem_iff.mp h),by rw[p.length_eq];exact g.some,by rw[p.length_eq];exact g.few⟩
theorem Good.put{l:Tx}{w:Nat}{ls:List Tx}{z:Tx}{j:Nat}(g:Good l w ls)(b:z.length=w)(d:∀c∈z,c∈l):Good l w (ls.set j z):=by
 refine⟨λx h=>?_,λx h=>?_,by rw[gR];exact g.some,by rw[gR];exact g.few⟩
 .rcases List.mem_or_eq_of_mem_set h with h|rfl
  .exact g.len x h
  .exact b
 .rcases List.mem_or_eq_of_mem_set h with h|rfl
  .exact g.abc x h
  .exact d
theorem MJ(ls:List Tx)(j:Nat)(z:Tx):(ao ls).set j (.str z)=ao (ls.set j z):=by simp[ao,List.map_set]
theorem jc(ls:List Tx):(ao ls).length=ls.length:=by simp[ao]
theorem R_{n:Nat}{v:Int}(c:0<=v)(b:v<n):kM n v=aa v.toNat:=by unfold kM;rw[if_pos c,if_pos b]
theorem Nu(ls:List Tx):m8 (ao ls)=ah:=by
 induction ls with
 |nil=>rfl
 |cons x ls b=>show(imm (.str x)&&m8 (ao ls))=ah;rw[b];rfl
theorem OW(j:List Int)(xs:List PV)(d f:Nat)(hs:d<3)(m1:1<=f)(m9:f<=9)(hx:xs.length<=300):∃(w:Nat) (ls:List Tx) (l:List PV),1<=w/\w<=4/\(d≠2->2<=w)/\Good bY w ls/\ls.Pairwise (λa b=>df a b=ah)/\ls.length<=f/\(d=0->∃z:Tx,ls=aR (aV z w)/\w<=z.length/\z.length+1<=w+f/\∀c∈z,c∈bY)/\l.length<=xs.length+60 /\ t9 a [cF j,.own (.lst xs),⇑d,⇑f]=.ok (.val (.tup [.int w,.tup (ao ls)])) [cF j,.own (.lst l),⇑d,⇑f]:=by
 obtain⟨w,L,Q,S,X⟩:∃w:Nat,1<=w/\w<=4/\(d≠2->2<=w)/\(cS (dB (d2 (Pu.eqT ah) (dV 2) (dC (.int 2)))) (d2 bB (dC (.int 2)) (bA (bd (jX a) (gV (dV 0) (gO 1 (gV (dC (.int 3)) (Pu.bJ))))))) (d2 bB (dC (.int 1)) (bA (bd (jX a) (gV (dV 0) (gO 1 (gV (dC (.int 4)) (Pu.bJ)))))))) [cF j,.own (.lst xs),⇑d,⇑f,.none,.none,.none] =
   .ok (.int w) [cF j,.own (.lst (xs++[.int 0])),⇑d,⇑f,.none,.none,.none]:=by
  by_cases h2:d=2
  .subst h2;obtain⟨v,D,C,o⟩:=qu (a:=a) j xs 4 (by decide) ∅;refine⟨(1+v).toNat,∅,∅,λz=>absurd rfl z,?_⟩;have e:Pu.eqT ah (.int 2) (.int 2)=aa (.bl aj):=by rw[lz];rfl
   have:((1+v).toNat:Int)=1+v:=∅
   simp![e,o,bB,this]
  .obtain⟨v,D,C,o⟩:=qu (a:=a) j xs 3 (by decide) ∅;refine⟨(2+v).toNat,∅,∅,λ_=>∅,?_⟩;have e:Pu.eqT ah (.int ((d:Nat):Int)) (.int 2)=aa (.bl ah):=by
    have:d=0\/d=1:=∅
    rcases this with rfl|rfl <;> (rw[lz];rfl)
   have:((2+v).toNat:Int)=2+v:=∅
   simp![e,o,bB,this]
 obtain⟨z,B,A,J,g,E,y⟩:=GK (a:=a) j (xs++[.int 0]) w (w+(f-1)) ∅ ∅ (by simp;lia);simp only[cL,pc]at E;have Ud:=QT (a:=a) z w ∅;have Ue:=Rm (z:=z) (w:=w) (m:=f-1) L A J;have g0:Good bY w (aR (aV z w)):=by exact Good.perm ⟨λx h=>(Dq x h).1,λx h c hc=>g c ((Dq x h).2 c hc),Ue.1,∅⟩ (eY _)
 have p:gG (.int d) (.int 3)=aa (.int d):=by
  have:d=0\/d=1\/d=2:=∅
  rcases this with rfl|rfl|rfl <;> rfl
 have Y:nr [.int d]=aa (gY 0 d):=Bz ∅;have bi:(gY 0 d).length=d:=by simp[gY]
 obtain⟨P,e1,l,ls,u,rfl,s,n,h0,W⟩:=An (i:=6) (db:=(yN 5 (bA (bd (jX a) (gV (dV 0) (gO 1 (gV (kn (λxs=>pW (bw xs)) 5) (Pu.bJ)))))) (bA (bd (rX a) (gV (dV 0) (gO 1 (gV (dV 4) (gV (dV 4) (Pu.bJ)))))))))
  (I:=λk H=>∃l ls u,H=[cF j,.own (.lst l),⇑d,⇑f,⇑w,.own (.lst (ao ls)),u]/\Good bY w ls/\ls.length<=f/\(k=0->ls=aR (aV z w))/\l.length<=B.length+10*k) (N:=d)
  (by
   rintro k H x hk ⟨l,ls,u,rfl,s,n,_,W⟩;obtain⟨z,K,A,J,g,wN,y⟩:=GK (a:=a) j l w w ∅ ∅ ∅;obtain⟨v,D,C,o⟩:=qu (a:=a) j K (ls.length:Nat) (by have:=s.some;lia) ∅;refine⟨[cF j,.own (.lst (K++[.int 0])),⇑d,⇑f,⇑w,.own (.lst (ao (ls.set v.toNat z))),.val x],?_,_,_,_,rfl,s.put ∅ g,by rw[gR];exact n,λz=>∅,by simp;lia⟩;have F:kM (ao ls).length v=aa v.toNat:=R_ D (by rw[jc];exact C);have Z:bw [.lst (ao ls)]=aa (.int (ls.length:Nat)):=by simp[bw,jc]
   simp![yN,y,Z,o,F,MJ])
  (gY 0 d) 0 [cF j,.own (.lst B),⇑d,⇑f,⇑w,.own (.lst (ao (aR (aV z w)))),.none] ∅ ⟨B,_,.none,rfl,g0,by rw[Bw];lia,λ_=>rfl,∅⟩
 refine⟨w,aR ls,l,L,Q,S,s.perm (eY _),oZ _,by rw[Bw];exact n,λz0=>⟨z,by rw[h0 ∅,yu (oZ _)],A,∅,g⟩,∅,?_⟩;have M:bB (.int w) (.int f)=aa (.int ((w:Int)+f)):=rfl;have G:iO (.int ((w:Int)+f)) (.int 1)=aa (.int (((w+(f-1):Nat)):Int)):=by show aa (PV.int ((w:Int)+f-1))=_;congr 2;lia
 have O:=uE (ls:=ls) (by have:=s.few;lia);have t:yaK a [cF j,.own (.lst xs),⇑d,⇑f,.none,.none,.none]=.ok (.ret (.val (.tup [.int w,.tup (ao (aR ls))]))) [cF j,.own (.lst l),⇑d,⇑f,⇑w,.own (.lst (ao ls)),u]:=by unfold yaK;refine(dZ (yx X)).trans ?_;have r:=Nu (aR ls);generalize ao (aR ls)=T at O r;generalize ((w+(f-1):Nat):Int)=q at G y;generalize (w:Int)+f=q2 at M G;simp[aS,cS,dB,d2,d1,dV,dC,dL,dF,aq,aC,ce,kc,cu,eR,bd,gV,gO,Pu.bJ,fg,fz,cI,eu,fJ,R.bind,aF,bp,et,bu,back,fk,li,nG,oP,qr,uY,bA,ki,fN,bP,d8,vp,kt,BR,kL,ve,xj,i7,mX,Ba,nh,fh,eh,nq,kn,sH,bO,kC,M,G,y,Ud,sw,p,d7,Y,dD,e1,O,G8,r,ma]
 simp[t9,bp,et,bu,t,back,fk]
theorem map_set{b c:Type}(f:b->c)(l:List b)(j:Nat)(x:b):(l.map f).set j (f x)=(l.set j x).map f:=by simp[List.map_set]
theorem SM(c b:List Tx):ao c++ao b=ao (c++b):=by simp[ao]
theorem Fv{b:Type}(xs:List b)(n:Nat):eN xs ae (aa (n:Int))=xs.take n:=by
 unfold eN;have c:HT.sIx xs.length 0 ae=0:=rfl;rw[c,HT.sIx_nat,pe,Nat.sub_zero];by_cases h:n<=xs.length
 .rw[C7 h]
 .rw[Nat.min_eq_right ∅,ip (aY _),ip ∅]
theorem xO{b:Type}(xs:List b)(n:Nat):eN xs (aa (n:Int)) ae=xs.drop n:=by
 unfold eN;have c:HT.sIx xs.length xs.length ae=xs.length:=rfl;rw[c,HT.sIx_nat];by_cases h:n<=xs.length
 .rw[C7 h,ip (by rw[k9];lia)]
 .rw[Nat.min_eq_right ∅,zx ∅,zx ∅];simp
theorem jd{t T:String}{b:Bool}{x:PV}(h:sQ x=aa t)(e:eO [] (.type t) (.type T)=aa b):e_ [x,.raw (.ty T)]=aa (.bl b):=by show((sQ x).bind λt=>(eO [] (.type t) (.type T)).map λb=>PV.bl b)=_;rw[h,gT,e];rfl
theorem Po:eO [] (.type "int") (.type "int")=aa ah:=by decide +kernel
theorem Rz:eO [] (.type "int") (.type "bool")=aa aj:=by decide +kernel
theorem Mv:eO [] (.type "bool") (.type "int")=aa ah:=by decide +kernel
theorem Tj:eO [] (.type "bool") (.type "bool")=aa ah:=by decide +kernel
theorem Qj:eO [] (.type "str") (.type "int")=aa aj:=by decide +kernel
theorem Oy:eO [] (.type "str") (.type "str")=aa ah:=by decide +kernel
theorem Kj:eO [] (.type "int") (.type "str")=aa aj:=by decide +kernel
theorem pP:eO [] (.type "tuple") (.type "tuple")=aa ah:=by decide +kernel
theorem PQ:eO [] (.type "int") (.type "tuple")=aa aj:=by decide +kernel
theorem Nd:eO [] (.type "NoneType") (.type "tuple")=aa aj:=by decide +kernel
theorem Qa:eO [] (.type "str") (.type "tuple")=aa aj:=by decide +kernel
theorem F_:eO [] (.type "list") (.type "tuple")=aa aj:=by decide +kernel
theorem Ld(bs:List Bool):mT (bs.map .bl)=aa bs:=by
 induction bs with
 |nil=>rfl
 |cons b bs c=>show(mT (bs.map .bl)).map (b::·)=_;rw[c];rfl
theorem Fu(bs:List Bool):sC [.lst (bs.map .bl)]=aa (.bl (bs.all id)):=by show(mT (bs.map .bl)).map _=_;rw[Ld];rfl
theorem N0(z s:Tx):yM a [↥z,↥s]=.ok (.val (.bl (z.all s.contains))) [↥z,↥s]:=by
 have b:=pQ (cap:=[1]) (dt:=fu) (de:=(d2 (rR aj) (dV 0) (dV 1))) (ε:=[↥z,↥s]) (λ_=>ah) (λx=>match x with|.str [c]=>.bl (s.contains c)|_=>.non) (z.map λc=>.str [c])
  (by
   intro x h;obtain⟨c,_,rfl⟩:=cJ.mp h;refine⟨by simp![gz,gF,dW,fu],λ_=>?_⟩;have g:rR aj (.str [c]) (.str s)=aa (.bl (s.contains c)):=by rw[<-KY];simp[rR]
   simp![gz,gF,dW,g]) []
 have i:((z.map λc=>PV.str [c]).filter (λ_=>ah)).map (λx=>match x with|.str [c]=>PV.bl (s.contains c)|_=>.non)=(z.map s.contains).map .bl:=by rw[zy.mpr (by simp),eJ,eJ];rfl
 rw[iq,i]at b;have d:(z.map s.contains).all id=z.all s.contains:=by rw[Cw];rfl
 generalize z.map s.contains=bs at b d;have f:=Fu bs;rw[d]at f;simp![yM,yau,dX,bW,g9,b,f]
def i8(w:Int)(s z:Tx):Bool:=decide ((z.length:Int)=w)&&z.all s.contains
theorem Lr(z s:Tx)(w:Int):oY a [↥z,⇑w,↥s]=.ok (.val (.bl (i8 w s z))) [↥z,⇑w,↥s]:=by
 have d:e_ [.str z,.raw (.ty "str")]=aa (.bl ah):=jd rfl Oy;have f:=N0 (a:=a) z s;have c:bw [.str z]=aa (.int (z.length:Nat)):=rfl;have b:=lz aj (z.length:Nat) w;unfold i8;by_cases h:((z.length:Nat):Int)=w
 .simp only[h,decide_true,Bool.xor_true,C8]at b;simp![oY,yaA,d,c,b,f,h]
 .simp only[h,decide_false,Bool.xor_false]at b;simp![oY,yaA,d,c,b,h]
theorem MT(i w:Int)(s:Tx):oY a [⇑i,⇑w,↥s]=.ok (.val (.bl aj)) [⇑i,⇑w,↥s]:=by have b:e_ [.int i,.raw (.ty "str")]=aa (.bl aj):=jd rfl Kj;simp![oY,yaA,b]
theorem D9(d c:List Tx):g7 (ao d) (ao c)=aa (decide (d=c)):=by
 induction d generalizing c with
 |nil=>cases c <;> simp[ao,g7]
 |cons x d f=>
  cases c with
  |nil=>simp[ao,g7]
  |cons y c=>
   show(cO (.str x) (.str y)).bind (λa=>(g7 (ao d) (ao c)).map λb=>a&&b)=_;rw[f];have:cO (.str x) (.str y)=aa (decide (x=y)):=by
    show aa (tS x == tS y)=_;by_cases h:x=y
    .subst h;simp
    .have:tS x≠tS y:=λz=>h (p6 z);simp[h,this]
   rw[this];simp[C9]
theorem Er(b:List Tx):jl (ao b)=0:=by
 induction b with
 |nil=>rfl
 |cons x b c=>show max (jh (.str x)) (jl (ao b))=0;rw[c];rfl
theorem Hz(b:Bool)(ls c:List Tx):Pu.eqT b (.lst (ao ls)) (.lst (ao c))=aa (.bl (b^^decide (ls=c))):=by show(if jh (.lst (ao ls))<=8 then(g7 (ao ls) (ao c)).map (λk=>PV.bl (b^^k))else ae)=_;rw[if_pos (by show jl (ao ls)+1<=8;rw[Er];decide),D9];rfl
theorem LN(b:List Tx)(w:Int)(s:Tx)(t:1<=b.length)(r:b.length<=9):kj a [.val (.tup (ao b)),⇑w,↥s]=.ok (.val (.bl (b.all (i8 w s)&&decide (b=aR b)))) [.val (.tup (ao b)),⇑w,↥s]:=by
 have h:e_ [.tup (ao b),.raw (.ty "tuple")]=aa (.bl ah):=jd rfl pP;have i:bw [.tup (ao b)]=aa (.int (b.length:Nat)):=by simp[bw,jc]
 have m:(1:Int)<=(b.length:Nat):=∅
 have l:((b.length:Nat):Int)<=9:=∅
 have d:=pQ (cap:=[1,2]) (dt:=fu) (de:=(bA (bd (oY a) (gV (dV 0) (gV (dV 1) (gV (dV 2) (Pu.bJ))))))) (ε:=[.val (.tup (ao b)),⇑w,↥s]) (λ_=>ah) (λx=>match x with|.str z=>.bl (i8 w s z)|_=>.non) (ao b)
  (by intro x o;obtain⟨z,_,rfl⟩:=cJ.mp o;refine⟨by simp![gz,gF,dW,fu],λ_=>?_⟩;have p:=Lr (a:=a) z s w;simp![gz,gF,dW,p]) []
 have q:((ao b).filter (λ_=>ah)).map (λx=>match x with|.str z=>PV.bl (i8 w s z)|_=>.non)=(b.map (i8 w s)).map .bl:=by rw[zy.mpr (by simp)];unfold ao;rw[eJ,eJ];rfl
 rw[iq,q]at d;have g:(b.map (i8 w s)).all id=b.all (i8 w s):=by rw[Cw];rfl
 generalize b.map (i8 w s)=bs at d g;have f:=Fu bs;have n:b.length<=1000000:=∅
 have c:=Hz aj b (aR b);cases j:b.all (i8 w s)with
 |false=>rw[g,j]at f;simp![kj,yao,h,i,m,l,dX,bW,g9,d,f]
 |true=>rw[g,j]at f;simp only[CY]at c;simp![kj,yao,h,i,m,l,dX,bW,g9,d,f,sw,lv,rQ,n,c]
theorem Tf(b:List Tx)(w:Int)(s:Tx)(h:b.length=0\/9<b.length):kj a [.val (.tup (ao b)),⇑w,↥s]=.ok (.val (.bl aj)) [.val (.tup (ao b)),⇑w,↥s]:=by
 have c:e_ [.tup (ao b),.raw (.ty "tuple")]=aa (.bl ah):=jd rfl pP;have d:bw [.tup (ao b)]=aa (.int (b.length:Nat)):=by simp[bw,jc]
 by_cases f:(1:Int)<=(b.length:Nat)
 .have g:¬((b.length:Nat):Int)<=9:=∅
  simp![kj,yao,c,d,f,g]
 .simp![kj,yao,c,d,f]
theorem Rp(i:Int):mW a [⇑i]=.ok (.val (.bl ah)) [⇑i]:=by have c:e_ [.int i,.raw (.ty "int")]=aa (.bl ah):=jd rfl Po;have b:e_ [.int i,.raw (.ty "bool")]=aa (.bl aj):=jd rfl Rz;simp![mW,yay,c,b]
theorem Lx(b:Bool):mW a [.val (.bl b)]=.ok (.val (.bl aj)) [.val (.bl b)]:=by have d:e_ [.bl b,.raw (.ty "int")]=aa (.bl ah):=jd rfl Mv;have c:e_ [.bl b,.raw (.ty "bool")]=aa (.bl ah):=jd rfl Tj;simp![mW,yay,d,c]
theorem Mm(x:Tx):mW a [↥x]=.ok (.val (.bl aj)) [↥x]:=by have b:e_ [.str x,.raw (.ty "int")]=aa (.bl aj):=jd rfl Qj;simp![mW,yay,b]
theorem E8(i:Int):nI a [⇑i]=.ok (.val (.bl (decide (1<=i/\i<=4)))) [⇑i]:=by
 have h:=Rp (a:=a) i;by_cases b:1<=i
 .by_cases c:i<=4
  .simp![nI,yaz,h,b,c]
  .simp![nI,yaz,h,b,c]
 .simp![nI,yaz,h,b]
theorem F6{x:PV}(h:mW a [.val x]=.ok (.val (.bl aj)) [.val x]):nI a [.val x]=.ok (.val (.bl aj)) [.val x]:=by simp![nI,yaz,h]
def jQ(s:Tx)(w:Int)(ls:List Tx):Bool:=decide (1<=w/\w<=4)&&(decide (1<=ls.length/\ls.length<=9)&&(ls.all (i8 w s)&&decide (ls=aR ls)))
theorem H_(s:Tx)(w:Int)(b:List Tx):iI a [.val (.tup [.int w,.tup (ao b)]),↥s]=.ok (.val (.bl (jQ s w b))) [.val (.tup [.int w,.tup (ao b)]),↥s]:=by
 have h:e_ [.tup [.int w,.tup (ao b)],.raw (.ty "tuple")]=aa (.bl ah):=jd rfl pP;have l:bw [.tup [.int w,.tup (ao b)]]=aa (.int 2):=rfl;have f:=lz ah 2 2;simp only[decide_true,tP,tQ]at f;have j:bG (.tup [.int w,.tup (ao b)]) (.int 0)=aa (.int w):=rfl;have i:bG (.tup [.int w,.tup (ao b)]) (.int 1)=aa (.tup (ao b)):=rfl;have d:=E8 (a:=a) w;unfold jQ;by_cases c:1<=w/\w<=4
 .rw[decide_eq_true c]at d ⊢;by_cases g:1<=b.length/\b.length<=9
  .have m:=LN (a:=a) b w s g.1 g.2;rw[decide_eq_true g];simp![iI,yax,h,l,f,j,i,d,m]
  .have m:=Tf (a:=a) b w s ∅;rw[decide_eq_false g];simp![iI,yax,h,l,f,j,i,d,m]
 .rw[decide_eq_false c]at d ⊢;simp![iI,yax,h,l,f,j,i,d]
abbrev vw(w:Int)(ls:List Tx):Bool:=jQ bY w ls
theorem MR(w:Int)(b:List Tx):nu a [.val (.tup [.int w,.tup (ao b)])]=.ok (.val (.bl (vw w b))) [.val (.tup [.int w,.tup (ao b)])]:=by have c:=H_ (a:=a) bY w b;simp only[bY]at c;simp![nu,yaw,c];rfl
theorem yw{w:Int}{ls:List Tx}(h:vw w ls=ah):kh a [.val (.tup [.int w,.tup (ao ls)])]=.ok (.val .non) [.val (.tup [.int w,.tup (ao ls)])]:=by have b:=MR (a:=a) w ls;rw[h]at b;simp![kh,yap,b]
theorem Good.vw{w:Nat}{ls:List Tx}(g:Good bY w ls)(m:1<=w)(l:w<=4)(f:ls.Pairwise (λa b=>df a b=ah)):vw w ls=ah:=by
 have j:ls.all (i8 w bY)=ah:=by rw[qN];intro x d;unfold i8;rw[g.len x d,decide_eq_true rfl,Bool.true_and,qN];intro c h;simpa using g.abc x d c h
 have i:decide (ls=aR ls)=ah:=decide_eq_true (yu f).symm;show jQ bY w ls=ah;unfold jQ;rw[j,i,decide_eq_true (show 1<=(w:Int)/\(w:Int)<=4 by lia),decide_eq_true (show 1<=ls.length/\ls.length<=9 from⟨g.some,g.few⟩)];rfl
theorem N8{x:PV}(h:iI a [.val x,↥bY]=.ok (.val (.bl aj)) [.val x,↥bY]):nu a [.val x]=.ok (.val (.bl aj)) [.val x]:=by simp only[bY]at h;simp![nu,yaw,h]
theorem J_{x:PV}(h:nu a [.val x]=.ok (.val (.bl aj)) [.val x]):kh a [.val x]=.er (.ref a.NoView) [.val x]:=by simp![kh,yap,h,xo,dW]
theorem wR(s:Tx){x:PV}{t:String}(h:sQ x=aa t)(e:eO [] (.type t) (.type "tuple")=aa aj):iI a [.val x,↥s]=.ok (.val (.bl aj)) [.val x,↥s]:=by have b:=jd (T:="tuple") h e;simp![iI,yax,b]
theorem FD(s:Tx){xs:List PV}(h:xs.length≠2):iI a [.val (.tup xs),↥s]=.ok (.val (.bl aj)) [.val (.tup xs),↥s]:=by
 have c:e_ [.tup xs,.raw (.ty "tuple")]=aa (.bl ah):=jd rfl pP;have d:bw [.tup xs]=aa (.int (xs.length:Nat)):=rfl;have b:=lz ah (xs.length:Nat) 2;have:¬((xs.length:Nat):Int)=2:=∅
 simp only[this,decide_false,tP,C8]at b;simp![iI,yax,c,d,b]
theorem DV(s:Tx){x y:PV}(h:nI a [.val x]=.ok (.val (.bl aj)) [.val x]):iI a [.val (.tup [x,y]),↥s]=.ok (.val (.bl aj)) [.val (.tup [x,y]),↥s]:=by have c:e_ [.tup [x,y],.raw (.ty "tuple")]=aa (.bl ah):=jd rfl pP;have f:bw [.tup [x,y]]=aa (.int 2):=rfl;have b:=lz ah 2 2;simp only[decide_true,tP,tQ]at b;have d:bG (.tup [x,y]) (.int 0)=aa x:=rfl;simp![iI,yax,c,f,b,d,h]
theorem GJ(s:Tx){w:Int}{y:PV}(i:1<=w/\w<=4)(h:kj a [.val y,⇑w,↥s]=.ok (.val (.bl aj)) [.val y,⇑w,↥s]):iI a [.val (.tup [.int w,y]),↥s]=.ok (.val (.bl aj)) [.val (.tup [.int w,y]),↥s]:=by have d:e_ [.tup [.int w,y],.raw (.ty "tuple")]=aa (.bl ah):=jd rfl pP;have j:bw [.tup [.int w,y]]=aa (.int 2):=rfl;have c:=lz ah 2 2;simp only[decide_true,tP,tQ]at c;have g:bG (.tup [.int w,y]) (.int 0)=aa (.int w):=rfl;have f:bG (.tup [.int w,y]) (.int 1)=aa y:=rfl;have b:=E8 (a:=a) w;rw[decide_eq_true i]at b;simp![iI,yax,d,j,c,g,f,b,h]
theorem J0(s:Tx)(xs:List PV)(w:Int):kj a [.val (.lst xs),⇑w,↥s]=.ok (.val (.bl aj)) [.val (.lst xs),⇑w,↥s]:=by have b:e_ [.lst xs,.raw (.ty "tuple")]=aa (.bl aj):=jd rfl F_;simp![kj,yao,b]
theorem Tz(s:Tx)(i w:Int):kj a [.val (.tup [.int i]),⇑w,↥s]=.ok (.val (.bl aj)) [.val (.tup [.int i]),⇑w,↥s]:=by have b:e_ [.tup [.int i],.raw (.ty "tuple")]=aa (.bl ah):=jd rfl pP;have f:bw [.tup [.int i]]=aa (.int 1):=rfl;have d:=MT (a:=a) i w s;have c:sC [.lst [.bl aj]]=aa (.bl aj):=rfl;simp![kj,yao,b,f,dX,bW,g9,jV,gz,gF,dW,fu,d,c]
theorem oR(s:Tx){w:Int}{ls:List Tx}(h:jQ s w ls=aj):iI a [.val (.tup [.int w,.tup (ao ls)]),↥s]=.ok (.val (.bl aj)) [.val (.tup [.int w,.tup (ao ls)]),↥s]:=by have:=H_ (a:=a) s w ls;rwa[h]at this
def sD:List PV:=[.non,.int 5,.str [50,58,32,97,98],.lst [.int 1,.tup [.str [97]]],.tup [.int 1,.tup []],.tup [.int 2,.tup [.str [97]]],.tup [.int 0,.tup [.str []]],.tup [.int 5,.tup [.str [97,97,97,97,97]]],.tup [.bl ah,.tup [.str [97]]],.tup [.int 1,.tup [.str [98],.str [97]]],.tup [.int 1,.tup (bO 10 (.str [97]))],.tup [.int 1,.tup [.str [100]]],.tup [.int 1,.tup [.str [65]]],.tup [.int 1,.lst [.str [97]]],.tup [.int 1,.tup [.int 1]],.tup [.int 1],.tup [.int 1,.tup [.str [97]],.int 1],.tup [.str [49],.tup [.str [97]]]]
theorem JU(s:Tx)(d:¬100∈s)(c:¬65∈s):∀x∈sD,iI a [.val x,↥s]=.ok (.val (.bl aj)) [.val x,↥s]:=by
 intro x b;simp only[sD,bE,jF,or_false]at b;rcases b with rfl|rfl|rfl|rfl|rfl|rfl|rfl|rfl|rfl|rfl|rfl|rfl|rfl|rfl|rfl|rfl|rfl|rfl
 .exact wR s rfl Nd
 .exact wR s rfl PQ
 .exact wR s rfl Qa
 .exact wR s rfl F_
 .exact oR s (w:=1) (ls:=[]) (by simp[jQ])
 .exact oR s (w:=2) (ls:=[[97]]) (by simp[jQ,i8])
 .exact oR s (w:=0) (ls:=[[]]) (by simp[jQ])
 .exact oR s (w:=5) (ls:=[[97,97,97,97,97]]) (by simp[jQ])
 .exact DV s (F6 (Lx ah))
 .refine oR s (w:=1) (ls:=[[98],[97]]) ?_;have:¬[[98],[97]]=aR [[98],[97]]:=λh=>by have r:=oZ [[98],[97]];rw[<-h]at r;simp[df]at r;exact absurd r (by decide)
  simp[jQ,this]
 .exact oR s (w:=1) (ls:=bO 10 [97]) (by simp[jQ])
 .exact oR s (w:=1) (ls:=[[100]]) (by simp[jQ,i8,d,c])
 .exact oR s (w:=1) (ls:=[[65]]) (by simp[jQ,i8,d,c])
 .exact GJ s (by decide) (J0 s _ _)
 .exact GJ s (by decide) (Tz s _ _)
 .exact FD s (by decide)
 .exact FD s (by decide)
 .exact DV s (F6 (Mm _))
theorem SD:∀x∈sD,nu a [.val x]=.ok (.val (.bl aj)) [.val x]:=λx b=>N8 (JU bY (by decide) (by decide) x b)
theorem JQ(b:List Int)(xs:List PV)(h:xs.length<=900):∃x∈sD,∃d,d.length<=xs.length+1/\yQ a [cF b,.own (.lst xs)]=.ok (.val x) [cF b,.own (.lst d)]:=by
 obtain⟨x,g,c⟩:=G_ (a:=a) b xs sD ∅ (by decide);refine⟨x,g,xs++[.int 0],by simp,?_⟩;have f:xt (.tup [.str [97]]) (.int 10)=aa (.tup (bO 10 (.str [97]))):=by show(if([PV.str [97]]≠[]/\(2:Int)<=10/\(10:Int)<=1000/\[PV.str [97]].length<=1000)then aa (PV.tup (bO (10:Int).toNat [PV.str [97]]).flatten)else ae)=_;rw[if_pos ⟨by simp,by decide,by decide,by decide⟩];rfl
 simp only[sD]at c;simp[yQ,yaG,aS,cS,dB,d2,d1,dV,dC,dL,dF,aq,aC,ce,kc,cu,eR,bd,gV,gO,Pu.bJ,fg,fz,cI,eu,fJ,R.bind,aF,bp,et,bu,back,fk,li,nG,oP,qr,uY,bA,ki,fN,bP,d8,vp,kt,BR,kL,ve,xj,i7,mX,Ba,nh,fh,eh,nq,kn,sH,bO,kC,bB,b8,f];simp at c;simp[aS,cS,dB,d2,d1,dV,dC,dL,dF,aq,aC,ce,kc,cu,eR,bd,gV,gO,Pu.bJ,fg,fz,cI,eu,fJ,R.bind,aF,bp,et,bu,back,fk,li,nG,oP,qr,uY,bA,ki,fN,bP,d8,vp,kt,BR,kL,ve,xj,i7,mX,Ba,nh,fh,eh,nq,kn,sH,bO,kC,c]
end
def bC(m:List (Tx×Int))(x:Tx):Option Int:=(m.find? λp=>decide (p.1=x)).map (·.2)
def c9(m:List (Tx×Int))(x:Tx)(n:Int):List (Tx×Int):=if(m.any λp=>decide (p.1=x))=ah then m.map (λp=>if p.1=x then(p.1,n)else p)else m++[(x,n)]
def dk(m:List (Tx×Int)):List (aD×PV):=m.map λp=>(Sum.inr (tS p.1),PV.int p.2)
theorem B1(x y:Tx):((Sum.inr (tS x):aD)=Sum.inr (tS y))=(x=y):=propext ⟨λh=>p6 (Sum.inr.inj h),λh=>by rw[h]⟩
theorem ub(m:List (Tx×Int))(x:Tx):jS (dk m) (Sum.inr (tS x))=(bC m x).map .int:=by
 induction m with
 |nil=>rfl
 |cons p m a=>
  show((List.find? _ ((Sum.inr (tS p.1),PV.int p.2)::dk m)).map (·.2))=_;unfold bC;rw[iU,iU];simp only[B1];by_cases h:p.1=x
  .simp[h]
  .simp only[h,decide_false];exact a
theorem Su(m:List (Tx×Int))(x:Tx):((dk m).any λa=>decide (a.1=(Sum.inr (tS x):aD)))=m.any λp=>decide (p.1=x):=by unfold dk;rw[List.any_map];congr 1;funext p;simp only[pr,B1]
theorem xn(m:List (Tx×Int))(x:Tx)(n:Int):oK (dk m) (Sum.inr (tS x)) (.int n)=dk (c9 m x n):=by
 unfold oK c9;rw[Su];split
 .unfold dk;rw[eJ,eJ];refine gC λp _=>?_;simp only[pr,B1];split <;> rfl
 .unfold dk;simp
theorem GO(m:List (Tx×Int)):ql (dk m)=aa (m.any λp=>decide (p.2≠0)):=by
 induction m with
 |nil=>rfl
 |cons p m a=>show(ql (dk m)).map _=_;rw[a];simp
theorem xf{m:List (Tx×Int)}{x:Tx}(h:(m.any λp=>decide (p.1=x))=aj):bC m x=ae:=by unfold bC;rw[Option.map_eq_none_iff,Jm];intro p a;have:=Is.mp h p a;simpa using this
theorem Nl{m:List (Tx×Int)}{x y:Tx}{n:Int}(h:(m.any λp=>decide (p.1=x))=aj):bC (m++[(x,n)]) y=if y=x then aa n else bC m y:=by
 have a:=xf h;unfold bC at a ⊢;rw[List.find?_append];by_cases e:y=x
 .subst e;rw[Option.map_eq_none_iff]at a;simp[a]
 .rw[if_neg e];have:¬x=y:=λz=>e z.symm;cases b:m.find? (λp=>decide (p.1=y))with
  |none=>simp[this]
  |some p=>simp
theorem Kz{m:List (Tx×Int)}{x y:Tx}{n:Int}:bC (m.map λp=>if p.1=x then(p.1,n)else p) y=(bC m y).map λz=>if y=x then n else z:=by
 induction m with
 |nil=>rfl
 |cons p m a=>
  unfold bC at a ⊢;rw[cn,iU,iU];by_cases h:p.1=x
  .rw[if_pos h];by_cases e:p.1=y
   .simp[e,show y=x from e.symm.trans h]
   .simp only[e,decide_false];exact a
  .rw[if_neg h];by_cases e:p.1=y
   .simp[e,show ¬y=x from λz=>h (e.trans z)]
   .simp only[e,decide_false];exact a
theorem HQ{m:List (Tx×Int)}{x:Tx}(h:(m.any λp=>decide (p.1=x))=ah):∃n,bC m x=aa n:=by
 unfold bC;cases a:m.find? (λp=>decide (p.1=x))with
 |none=>rw[Jm]at a;obtain⟨p,c,b⟩:=tT.mp h;exact absurd b (a p c)
 |some p=>exact⟨_,rfl⟩
theorem mU(m:List (Tx×Int))(x y:Tx)(n:Int):bC (c9 m x n) y=if y=x then aa n else bC m y:=by
 unfold c9;by_cases h:(m.any λp=>decide (p.1=x))=ah
 .rw[if_pos h,Kz];by_cases e:y=x
  .subst e;obtain⟨k,a⟩:=HQ h;rw[a];simp
  .simp[e]
 .rw[if_neg h,Nl (IW.mpr h)]
structure oS(m:List (Tx×Int))(q:List Tx):Prop where
 nd:(m.map (·.1)).Nodup
 get:∀x,(bC m x).getD 0=(q.count x:Nat)
theorem oS.mem{m:List (Tx×Int)}{q:List Tx}(h:oS m q){p:Tx×Int}(a:p∈m):bC m p.1=aa p.2:=by
 have b:=h.nd;clear h
 induction m with
 |nil=>cases a
 |cons r m c=>
  unfold bC;rw[iU];rcases bE.mp a with rfl|a
  .simp
  .rw[cn,kx]at b;have:¬r.1=p.1:=λz=>b.1 (cJ.mpr ⟨p,a,z.symm⟩);simp only[this,decide_false];exact c a b.2
theorem EX{m:List (Tx×Int)}{x:Tx}{n:Int}:(c9 m x n).map (·.1)=if(m.any λp=>decide (p.1=x))=ah then m.map (·.1)else m.map (·.1)++[x]:=by
 unfold c9;split
 .rw[eJ];refine gC λp _=>?_;simp only[pr];split <;> rfl
 .simp
theorem p8{m:List (Tx×Int)}{x:Tx}{n:Int}(h:(m.map (·.1)).Nodup):((c9 m x n).map (·.1)).Nodup:=by
 rw[EX];split
 .exact h
 .rename_i f;rw[CB];refine⟨h,by simp,λa g b c=>?_⟩;rw[fe]at c;subst c;rintro rfl;obtain⟨p,d,rfl⟩:=cJ.mp g;exact f (tT.mpr ⟨p,d,by simp⟩)
theorem oS.any{m:List (Tx×Int)}{q:List Tx}(h:oS m q):(m.any λp=>decide (p.2≠0))=!q.isEmpty:=by
 cases q with
 |nil=>rw[Jk,tQ,Is];intro p b;have a:=h.get p.1;rw[h.mem b]at a;simpa using a
 |cons x q=>
  rw[List.isEmpty_cons,C8,tT];have a:=h.get x;rw[List.count_cons_self]at a;cases e:m.find? (λp=>decide (p.1=x))with
  |none=>unfold bC at a;rw[e]at a;simp at a;lia
  |some p=>unfold bC at a;rw[e]at a;refine⟨p,List.mem_of_find?_eq_some e,?_⟩;simp at a;simp;lia
theorem oS.dec{m:List (Tx×Int)}{q:List Tx}(h:oS m q){x:Tx}(i:x∈q):∃n,bC m x=aa n/\0<n/\oS (c9 m x (n-1)) (q.erase x)/\bC (c9 m x (n-1)) x=aa (n-1)/\c9 (c9 m x (n-1)) x (n-1+1)=m:=by
 have a:=h.get x;have o:0<q.count x:=List.count_pos_iff.mpr i;cases e:bC m x with
 |none=>rw[e]at a;simp at a;lia
 |some n=>
  rw[e]at a;simp only[CV]at a;refine⟨n,rfl,∅,⟨p8 h.nd,λy=>?_⟩,by rw[mU,if_pos rfl],?_⟩
  .rw[mU];by_cases c:y=x
   .subst c;rw[if_pos rfl,List.count_erase_self];simp only[CV];lia
   .rw[if_neg c,List.count_erase_of_ne (dY (dY c))];exact h.get y
  .have f:(m.any λp=>decide (p.1=x))=ah:=by
    cases z:(m.any λp=>decide (p.1=x))with
    |true=>rfl
    |false=>rw[xf z]at e;cases e
   have j:((c9 m x (n-1)).any λp=>decide (p.1=x))=ah:=by unfold c9;rw[if_pos f];obtain⟨p,d,b⟩:=tT.mp f;refine tT.mpr ⟨_,cJ.mpr ⟨p,d,rfl⟩,?_⟩;rw[decide_eq_true_eq]at b;rw[if_pos b];simpa using b
   have l:c9 (c9 m x (n-1)) x (n-1+1)=(m.map λp=>if p.1=x then(p.1,n-1)else p).map λp=>if p.1=x then(p.1,n-1+1)else p:=by show(if((c9 m x (n-1)).any λp=>decide (p.1=x))=ah then _ else _)=_;rw[if_pos j];unfold c9;rw[if_pos f]
   rw[l,eJ];have:∀p∈m,((λp:Tx×Int=>if p.1=x then(p.1,n-1+1)else p) ∘ λp:Tx×Int=>if p.1=x then(p.1,n-1)else p) p=p:=by
    intro p d;simp only[pr];by_cases c:p.1=x
    .rw[if_pos c,if_pos c];have g:=h.mem d;rw[c,e]at g;cases g;rw[show p.2-1+1=p.2 by lia]
    .rw[if_neg c,if_neg c]
   rw[gC this,List.map_id''];intro p;rfl
theorem oS.zero{m:List (Tx×Int)}{q:List Tx}(h:oS m q){x:Tx}(a:x∉q):(bC m x).getD 0=0:=by rw[h.get,TX a];rfl
section
variable{a:Ad}
theorem RJ(b:List Tx)(F:b.length<=100):∃m,oS m b/\m.length<=b.length/\vo a [.val (.tup (ao b))]=.ok (.own (.dK (dk m))) [.val (.tup (ao b))]:=by
 obtain⟨v,u,m,g,l,rfl,f,n,A⟩:=yP (i:=2) (db:=(fH 1 (dV 2) (d2 bB (iN 1 (dV 2) (dC (.int 0))) (dC (.int 1)))))
  (I:=λr h=>∃(m:List (Tx×Int)) (g:Slot) (l:List Tx),h=[.val (.tup (ao b)),.own (.dK (dk m)),g]/\oS m l/\m.length<=l.length/\∃q,b=l++q/\r=ao q)
  (by
   rintro x r h ⟨m,g,l,rfl,f,n,q,d,p⟩;cases q with
   |nil=>cases p
   |cons y q=>
    have j:x::r=.str y::ao q:=p;simp only[C9]at j;obtain⟨rfl,rfl⟩:=j;have E:m.length<b8:=by have:=congrArg kC d;simp at this;unfold b8;lia
    refine⟨[.val (.tup (ao b)),.own (.dK (dk (c9 m y ((bC m y).getD 0+1)))),↥y],?_,c9 m y ((bC m y).getD 0+1),_,l++[y],rfl,⟨p8 f.nd,λz=>?_⟩,?_,q,by rw[d];simp,rfl⟩
    .have o:=ub m y;have s:=xn m y ((bC m y).getD 0+1);have t:(dk m).length<b8:=by unfold dk;rw[cM];exact E
     have B:((bC m y).map PV.int).getD (.int 0)=.int ((bC m y).getD 0):=by cases bC m y <;> rfl
     generalize dk m=D at o s t;simp![fH,iN,dm,jb,o,B,bB,t,s]
    .rw[mU];by_cases c:z=y
     .subst c;rw[if_pos rfl,List.count_append,List.count_singleton_self];have:=f.get z;simp only[CV];lia
     .rw[if_neg c,List.count_append,f.get z];have:[y].count z=0:=TX (by simpa using c);rw[this];rfl
    .have:(c9 m y ((bC m y).getD 0+1)).length<=m.length+1:=by
      unfold c9;split <;> simp
     rw[cL,pc];lia)
  (ao b) [.val (.tup (ao b)),.own (.dK (dk [])),.none] ⟨[],.none,[],rfl,⟨by simp,λx=>by simp[bC]⟩,by simp,b,by simp,rfl⟩
 obtain⟨q,d,w⟩:=A;have:q=[]:=by cases q with|nil=>rfl|cons=>cases w
 subst this;rw[fW]at d;subst d;refine⟨m,f,n,?_⟩;have C:dk []=[]:=rfl;rw[C]at u;simp![vo,yaq,si,d7,bW,g9,dD,u,kU]
theorem PF{t:Tx}{w:Nat}(b:w<=t.length+1)(c:1<=w):bV (.str t) (aa ((t.length:Int)-w+1)) ae=aa (.str (t.drop (t.length+1-w))):=by show aa (PV.str (eN t _ ae))=_;rw[show((t.length:Int)-w+1)=((t.length+1-w:Nat):Int) by lia,xO]
def qc(c:Nat):PV:=.str [c]
theorem Gn(w:Nat)(S:1<=w):∀(r u:Nat) (t:Tx) (m:List (Tx×Int)) (q:List Tx) (b:List Tx),r<u->q.length=r->oS m q->w<=t.length+1->t.length+r<=1000->m.length<=1000->b.length+(iK w r t q).length<=b8 -> o0 a u [↥t,⇑w,.own (.dK (dk m)),.own (.lst (ao b))]=.ok (.val .non) [↥t,⇑w,.own (.dK (dk m)),.own (.lst (ao (b++iK w r t q)))]
 |0,0,_,_,_,_,h,_,_,_,_,_,_=>absurd h ∅
 |r+1,0,_,_,_,_,h,_,_,_,_,_,_=>absurd h ∅
 |0,u+1,t,m,q,b,_,hq,hm,hw,ht,lX,hs=>by
  have N:q=[]:=oh.mp hq;subst N;have d:=GO m;rw[hm.any]at d;simp only[Jk,tQ]at d;have Z:(ao b).length<b8:=by rw[jc];simp only[iK,pc]at hs;lia
  have e:ao (b++iK w 0 t [])=ao b++[.str t]:=by simp[ao,iK]
  rw[e];generalize dk m=D at d;generalize ao b=L at Z;simp![o0,yam,uJ,dm,d,Z]
 |r+1,u+1,t,m,q,b,hf,hq,hm,hw,ht,lX,hs=>by
  have bT:q.isEmpty=aj:=by cases q with|nil=>cases hq|cons=>rfl
  have d:=GO m;rw[hm.any,bT]at d;simp only[C8]at d;have A:=PF (t:=t) hw S;have bh:bw [.str t]=aa (.int (t.length:Nat)):=rfl;have kG:iO (.int (t.length:Nat)) (.int w)=aa (.int ((t.length:Int)-w)):=rfl;have gf:bB (.int ((t.length:Int)-w)) (.int 1)=aa (.int ((t.length:Int)-w+1)):=rfl
  let H:=t.drop (t.length+1-w)
  let f:=λc=>if H++[c]∈q then iK w r (t++[c]) (q.erase (H++[c]))else []
  have hE:iK w (r+1) t q=bY.flatMap f:=rfl;have hH:H.length<=1000:=by simp only[H,k9];lia
  obtain⟨ε',s,G,F,p,rest,o,M,rfl⟩:=yP (i:=5) (db:=(aS (cu 6 (d2 bB (dV 4) (dV 5)))
 (cS (dB (d2 (fh λi j=>decide (j<i)) (iN 2 (dV 6) (dC (.int 0))) (dC (.int 0)))) (aS (fH 2 (dV 6) (d2 iO (nH 2 (dV 6)) (dC (.int 1))))
 (aS (kt (bd (o0 a u) (gV (d2 bB (dV 0) (dV 5)) (gV (dV 1) (gO 2 (gO 3 (Pu.bJ)))))))
 (fH 2 (dV 6) (d2 bB (nH 2 (dV 6)) (dC (.int 1)))))) (d8))))
   (I:=λJ Q=>∃(G F:Slot) (p rest:Tx),bY=p++rest/\J=rest.map qc/\Q=[↥t,⇑w,.own (.dK (dk m)),.own (.lst (ao (b++p.flatMap f))),↥H,G,F])
   (by
    rintro x J Q ⟨G,F,p,rest,o,T,rfl⟩;cases rest with
    |nil=>cases T
    |cons c rest=>
     have JA:x::J=qc c::rest.map qc:=T;simp only[C9]at JA;obtain⟨rfl,rfl⟩:=JA;have W:bB (.str H) (.str [c])=aa (.str (H++[c])):=xH (by simp[b8];lia);have ou:bB (.str t) (.str [c])=aa (.str (t++[c])):=xH (by simp[b8];lia);have T4:b.length+(p.flatMap f).length+(f c).length<=b8:=by rw[hE,o,Jn,vU,cL,cL]at hs;lia
     have X:ao (b++(p++[c]).flatMap f)=ao ((b++p.flatMap f)++f c):=by simp
     by_cases B:H++[c]∈q
     .obtain⟨n,P,g2,g3,g4,g5⟩:=hm.dec B;have g:f c=iK w r (t++[c]) (q.erase (H++[c])):=if_pos B;have v:=Gn w S r u (t++[c]) (c9 m (H++[c]) (n-1)) (q.erase (H++[c])) (b++p.flatMap f) ∅ (by rw[pt B,hq];rfl) g3 (by simp;lia) (by simp;lia)
       (by
        have:(c9 m (H++[c]) (n-1)).length=m.length:=by
         have:=congrArg kC (EX (m:=m) (x:=H++[c]) (n:=n-1));have d:(m.any λp=>decide (p.1=H++[c]))=ah:=by
          cases z:(m.any λp=>decide (p.1=H++[c]))with
          |true=>rfl
          |false=>rw[xf z]at P;cases P
         rw[if_pos d]at this;simpa using this
        lia)
       (by rw[<-g,cL];exact T4)
      rw[<-g]at v;have l:=ub m (H++[c]);rw[P]at l;have O:=xn m (H++[c]) (n-1);have C:=ub (c9 m (H++[c]) (n-1)) (H++[c]);rw[g4]at C;have E:=xn (c9 m (H++[c]) (n-1)) (H++[c]) (n-1+1);rw[g5,show n-1+1=n by lia]at E;have y:(dk m).length<b8:=by unfold dk;rw[cM];unfold b8;lia
      have Y:(dk (c9 m (H++[c]) (n-1))).length<b8:=by
       unfold dk;rw[cM];have:(c9 m (H++[c]) (n-1)).length<=m.length+1:=by unfold c9;split <;> simp
       unfold b8;lia
      have gt:(0:Int)<n:=g2;refine⟨[↥t,⇑w,.own (.dK (dk m)),.own (.lst (ao (b++(p++[c]).flatMap f))),↥H,.val (.str [c]),↥(H++[c])],?_,_,_,p++[c],rest,by rw[o];simp,rfl,rfl⟩;rw[X];have s1:iO (.int n) (.int 1)=aa (.int (n-1)):=rfl;have s2:bB (.int (n-1)) (.int 1)=aa (.int n):=by show aa (PV.int (n-1+1))=_;congr 2;lia
      simp only[pf]at l C;generalize dk m=D at l O E y;generalize dk (c9 m (H++[c]) (n-1))=D2 at C O E v Y;generalize ao (b++p.flatMap f)=L at v;generalize ao ((b++p.flatMap f)++f c)=L2 at v;clear_value H f;simp![qc,W,iN,nH,fH,dm,jb,l,gt,s1,y,O,ou,v,C,s2,Y,E]
     .have g:f c=[]:=if_neg B;have K:=hm.zero B;have l:=ub m (H++[c]);have hg:((bC m (H++[c])).map PV.int).getD (.int 0)=.int 0:=by
       cases e:bC m (H++[c])with
       |none=>rfl
       |some k=>rw[e]at K;simp at K;subst K;rfl
      refine⟨[↥t,⇑w,.own (.dK (dk m)),.own (.lst (ao (b++(p++[c]).flatMap f))),↥H,.val (.str [c]),↥(H++[c])],?_,_,_,p++[c],rest,by rw[o];simp,rfl,rfl⟩;rw[X,g,fW];generalize dk m=D at l;generalize ao (b++p.flatMap f)=L;clear_value H f;simp![qc,W,iN,dm,jb,l,hg])
   (bY.map qc) [↥t,⇑w,.own (.dK (dk m)),.own (.lst (ao (b++([]:Tx).flatMap f))),↥H,.none,.none] ⟨.none,.none,[],bY,by simp,rfl,rfl⟩
  have kJ:rest=[]:=by cases rest with|nil=>rfl|cons=>cases M
  subst kJ;rw[fW]at o;rw[hE];rw[<-o]at s;simp only[Ji,fW]at s;have qT:g9 (.str [97,98,99])=aa (bY.map qc):=rfl;have Uf:bV (.str t) (aa ((t.length:Int)-w+1)) ae=aa (.str H):=A;generalize dk m=D at d s;generalize ao b=L at s;generalize ao (b++bY.flatMap f)=L2 at s;clear_value H f;simp![o0,yam,uJ,dm,d,bR,bx,bZ,bh,kG,gf,Uf,dD,d7,bW,qT,s]
end
section
variable{a:Ad}
abbrev aU(w:Nat)(ls:List Tx):PV:=.tup [.int w,.tup (ao ls)]
theorem Gp{b:Type}(xs:List b):eN xs ae (aa (-1))=xs.dropLast:=by unfold eN;rw[show HT.sIx xs.length 0 ae=0 from rfl,pe,Nat.sub_zero,Jo];congr 1;show(HT.sIx xs.length xs.length (aa (-1)))=_;show(if(-1:Int)<0 then((-1:Int)+(xs.length:Int)).toNat else min (-1:Int).toNat xs.length)=_;rw[if_pos (by decide)];lia
theorem Gx{w:Nat}{ls:List Tx}(g:Good bY w ls)(c:1<=w)(d:w<=4):(eD w ls).length<=531441:=by rw[u6 c g.some λx b=>⟨g.len x b,g.abc x b⟩];refine cQ (Jh _ _) ?_;rw[Hy];exact cQ (Nat.pow_le_pow_right (by decide) (show w-1+ls.length<=12 by have:=g.few;lia)) (by decide)
theorem Kk(V:PV)(d:List Tx)(w:Nat)(c b:Slot):jV [] fu (bR bV (dV 0) bZ (bx (d1 cG (dC (.int 1))))) (ao d) [] [.val V,⇑w,c,b]=.ok (ao (d.map pA)) [.val V,⇑w,c,b]:=by
 have i:=pQ (cap:=[]) (dt:=fu) (de:=(bR bV (dV 0) bZ (bx (d1 cG (dC (.int 1)))))) (ε:=[.val V,⇑w,c,b]) (λ_=>ah) (λx=>match x with|.str z=>.str z.dropLast|_=>.non) (ao d)
  (by
   intro x f;obtain⟨z,_,rfl⟩:=cJ.mp f;refine⟨by simp![gz,gF,dW,fu],λ_=>?_⟩;have g:bV (.str z) ae (aa (-1))=aa (.str z.dropLast):=by show aa (PV.str (eN z ae (aa (-1))))=_;rw[Gp]
   have h:cG (.int 1)=aa (.int (-1)):=rfl;simp![gz,gF,dW,bR,bZ,bx,h,g]) []
 rw[i,iq,zy.mpr (by simp)];unfold ao;rw[eJ,eJ];rfl
theorem BU{w:Nat}{ls:List Tx}(g:Good bY w ls)(q:1<=w)(E:w<=4)(S:ls.Pairwise (λa b=>df a b=ah)):sK a [.val (aU w ls)]=.ok (.own (.lst (ao (eD w ls)))) [.val (aU w ls)]:=by
 have j:=yw (a:=a) (g.vw q E S);have v:bG (aU w ls) (.int 0)=aa (.int w):=rfl;have l:bG (aU w ls) (.int 1)=aa (.tup (ao ls)):=rfl;obtain⟨m,A,H,u⟩:=RJ (a:=a) ls (by have:=g.few;lia);have O:m.length<=1000:=by have:=g.few;lia
 let hd:=aR (b0 (ls.map pA))
 have N:∀h∈hd,h.length=w-1:=λh J=>by have A:=(l9 _ _).mp ((eY _).mem_iff.mp J);obtain⟨y,Q,rfl⟩:=cJ.mp A;rw[CN,g.len y Q]
 let f:=λh=>iK w ls.length h ls
 have K:eD w ls=hd.flatMap f:=rfl;have B:=Gx g q E;obtain⟨M,d,s,p,rest,n,z,rfl⟩:=yP (i:=3) (db:=(kt (pJ (o0 a 12) (nk (dV 3) (nk (dV 1) (gN (ki (bd (vo a) (gV (d2 bG (dV 0) (dC (.int 1))) (Pu.bJ)))) (gO 2 (Pu.bJ))))))))
  (I:=λr C=>∃(s:Slot) (p rest:List Tx),hd=p++rest/\r=ao rest/\C=[.val (aU w ls),⇑w,.own (.lst (ao (p.flatMap f))),s])
  (by
   rintro x r C ⟨s,p,rest,n,G,rfl⟩;cases rest with
   |nil=>cases G
   |cons h rest=>
    have F:x::r=.str h::ao rest:=G;simp only[C9]at F;obtain⟨rfl,rfl⟩:=F;have J:h.length=w-1:=N h (by rw[n];simp);have o:=Gn (a:=a) w q ls.length 12 h m ls (p.flatMap f) (by have:=g.few;lia) rfl A ∅ (by have:=g.few;lia) O (by rw[K,n,Jn,vU,cL,cL]at B;show(p.flatMap f).length+(f h).length<=b8;unfold b8;lia);refine⟨[.val (aU w ls),⇑w,.own (.lst (ao ((p++[h]).flatMap f))),↥h],?_,_,p++[h],rest,by rw[n];simp,rfl,rfl⟩;have X:(p++[h]).flatMap f=p.flatMap f++iK w ls.length h ls:=by simp[f]
    rw[X];generalize ao (p.flatMap f)=L at o;generalize ao (p.flatMap f++iK w ls.length h ls)=L2 at o;generalize dk m=D at o u;simp only[aU]at l ⊢;generalize ao ls=T at u l;clear_value f hd;simp![pJ,nk,gN,AG,l,u,o])
  (ao hd) [.val (aU w ls),⇑w,.own (.lst (ao (([]:List Tx).flatMap f))),.none] ⟨.none,[],hd,by simp,rfl,rfl⟩
 have P:rest=[]:=by cases rest with|nil=>rfl|cons=>cases z
 subst P;rw[fW]at n;rw[<-n,<-K]at d;simp only[Ji]at d;have c:=Kk (aU w ls) ls w (.own (.lst [])) .none;have t:u_ [.lst (ao (ls.map pA))]=aa (.lst (ao hd)):=by show(gA (ao _)).bind _=_;have Z:=g.few;rw[rQ,gT,if_pos (vJ (Bv _) (by rw[cM];lia))]
 have Y:ao ([]:List Tx)=[]:=rfl;rw[Y]at d;generalize ao (eD w ls)=L at d;generalize ao hd=D at d t;generalize ao (ls.map pA)=D0 at c t;simp only[aU]at j v l c d ⊢;generalize W:ao ls=T at j v l c d;clear_value f hd;simp![sK,yaQ,j,v,l,dD,d7,bW,g9,dX,c,t,d,kU]
theorem Eg{w:Nat}{ls:List Tx}(g:Good bY w ls)(h:1<=w)(f:w<=4)(i:ls.Pairwise (λa b=>df a b=ah)):uH a [.val (aU w ls)]=.ok (⇑((eD w ls).length:Nat)) [.val (aU w ls)]:=by
 have c:=BU (a:=a) g h f i;have d:bw [.lst (ao (eD w ls))]=aa (.int ((eD w ls).length:Nat)):=by simp[bw,jc]
 generalize ao (eD w ls)=L at c d;simp![uH,yav,c,d]
theorem NA(b:List Tx):jz (ao b)=aa (dG b):=by
 induction b with
 |nil=>rfl
 |cons x b c=>show(dU (.str x)).bind (λv=>(jz (ao b)).map (v::·))=_;rw[c];rfl
end
end Sh
namespace Mx
open L2 Pu
def nJ(z:Tx)(i:Nat):Nat:=z.getD (i % z.length) 0
def M5(z:Tx)(w:Nat):Tx:=((bO w z).flatten).take (z.length+w-1)
theorem len_sub{l m:List Tx}(a:l.Nodup)(h:∀x∈l,x∈m):l.length<=m.length:=by
 induction l generalizing m with
 |nil=>simp
 |cons x l d=>rw[kx]at a;have c:x∈m:=h x (by simp);have:=d (m:=m.erase x) a.2 λy b=>(List.mem_erase_of_ne (λz=>a.1 (by rw[<-z];exact b))).mpr (h y (by simp[b]));rw[pt c]at this;have f:0<m.length:=List.length_pos_of_mem c;rw[d_];lia
end Mx
namespace Sh
open L2 Pu Mx
section
variable{a:Ad}
def En(t:Tx)(v:Nat):List Tx:=(cz (t.length+1-v)).map λi=>(t.drop i).take v
theorem Rq{w:Nat}{ls:List Tx}(h:1<=ls.length)(g:ls.length<=9):sS a [⇑w,.val (.lst (ao ls))]=.ok (.val (aU w (aR ls))) [⇑w,.val (.lst (ao ls))]:=by
 have c:bw [.lst (ao ls)]=aa (.int (ls.length:Nat)):=by simp[bw,jc]
 have f:(1:Int)<=(ls.length:Nat):=∅
 have d:((ls.length:Nat):Int)<=9:=∅
 have b:lv [.lst (ao ls)]=aa (.lst (ao (aR ls))):=uE ∅;simp only[aU];generalize ao (aR ls)=T at b;generalize ao ls=B at c b;simp![sS,yaR,c,f,d,b,ma]
def se(b c:Nat):List Nat:=zw b (c-b)
def part(t:Tx)(i j:Nat):Tx:=(t.drop i).take (j-i)
def nJ(b:List Tx)(i:Nat):Tx:=b.getD i []
def QJ(t:Tx)(s e g l:Nat):Tx:=t.take s++part t g l++part t e g++part t s e++t.drop l
def QV(t:Tx)(b:List Tx)(s g e:Nat):List Tx:=(se (g+1) b.length).flatMap λl=>if nJ b e=nJ b l then [QJ t s e g l] else []
def Nn(t:Tx)(b:List Tx)(s g:Nat):List Tx:=(se (s+1) (g+1)).flatMap λe=>QV t b s g e
theorem Fj{i:Nat}{b:ak}{c:PO}(h:b[i]?=aa (.own c)):kU i b=.ok (.ret (.own c)) (b.set i .none):=by unfold kU;rw[h]
theorem O8{i:Nat}{d:ak->R (List PV)}{db:ak->R aP}{ε c b:ak}{xs:List PV}(h:d ε=.ok xs c)(f:ii i db xs c=.ok .next b):d7 i d db ε=.ok .next b:=by unfold d7;rw[h];exact f
end
section
variable{a:Ad}
def KC(t:Tx)(b:List Tx)(s:Nat):List Tx:=(se (s+1) b.length).flatMap λg=>if nJ b s=nJ b g then Nn t b s g else []
def Px(t:Tx)(b:List Tx):List Tx:=(se 0 b.length).flatMap λs=>KC t b s
theorem E7{i:Nat}{ε:ak}{v:PV}(h:ε[i]?=aa (.val v)):dV i ε=.ok v ε:=by unfold dV;rw[h]
theorem OL{d:Type}{c:ak->R Bool}{d1 d2:ak->R d}{ε b:ak}(h:c ε=.ok ah b):cS c d1 d2 ε=d1 b:=by unfold cS;rw[h];rfl
theorem OV{d:Type}{c:ak->R Bool}{d1 d2:ak->R d}{ε b:ak}(h:c ε=.ok aj b):cS c d1 d2 ε=d2 b:=by unfold cS;rw[h];rfl
theorem Am{d:ak->R PV}{b:Bool}{ε c:ak}(h:d ε=.ok (.bl b) c):dB d ε=.ok b c:=by unfold dB;rw[h];rfl
def JO(t:Tx)(m w:Nat):List Tx:=(se 1 m).map λp=>M5 ((t.take m).drop p++(t.take m).take p) w
def NX(t:Tx)(b:List Tx)(w:Nat):List Tx:=if nJ b 0=nJ b (b.length-1)then JO t (b.length-1) w else []
def LU(t:Tx)(w:Nat):List Tx:=Px t (En t (w-1))++NX t (En t (w-1)) w
def Lk(t:Tx)(m:Nat):List Tx:=(se 1 m).map λp=>part (bO 3 (t.take m)).flatten p (p+t.length)
def kN(t:Tx)(b:List Tx):List Tx:=if nJ b 0=nJ b (b.length-1)then Lk t (b.length-1)else []
end
section
variable{a:Ad}
theorem xL{t:ak->R Bool}{c:ak->R aP}{n:Nat}{d ε1 b:ak}(h:t d=.ok ah ε1)(f:c ε1=.ok .next b):gc t c (n+1) d=gc t c n b:=by rw[gc,h,R.bind_ok];simp only;rw[f]
theorem yC{t:ak->R Bool}{c:ak->R aP}{n:Nat}{b ε1:ak}(h:t b=.ok aj ε1):gc t c (n+1) b=.ok .next ε1:=by rw[gc,h,R.bind_ok]
end
end Sh
namespace Mx
open L2 Pu
theorem sJ{z:Tx}{w:Nat}(a:1<=w):(aV z w).length=z.length+1-w:=by rw[ko z w a];simp
def QR(t:Tx)(w:Nat):List Tx:=(eQ t.length).filter λz=>(aV z w).isPerm (aV t w)
theorem Rc(z:Tx)(w:Nat)(a:1<=w):(aV z.reverse w)=((aV z w).map dr).reverse:=by
 rw[ko _ w a,ko z w a,CW,eJ];apply Je
 .simp
 intro i b f;simp only[cM,zd]at b;rw[List.getElem_reverse];simp only[List.getElem_map,List.getElem_range,cM,zd,pr];apply Je
 .simp;lia
 intro j d c;simp only[jZ,k9,CW]at d c;simp only[CP,CO,List.getElem_reverse,jZ,k9];congr 1;lia
end Mx
namespace Sh
open L2 Pu Mx
abbrev gr(t:Tx)(v i:Nat):Tx:=(t.drop i).take v
theorem uw{t:Tx}{v i:Nat}:(gr t (v+1) i).take v=gr t v i:=by unfold gr;rw[List.take_take,C7 ∅]
theorem AL{t:Tx}{v i:Nat}:(gr t (v+1) i).tail=gr t v (i+1):=by
 unfold gr;refine vP λk=>?_;rw[List.getElem?_tail,Jc,Jc,CD,CD];by_cases h:k<v
 .rw[if_pos ∅,if_pos h];congr 1;lia
 .rw[if_neg ∅,if_neg h]
theorem Ur{t:Tx}{v:Nat}{x:Tx}:x∈aV t (v+1)↔∃i,i+v<t.length/\x=gr t (v+1) i:=by
 rw[ko _ _ ∅,cJ];constructor
 .rintro⟨i,a,rfl⟩;exact⟨i,by have:=vy.mp a;lia,rfl⟩
 .rintro⟨i,a,rfl⟩;exact⟨i,vy.mpr ∅,rfl⟩
theorem HH{v:Nat}{y:Tx}:∀(k:Nat) (t:Tx) (i:Nat),((zw i k).map λj=>if gr t v j=y then 1 else 0).sum+(if gr t v (i+k)=y then 1 else 0)=((zw i k).map λj=>if gr t v (j+1)=y then 1 else 0).sum+(if gr t v i=y then 1 else 0)
 |0,t,i=>by simp
 |k+1,t,i=>by have a:=HH (v:=v) (y:=y) k t (i+1);rw[List.range'_succ,cn,cn,iu,iu,show i+(k+1)=i+1+k by lia];lia
end Sh
namespace Mx
open L2 Pu
theorem EJ(w:Nat):∀(s r t:Tx),nw w t (s++r)=nw w t s++nw w (t++s) r
 |[],r,t=>by simp[nw]
 |c::s,r,t=>by rw[kF,nw,nw,EJ w s r (t++[c]),kF,eG];rfl
end Mx
namespace Sh
open L2 Pu Mx
section
variable{v:Nat}
def oc(v:Nat)(M:List Tx)(y:Tx):Nat:=(M.map λx=>if x.take v=y then 1 else 0).sum
def ic(M:List Tx)(y:Tx):Nat:=(M.map λx=>if x.tail=y then 1 else 0).sum
theorem xI(M N:List Tx)(y:Tx):oc v (M++N) y=oc v M y+oc v N y:=by simp[oc]
theorem yr(M N:List Tx)(y:Tx):ic (M++N) y=ic M y+ic N y:=by simp[ic]
theorem wX{M N:List Tx}(h:M.Perm N)(y:Tx):oc v M y=oc v N y:=(h.map _).sum_nat
theorem wY{M N:List Tx}(h:M.Perm N)(y:Tx):ic M y=ic N y:=(h.map _).sum_nat
theorem Uo{M:List Tx}{y:Tx}:0<oc v M y↔∃x∈M,x.take v=y:=by
 unfold oc
 induction M with
 |nil=>simp
 |cons a M f=>
  rw[cn,iu];by_cases c:a.take v=y
  .rw[if_pos c];exact⟨λ_=>⟨a,by simp,c⟩,λ_=>∅⟩
  .rw[if_neg c,mC,f];exact⟨λ⟨x,d,b⟩=>⟨x,by simp[d],b⟩,λ⟨x,d,b⟩=>⟨x,(bE.mp d).resolve_left λe=>c (e ▸ b),b⟩⟩
theorem UJ{M:List Tx}{y:Tx}:0<ic M y↔∃x∈M,x.tail=y:=by
 unfold ic
 induction M with
 |nil=>simp
 |cons a M f=>
  rw[cn,iu];by_cases c:a.tail=y
  .rw[if_pos c];exact⟨λ_=>⟨a,by simp,c⟩,λ_=>∅⟩
  .rw[if_neg c,mC,f];exact⟨λ⟨x,d,b⟩=>⟨x,by simp[d],b⟩,λ⟨x,d,b⟩=>⟨x,(bE.mp d).resolve_left λe=>c (e ▸ b),b⟩⟩
abbrev en(v:Nat)(t:Tx):Tx:=t.drop (t.length-v)
abbrev b2(p:Prop)[Decidable p]:Nat:=if p then 1 else 0
theorem Ln{t:Tx}:gr t v (t.length-v)=en v t:=by unfold gr en;exact ip (by simp;lia)
theorem xR{t:Tx}(h:v<=t.length)(y:Tx):oc v (aV t (v+1)) y+b2 (en v t=y)=ic (aV t (v+1)) y+b2 (t.take v=y):=by
 have:=HH (v:=v) (y:=y) (t.length-v) t 0;rw[mC,Ln]at this;unfold oc ic b2;rw[ko _ _ ∅,eJ,eJ,show t.length+1-(v+1)=t.length-v by lia,List.range_eq_range'];have b:∀j,((λx:Tx=>if x.take v=y then 1 else 0) ∘ λi=>(t.drop i).take (v+1)) j=if gr t v j=y then 1 else 0:=λj=>by show(if(gr t (v+1) j).take v=_ then 1 else 0)=_;rw[uw]
 have a:∀j,((λx:Tx=>if x.tail=y then 1 else 0) ∘ λi=>(t.drop i).take (v+1)) j=if gr t v (j+1)=y then 1 else 0:=λj=>by show(if(gr t (v+1) j).tail=_ then 1 else 0)=_;rw[AL]
 rw[gC λj _=>b j,gC λj _=>a j];simpa[gr]using this
theorem Dx{t:Tx}(h:v<=t.length)(c:Nat):aV (t++[c]) (v+1)=aV t (v+1)++[en v t++[c]]:=by rw[Rj ∅,if_pos ∅];congr 2;rw[show t.length+1-(v+1)=t.length-v by lia,vL ∅];exact ip (by simp;lia)
theorem zP{M:List Tx}(h:∀x∈M,x.length=v+1):∀(n:Nat) (t:Tx) (R:List Tx),R.length=n->v<=t.length->(aV t (v+1)++R).Perm M -> ∃b d,b.take v=t.take v/\v<=b.length/\(aV b (v+1)++d).Perm M/\∀x∈d,x.take v≠en v b
 |0,t,R,hn,ht,hp=>⟨t,R,rfl,ht,hp,λx a=>by rw[oh.mp hn]at a;simp at a⟩
 |n+1,t,R,hn,ht,hp=>by
  by_cases q:∃x∈R,x.take v=en v t
  .obtain⟨x,a,e⟩:=q;have i:x.length=v+1:=h x (hp.mem_iff.mp (iR _ a));have f:x=en v t++[x.getLastD 0]:=by
    have g:x=x.take v++x.drop v:=(my v x).symm;have m:∃c,x.drop v=[c]:=List.length_eq_one_iff.mp (by rw[k9];lia);obtain⟨c,j⟩:=m;rw[j]at g;have l:x.getLastD 0=c:=by rw[g];simp
    rw[l,<-e];exact g
   have o:(aV (t++[x.getLastD 0]) (v+1)++R.erase x).Perm M:=by rw[Dx ht,<-f,eG];exact(zj _ (Jp a).symm).trans hp
   obtain⟨b,d,u,s,r,p⟩:=zP h n (t++[x.getLastD 0]) (R.erase x) (by rw[pt a];lia) (by simp;lia) o;exact⟨b,d,by rw[u,vV ht],s,r,p⟩
  .exact⟨t,R,rfl,ht,hp,λx a e=>q ⟨x,a,e⟩⟩
theorem HC{M:List Tx}(i:∀x∈M,x.length=v+1)(a:∀y,oc v M y=ic M y){p:Tx}(s:p.length=v):∃t R,t.take v=p/\v<=t.length/\(aV t (v+1)++R).Perm M/\en v t=p/\(∀x∈R,x.take v≠p)/\∀y,oc v R y=ic R y:=by
 have m:aV p (v+1)=[]:=oh.mp (by rw[sJ ∅];lia);obtain⟨t,R,d,g,b,h⟩:=zP i M.length p M rfl ∅ (by rw[m];exact .refl _);rw[show p.take v=p from ip ∅]at d;have u:oc v R (en v t)=0:=by
  rcases vW (oc v R (en v t))with q|q
  .exact q
  .obtain⟨x,l,j⟩:=Uo.mp q;exact absurd j (h x l)
 have c:=xR g (en v t);have r:=wX (v:=v) b (en v t);have o:=wY b (en v t);have w:=a (en v t);rw[xI]at r;rw[yr]at o;rw[d]at c;unfold b2 at c;rw[if_pos rfl]at c;have f:p=en v t:=by
  by_cases q:p=en v t
  .exact q
  .rw[if_neg q]at c;lia
 refine⟨t,R,d,g,b,f.symm,by rw[f];exact h,λy=>?_⟩;have d1:=xR g y;have d2:=wX (v:=v) b y;have n:=wY b y;rw[xI]at d2;rw[yr]at n;rw[d,<-f]at d1;have:=a y;lia
theorem OP{t c:Tx}{i:Nat}(G:i+v<=t.length)(H:v<=c.length)(D:c.take v=gr t v i)(C:en v c=gr t v i):∃l,l.take v=t.take v/\v<=l.length/\en v l=en v t/\(aV l (v+1)).Perm (aV t (v+1)++aV c (v+1)):=by
 let T1:=t.take (i+v)
 let T2:=t.drop (i+v)
 have r:t=T1++T2:=(my _ _).symm;have A:T1.length=i+v:=by simp[T1];lia
 have m:T1=t.take i++gr t v i:=by show t.take (i+v)=_;rw[List.take_add]
 have d:(gr t v i).length=v:=by unfold gr;simp;lia
 let s:=c.drop v
 have q:c=gr t v i++s:=by rw[<-D];exact(my _ _).symm
 have o:∀(a b:Tx),(a++gr t v i).length=a.length+v->aV (a++gr t v i++b) (v+1)=aV (a++gr t v i) (v+1)++nw (v+1) (gr t v i) b:=by
  intro a b _;have p:∀(n:Nat) (b:Tx),b.length=n->aV (a++gr t v i++b) (v+1)=aV (a++gr t v i) (v+1)++nw (v+1) (gr t v i) b:=by
   intro n
   induction n with
   |zero=>intro b h;rw[oh.mp h];simp[nw]
   |succ n B=>
    intro b h;obtain⟨j,x,rfl⟩:∃j x,b=j++[x]:=⟨b.dropLast,b.getLast (by intro e;rw[e]at h;simp at h),(List.dropLast_concat_getLast _).symm⟩
    rw[<-eG,Dx (by simp[d];lia),B j (by simp at h;lia),EJ,eG];congr 2;simp only[nw];congr 2;have e:(a++gr t v i++j).length-v=a.length+((gr t v i++j).length+1-(v+1)):=by simp[d];lia
    unfold en;rw[e,eG,Jq];simp
  exact p b.length b rfl
 have z:aV t (v+1)=aV T1 (v+1)++nw (v+1) (gr t v i) T2:=by have:=o (t.take i) T2 (by simp[d]);rw[<-m]at this;rw[<-this,<-r]
 have y:aV (T1++s) (v+1)=aV T1 (v+1)++nw (v+1) (gr t v i) s:=by have:=o (t.take i) s (by simp[d]);rw[<-m]at this;exact this
 have w:aV c (v+1)=nw (v+1) (gr t v i) s:=by
  conv=>lhs;rw[q]
  exact Ab ∅ (by rw[d];lia)
 have g:T1++s=t.take i++c.take (c.length-v)++gr t v i:=by rw[m,eG,<-q,eG,<-C];congr 1;exact(my _ _).symm
 have u:aV (T1++s++T2) (v+1)=aV (T1++s) (v+1)++nw (v+1) (gr t v i) T2:=by have:=o (t.take i++c.take (c.length-v)) T2 (by simp[d];lia);rw[<-g]at this;exact this
 refine⟨T1++s++T2,?_,by simp[A];lia,?_,?_⟩
 .rw[eG,vV ∅];show(t.take (i+v)).take v=_;rw[List.take_take,C7 ∅]
 .have f:∀a:Tx,en v (a++(gr t v i++T2))=en v (gr t v i++T2):=λa=>by
   unfold en;rw[Jq,zx (by simp[d];lia),iq];congr 1;simp[d];lia
  have F:T1++s++T2=(t.take i++c.take (c.length-v))++(gr t v i++T2):=by rw[g];simp only[eG]
  have E:t.take i++(gr t v i++T2)=t:=by rw[<-eG,<-m];exact r.symm
  have:=f (t.take i);rw[E]at this;rw[F,f,this]
 .rw[u,y,z,w,eG,eG];exact zj _ TU
def xw(v:Nat)(M:List Tx):Prop:=∀V:Tx->Prop,(∃x∈M,V (x.take v))->(∀x∈M,V (x.take v)\/V x.tail->V (x.take v)/\V x.tail)->∀x∈M,V (x.take v)
end
inductive WN(w:Nat):Nat->Tx->Tx->Prop
 |here (n:Nat) (t:Tx):WN w n t t
 |on {n:Nat}{t u z:Tx}:WN w n t u->z∈LU u w->WN w (n+1) t z
def Full(w:Nat)(t:Tx)(k:Nat):Prop:=∀z∈QR t w,WN w k t z
theorem Bq{i:Nat}{db:ak->R aP}{c g:Type}(b:c->g->ak)(f:c->Tx->c)(P:c->Prop):∀(xs:List Tx) (a:c) (s:g),P a -> (∀x∈xs,∀a s,P a->P (f a x)/\∃d,db ((b a s).set i (↥x))=.ok .next (b (f a x) d))->∃d,ii i db (ao xs) (b a s)=.ok .next (b (xs.foldl f a) d)/\P (xs.foldl f a)
 |[],a,s,h,_=>⟨s,rfl,h⟩
 |x::xs,a,s,h,step=>by obtain⟨o,l,q⟩:=step x (by simp) a s h;obtain⟨j,p,n⟩:=Bq b f P xs (f a x) l o λy m=>step y (by simp[m]);refine⟨j,?_,n⟩;show ii i db (.str x::ao xs) _=_;rw[ii,q];exact p
abbrev ks(m:List (Tx×Int)):List Tx:=m.map (·.1)
theorem Oh(m:List (Tx×Int))(z:Tx):(m.any λp=>decide (p.1=z))=decide (z∈ks m):=by rw[mr,tT,decide_eq_true_eq,cJ];exact⟨λ⟨p,b,a⟩=>⟨p,b,of_decide_eq_true a⟩,λ⟨p,b,a⟩=>⟨p,b,decide_eq_true a⟩⟩
theorem BH(m:List (Tx×Int))(z:Tx):(bC m z).isSome=decide (z∈ks m):=by
 rw[<-Oh];cases h:m.any λp=>decide (p.1=z)with
 |false=>rw[xf h];rfl
 |true=>obtain⟨n,e⟩:=HQ h;rw[e];rfl
theorem KP{m:List (Tx×Int)}(a:(ks m).Nodup){z:Tx}{n:Int}:bC m z=aa n↔(z,n)∈m:=by
 induction m with
 |nil=>simp[bC]
 |cons p m b=>
  change ((p::m).map (·.1)).Nodup at a;rw[cn,kx]at a;unfold bC at b ⊢;rw[iU];by_cases c:p.1=z
  .simp only[c,decide_true,pf,bE];constructor
   .intro e;left;rw[<-dQ e,<-c]
   .rintro(e|e)
    .rw[<-e]
    .exact absurd (cJ.mpr ⟨(z,n),e,rfl⟩) (by rw[<-c];exact a.1)
  .simp only[c,decide_false,bE];rw[b a.2];constructor
   .exact .inr
   .rintro(e|e)
    .exact absurd (by rw[<-e]) c
    .exact e
theorem O7(m:List (Tx×Int)):(dk m).length=m.length:=by simp[dk]
theorem Em{i:Nat}{db de:ak->R PV}{c b a:ak}{z:Tx}{n:Int}{m:List (Tx×Int)}(j:de c=.ok (.int n) b)(l:db b=.ok (.str z) a)(d:∃x,dm b i=aa x)(g:dm a i=aa (dk m))(h:m.length<b8):fH i db de c=.ok .next (a.set i (.own (.dK (dk (c9 m z n))))):=by unfold fH;obtain⟨x,f⟩:=d;rw[j,R.bind_ok,f];simp only[b_,R.bind_ok];rw[l,R.bind_ok,g];simp only[b_,R.bind_ok];show(aF (aa (Sum.inr (tS z))) a).bind _=_;simp only[b_,R.bind_ok];rw[O7,if_pos h,xn]
def c8(ks:List Tx):List (aD×PV):=ks.map λx=>(Sum.inr (tS x),PV.bl ah)
def fq(ks:List Tx)(x:Tx):List Tx:=if x∈ks then ks else ks++[x]
theorem UE{ks:List Tx}{x z:Tx}:z∈fq ks x↔z∈ks\/z=x:=by
 unfold fq;by_cases c:x∈ks
 .rw[if_pos c];exact⟨.inl,λh=>h.elim id λe=>e ▸ c⟩
 .rw[if_neg c];simp
theorem ET{ks:List Tx}{x:Tx}(h:ks.Nodup):(fq ks x).Nodup:=by
 unfold fq;by_cases c:x∈ks
 .rw[if_pos c];exact h
 .rw[if_neg c];exact CB.mpr ⟨h,by simp,λa f b d e=>by simp at d;subst d;subst e;exact c f⟩
theorem yf{ks:List Tx}{x:Tx}:ks.length<=(fq ks x).length/\(x∉ks->ks.length<(fq ks x).length):=by
 unfold fq;by_cases c:x∈ks
 .rw[if_pos c];exact⟨aY _,λq=>absurd c q⟩
 .rw[if_neg c];simp
theorem EV(ks:List Tx)(x:Tx):((c8 ks).any λa=>decide (a.1=(Sum.inr (tS x):aD)))=decide (x∈ks):=by
 unfold c8;rw[List.any_map,mr,tT,decide_eq_true_eq];constructor
 .rintro⟨z,c,b⟩;have:=of_decide_eq_true b;rw[<-p6 (Sum.inr.inj this)];exact c
 .intro h;exact⟨x,h,by simp⟩
theorem Rt(ks:List Tx)(x:Tx):oK (c8 ks) (Sum.inr (tS x)) (.bl ah)=c8 (fq ks x):=by
 unfold oK fq;rw[EV];by_cases c:x∈ks
 .rw[decide_eq_true c,if_pos rfl,if_pos c];unfold c8;rw[eJ];refine gC λz _=>?_;simp only[pr];split
  .rfl
  .rfl
 .rw[decide_eq_false c,if_neg (by simp),if_neg c];unfold c8;simp
theorem N3(ks:List Tx)(x:Tx):(jS (c8 ks) (Sum.inr (tS x))).isSome=decide (x∈ks):=by rw[<-EV];unfold jS;rw[vI,List.isSome_find?]
theorem xq(ks:List Tx):(c8 ks).length=ks.length:=by simp[c8]
theorem AM{neg:Bool}{i:Nat}{db:ak->R PV}{ε a:ak}{z:Tx}{ks:List Tx}(c:db ε=.ok (.str z) a)(b:dm a i=aa (c8 ks)):gx neg i db ε=.ok (.bl (neg^^decide (z∈ks))) a:=by unfold gx;rw[c,R.bind_ok,b];simp only[b_,R.bind_ok];show aF (aa (PV.bl (neg^^(jS (c8 ks) (.inr (tS z))).isSome))) a=_;rw[N3];rfl
theorem Dy{i:Nat}{db de:ak->R PV}{ε b a:ak}{z:Tx}{ks:List Tx}(h:de ε=.ok (.bl ah) b)(j:db b=.ok (.str z) a)(c:∃x,dm b i=aa x)(f:dm a i=aa (c8 ks))(g:ks.length<b8):fH i db de ε=.ok .next (a.set i (.own (.dK (c8 (fq ks z))))):=by unfold fH;obtain⟨x,d⟩:=c;rw[h,R.bind_ok,d];simp only[b_,R.bind_ok];rw[j,R.bind_ok,f];simp only[b_,R.bind_ok];show(aF (aa (Sum.inr (tS z))) a).bind _=_;simp only[b_,R.bind_ok];rw[xq,if_pos g,Rt]
def rS(ks:List Tx)(x:Tx):List Tx:=if x.dropLast∈ks\/x.tail∈ks then fq (fq ks x.dropLast) x.tail else ks
theorem NS{ks:List Tx}{x z:Tx}(h:z∈ks):z∈rS ks x:=by
 unfold rS;split
 .exact UE.mpr (.inl (UE.mpr (.inl h)))
 .exact h
theorem GE:∀(a:List Tx) {ks:List Tx}{z:Tx},z∈ks->z∈a.foldl rS ks
 |[],_,_,h=>h
 |x::a,_,_,h=>GE a (NS h)
theorem Dt{ks:List Tx}{x:Tx}(h:ks.Nodup):(rS ks x).Nodup:=by
 unfold rS;split
 .exact ET (ET h)
 .exact h
theorem Do:∀(a:List Tx) {ks:List Tx},ks.Nodup->(a.foldl rS ks).Nodup
 |[],_,h=>h
 |x::a,_,h=>Do a (Dt h)
theorem A8(ks:List Tx)(x:Tx):ks.length<=(rS ks x).length:=by
 unfold rS;split
 .exact cQ yf.1 yf.1
 .exact aY _
theorem ua:∀(a ks:List Tx),ks.length<=(a.foldl rS ks).length
 |[],ks=>aY _
 |x::a,ks=>cQ (A8 ks x) (ua a (rS ks x))
theorem yB:∀(a ks:List Tx),(a.foldl rS ks).length=ks.length->∀x∈a,x.dropLast∈ks\/x.tail∈ks->x.dropLast∈ks/\x.tail∈ks
 |[],_,_,x,b=>by simp at b
 |y::a,ks,h,x,b=>by
  rw[k_]at h;have n:=A8 ks y;have m:=ua a (rS ks y);have d:(rS ks y).length=ks.length:=∅
  have same:rS ks y=ks/\(y.dropLast∈ks\/y.tail∈ks->y.dropLast∈ks/\y.tail∈ks):=by
   unfold rS at d ⊢;by_cases c:y.dropLast∈ks\/y.tail∈ks
   .rw[if_pos c]at d ⊢;have l:=yf (ks:=ks) (x:=y.dropLast);have i:=yf (ks:=fq ks y.dropLast) (x:=y.tail);have g:y.dropLast∈ks:=Jr λq=>by have:=l.2 q;lia
    have j:fq ks y.dropLast=ks:=by unfold fq;rw[if_pos g]
    rw[j]at i d ⊢;have f:y.tail∈ks:=Jr λq=>by have:=i.2 q;lia
    exact⟨by unfold fq;rw[if_pos f],λ_=>⟨g,f⟩⟩
   .rw[if_neg c];exact⟨rfl,λq=>absurd q c⟩
  rcases bE.mp b with rfl|b
  .exact same.2
  .rw[same.1]at h;exact yB a ks h x b
theorem Eb{V:Tx->Prop}:∀(b ks:List Tx),(∀x∈b,V x.dropLast\/V x.tail->V x.dropLast/\V x.tail)->(∀z∈ks,V z)->∀z∈b.foldl rS ks,V z
 |[],_,_,h,z,d=>h z d
 |x::b,ks,g,h,z,d=>by
  refine Eb b (rS ks x) (λy a=>g y (by simp[a])) (λy a=>?_) z d;unfold rS at a;split at a
  .rename_i c;have f:=g x (by simp) (c.imp (h _) (h _));rcases UE.mp a with a|rfl
   .rcases UE.mp a with a|rfl
    .exact h y a
    .exact f.1
   .exact f.2
  .exact h y a
theorem zV:∀(a ks:List Tx),(a.foldl rS ks).length=ks.length->a.foldl rS ks=ks
 |[],_,_=>rfl
 |y::a,ks,h=>by
  rw[k_]at h ⊢;have l:=A8 ks y;have j:=ua a (rS ks y);have e:rS ks y=ks:=by
   have i:(rS ks y).length=ks.length:=∅
   have b:=yB [y] ks i y (by simp);unfold rS;by_cases c:y.dropLast∈ks\/y.tail∈ks
   .obtain⟨g,f⟩:=b c;have d:fq ks y.dropLast=ks:=by unfold fq;rw[if_pos g]
    rw[if_pos c,d];unfold fq;rw[if_pos f]
   .rw[if_neg c]
  rw[e]at h ⊢;exact zV a ks h
def f_(a:List Tx):List Tx:=a.map pA++a.map List.tail
theorem Ie{b ks:List Tx}(h:∀z∈ks,z∈f_ b){x:Tx}(c:x∈b):∀z∈rS ks x,z∈f_ b:=λz a=>by
 unfold rS at a;split at a
 .rcases UE.mp a with a|rfl
  .rcases UE.mp a with a|rfl
   .exact h z a
   .exact qB _ (cJ.mpr ⟨x,c,rfl⟩)
  .exact iR _ (cJ.mpr ⟨x,c,rfl⟩)
 .exact h z a
structure Rch(ls ks:List Tx):Prop where
 nd:ks.Nodup
 sub:∀z∈ks,z∈f_ ls
 start:∀x r,ls=x::r->x.dropLast∈ks
 least:∀V:Tx->Prop,(∀x∈ls,V x.dropLast\/V x.tail->V x.dropLast/\V x.tail)->(∀x r,ls=x::r->V x.dropLast)->∀z∈ks,V z
theorem Rch.few{ls ks:List Tx}(h:Rch ls ks):ks.length<=2*ls.length:=by have:=len_sub h.nd h.sub;unfold f_ at this;simp at this;lia
theorem Rch.next{ls ks:List Tx}(h:Rch ls ks):Rch ls (ls.foldl rS ks):=by
 refine⟨Do ls h.nd,?_,λx r e=>GE ls (h.start x r e),λV c g=>Eb ls ks c (h.least V c g)⟩;have a:∀(l:List Tx) (ks:List Tx),(∀x∈l,x∈ls)->(∀z∈ks,z∈f_ ls)->∀z∈l.foldl rS ks,z∈f_ ls:=by
  intro l
  induction l with
  |nil=>exact λks _ h=>h
  |cons x l d=>exact λks b h=>d (rS ks x) (λy f=>b y (by simp[f])) (Ie h (b x (by simp)))
 exact a ls ks (λ_ h=>h) h.sub
section
variable{a:Ad}
theorem yO(x:Tx):bV (.str x) ae (aa (-1))=aa (.str x.dropLast):=by show aa (PV.str (eN x ae (aa (-1))))=_;rw[Gp]
theorem DM(x:Tx):bV (.str x) (aa 1) ae=aa (.str x.tail):=by show aa (PV.str (eN x (aa ((1:Nat):Int)) ae))=_;rw[xO,List.drop_one]
def uK:ak->R PV:=bR bV (dV 3) (bZ) (bx (d1 cG (dC (.int 1))))
def ug:ak->R PV:=bR bV (dV 3) (bx (dC (.int 1))) (bZ)
def rI:ak->R aP:=cS (i7 (dB (gx aj 1 uK)) (dB (gx aj 1 ug))) (aS (fH 1 uK (dC (.bl ah))) (fH 1 ug (dC (.bl ah)))) (d8)
def rC:ak->R Bool:=dB (d2 (fh λi j=>decide (i<j)) (dV 2) (nz 1))
def rB:ak->R aP:=aS (cu 2 (nz 1)) (d7 3 (bW (dV 0)) rI)
theorem RO:yaO a=aS (eR 1 (uc (bR bV (d2 bG (dV 0) (dC (.int 0))) (bZ) (bx (d1 cG (dC (.int 1))))) (dC (.bl ah)))) (aS (cu 2 (dC (.int 0))) (aS (λb=>dD (gc rC rB 1000 b)) (kU 1))):=rfl
def dP(W:PV)(ks:List Tx)(n:Nat)(b:Slot):ak:=[.val W,.own (.dK (c8 ks)),⇑n,b]
theorem Hq(W:PV)(ks:List Tx)(n:Nat)(x:Tx):uK (dP W ks n (↥x))=.ok (.str x.dropLast) (dP W ks n (↥x)):=by have h:=yO x;have b:cG (.int 1)=aa (.int (-1)):=rfl;simp[uK,dP,bR,bZ,bx,dV,d1,dC,R.bind,aF,b,nG,h]
theorem Gf(W:PV)(ks:List Tx)(n:Nat)(x:Tx):ug (dP W ks n (↥x))=.ok (.str x.tail) (dP W ks n (↥x)):=by have h:=DM x;simp[ug,dP,bR,bZ,bx,dV,dC,R.bind,aF,nG,h]
theorem Ik(W:PV)(d:List Tx)(t:d.length<=100)(q:g9 W=aa (ao d))(ks:List Tx)(h:Rch d ks)(n:Nat)(f:Slot):∃j,d7 3 (bW (dV 0)) rI (dP W ks n f)=.ok .next (dP W (d.foldl rS ks) n j):=by
 obtain⟨j,e,_⟩:=Bq (i:=3) (db:=rI) (λks f=>dP W ks n f) rS (λks=>ks.Nodup/\∀z∈ks,z∈f_ d) d ks f ⟨h.nd,h.sub⟩
  (by
   rintro x p ks f ⟨g,l⟩;refine⟨⟨Dt g,Ie l p⟩,↥x,?_⟩;have r:ks.length<=200:=by have:=len_sub g l;unfold f_ at this;simp at this;lia
   have o:=Am (AM (neg:=aj) (i:=1) (Hq W ks n x) rfl);have m:=Am (AM (neg:=aj) (i:=1) (Gf W ks n x) rfl);rw[CY]at o m;have b:i7 (dB (gx aj 1 uK)) (dB (gx aj 1 ug)) (dP W ks n (↥x))=.ok (decide (x.dropLast∈ks\/x.tail∈ks)) (dP W ks n (↥x)):=by
    unfold i7;rw[o,R.bind_ok];by_cases c:x.dropLast∈ks
    .rw[decide_eq_true c,decide_eq_true (.inl c)]
    .rw[decide_eq_false c];simp only;rw[m];congr 1;simp[c]
   show rI (dP W ks n (↥x))=_;unfold rI rS;by_cases c:x.dropLast∈ks\/x.tail∈ks
   .rw[decide_eq_true c]at b;rw[if_pos c];refine(OL b).trans ?_;have g:=Dy (i:=1) (de:=dC (.bl ah)) (ε:=dP W ks n (↥x)) rfl (Hq W ks n x) ⟨_,rfl⟩ rfl (by unfold b8;lia);refine(dZ g).trans ?_;have s:(fq ks x.dropLast).length<=ks.length+1:=by unfold fq;split <;> simp
    exact Dy (i:=1) (de:=dC (.bl ah)) (ε:=dP W (fq ks x.dropLast) n (↥x)) rfl (Gf W (fq ks x.dropLast) n x) ⟨_,rfl⟩ rfl (by unfold b8;lia)
   .rw[decide_eq_false c]at b;rw[if_neg c];exact(OV b).trans rfl)
 refine⟨j,O8 ?_ e⟩;unfold bW;rw[E7 (v:=W) rfl,R.bind_ok,q];rfl
theorem xg(W:PV)(ks:List Tx)(n:Nat)(b:Slot):rC (dP W ks n b)=.ok (decide (n<ks.length)) (dP W ks n b):=by
 have d:nz 1 (dP W ks n b)=.ok (.int (ks.length:Nat)) (dP W ks n b):=by show R.ok (PV.int ((c8 ks).length:Nat)) _=_;rw[xq]
 have c:decide ((n:Int)<(ks.length:Nat))=decide (n<ks.length):=by
  by_cases q:n<ks.length
  .rw[decide_eq_true q,decide_eq_true ∅]
  .rw[decide_eq_false q,decide_eq_false ∅]
 refine Am (xU (x:=.int n) (E7 rfl) d ?_);show aa (PV.bl (decide ((n:Int)<(ks.length:Nat))))=_;rw[c]
theorem Qm(W:PV)(b:List Tx)(u:b.length<=100)(v:g9 W=aa (ao b)):∀(j:Nat) (ks:List Tx) (n l:Nat) (g:Slot),2*b.length<=ks.length+j->j+2<=l->n<ks.length->Rch b ks -> ∃d r i,Rch b d/\(∀x∈b,x.dropLast∈d\/x.tail∈d->x.dropLast∈d/\x.tail∈d)/\gc rC rB l (dP W ks n g)=.ok .next (dP W d r i):=by
 intro j
 induction j with
 |zero=>
  intro ks n l g F E s h;obtain⟨f,rfl⟩:∃f,l=f+1+1:=⟨l-2,∅⟩
  obtain⟨i,e⟩:=Ik W b u v ks h ks.length g;have H:=h.few;have G:=h.next.few;have C:=ua b ks;have p:=zV b ks ∅;have t:=yB b ks (by rw[p]);rw[p]at e;have c:=xg W ks n g;rw[decide_eq_true s]at c;have m:rB (dP W ks n g)=.ok .next (dP W ks ks.length i):=by
   unfold rB;have k:cu 2 (nz 1) (dP W ks n g)=.ok .next (dP W ks ks.length g):=by refine yx (x:=.int (ks.length:Nat)) (ε1:=dP W ks n g) ?_;show R.ok (PV.int ((c8 ks).length:Nat)) _=_;rw[xq]
   exact(dZ k).trans e
  have o:=xg W ks ks.length i;rw[decide_eq_false (fA _)]at o;exact⟨ks,ks.length,i,h,t,(xL c m).trans (yC o)⟩
 |succ j D=>
  intro ks n l g F E s h;obtain⟨f,rfl⟩:∃f,l=f+1:=⟨l-1,∅⟩
  obtain⟨i,e⟩:=Ik W b u v ks h ks.length g;have C:=ua b ks;have c:=xg W ks n g;rw[decide_eq_true s]at c;have m:rB (dP W ks n g)=.ok .next (dP W (b.foldl rS ks) ks.length i):=by
   unfold rB;have k:cu 2 (nz 1) (dP W ks n g)=.ok .next (dP W ks ks.length g):=by refine yx (x:=.int (ks.length:Nat)) (ε1:=dP W ks n g) ?_;show R.ok (PV.int ((c8 ks).length:Nat)) _=_;rw[xq]
   exact(dZ k).trans e
  by_cases q:(b.foldl rS ks).length=ks.length
  .have p:=zV b ks q;have t:=yB b ks q;rw[p]at m;obtain⟨w,rfl⟩:∃w,f=w+1:=⟨f-1,∅⟩
   have o:=xg W ks ks.length i;rw[decide_eq_false (fA _)]at o;exact⟨ks,ks.length,i,h,t,(xL c m).trans (yC o)⟩
  .obtain⟨d,r,y,B,A,z⟩:=D (b.foldl rS ks) ks.length f i ∅ ∅ ∅ h.next;exact⟨d,r,y,B,A,(xL c m).trans z⟩
theorem R7(W:PV)(x:Tx)(r:List Tx)(v:r.length<=50)(t:g9 W=aa (ao (x::r)))(d:bG W (.int 0)=aa (.str x)):∃ks,Rch (x::r) ks/\(∀y∈x::r,y.dropLast∈ks\/y.tail∈ks->y.dropLast∈ks/\y.tail∈ks)/\uV a [.val W]=.ok (.own (.dK (c8 ks))) [.val W]:=by
 have u:Rch (x::r) [x.dropLast]:=⟨by simp,λz b=>by simp at b;rw[b];simp[f_],λy q e=>by cases e;simp,λV _ p z b=>by simp at b;rw[b];exact p x r rfl⟩
 obtain⟨ks,n,g,j,i,o⟩:=Qm W (x::r) (by simp;lia) t (2*(x::r).length) [x.dropLast] 0 1000 .none ∅ (by simp;lia) (by simp) u;refine⟨ks,j,i,?_⟩;have h:=yO x;have s:cG (.int 1)=aa (.int (-1)):=rfl;have m:eR 1 (uc (bR bV (d2 bG (dV 0) (dC (.int 0))) (bZ) (bx (d1 cG (dC (.int 1))))) (dC (.bl ah))) [.val W,.none,.none,.none]=.ok .next [.val W,.own (.dK (c8 [x.dropLast])),.none,.none]:=by simp[eR,uc,bR,bZ,bx,d2,d1,dV,dC,R.bind,aF,d,s,nG,h,jb,c8]
 have l:cu 2 (dC (.int 0)) [.val W,.own (.dK (c8 [x.dropLast])),.none,.none]=.ok .next (dP W [x.dropLast] 0 .none):=rfl;have c:yaO a [.val W,.none,.none,.none]=.ok (.ret (.own (.dK (c8 ks)))) [.val W,.none,⇑n,g]:=by rw[RO];refine(dZ m).trans ?_;refine(dZ l).trans ?_;refine(dZ (d1:=λf=>dD (gc rC rB 1000 f)) (by show dD _=_;rw[o];rfl)).trans ?_;exact Fj rfl
 unfold uV;generalize yaO a=D at c;generalize c8 ks=A at c;simp[bp,et,bu,bO,c,back,aF,R.bind,fk]
end
def lB(m:List (Tx×Int))(x:Tx):List (Tx×Int):=c9 (c9 m x.dropLast ((bC m x.dropLast).getD 0+1)) x.tail ((bC (c9 m x.dropLast ((bC m x.dropLast).getD 0+1)) x.tail).getD 0-1)
def b1(p:Prop)[Decidable p]:Int:=if p then 1 else 0
theorem Py(m:List (Tx×Int))(x y:Tx):(bC (lB m x) y).getD 0=(bC m y).getD 0+b1 (x.dropLast=y)-b1 (x.tail=y):=by
 unfold lB b1;rw[mU,mU,mU];by_cases b:y=x.tail
 .subst b;by_cases a:x.tail=x.dropLast
  .rw[if_pos rfl,if_pos a,if_pos a.symm,if_pos rfl,a];simp
  .rw[if_pos rfl,if_neg a,if_neg (dY a),if_pos rfl];simp
 .rw[if_neg b,if_neg (dY b)];by_cases a:y=x.dropLast
  .subst a;rw[if_pos rfl,if_pos rfl];simp
  .rw[if_neg a,if_neg (dY a)];simp
theorem Fk(m:List (Tx×Int))(x y:Tx):y∈ks (lB m x)↔y∈ks m\/y=x.dropLast\/y=x.tail:=by
 have k:∀(m:List (Tx×Int)) (z:Tx),z∈ks m↔(bC m z).isSome=ah:=λm z=>by rw[BH,decide_eq_true_eq]
 rw[k,k];unfold lB;generalize (bC (c9 m x.dropLast ((bC m x.dropLast).getD 0+1)) x.tail).getD 0-1=n1;generalize (bC m x.dropLast).getD 0+1=n2;rw[mU,mU];by_cases b:y=x.tail
 .rw[if_pos b];simp[b]
 .rw[if_neg b];by_cases a:y=x.dropLast
  .rw[if_pos a];simp[a]
  .rw[if_neg a];simp[b,a]
def i_(a:List Tx):List (Tx×Int):=a.foldl lB []
def exc(ls:List Tx)(y:Tx):Int:=(ls.map λx=>b1 (x.dropLast=y)-b1 (x.tail=y)).sum
theorem FW:∀(a:List Tx) (m:List (Tx×Int)) (y:Tx),(bC (a.foldl lB m) y).getD 0=(bC m y).getD 0+exc a y
 |[],m,y=>by simp[exc]
 |x::a,m,y=>by rw[k_,FW a,Py];simp only[exc,cn,iu];lia
theorem RL(a:List Tx)(y:Tx):(bC (i_ a) y).getD 0=exc a y:=by unfold i_;rw[FW];show 0+_=_;lia
theorem G6:∀(a:List Tx) (m:List (Tx×Int)) (y:Tx),y∈ks (a.foldl lB m)↔y∈ks m\/y∈f_ a
 |[],m,y=>by simp[f_]
 |x::a,m,y=>by
  rw[k_,G6 a,Fk];simp only[f_,cn,jm,bE];constructor
  .rintro((h|h|h)|h|h)
   .exact .inl h
   .exact .inr (.inl (.inl h))
   .exact .inr (.inr (.inl h))
   .exact .inr (.inl (.inr h))
   .exact .inr (.inr (.inr h))
  .rintro(h | (h|h)|h|h)
   .exact .inl (.inl h)
   .exact .inl (.inr (.inl h))
   .exact .inr (.inl h)
   .exact .inl (.inr (.inr h))
   .exact .inr (.inr h)
theorem DB(a:List Tx)(y:Tx):y∈ks (i_ a)↔y∈f_ a:=by unfold i_;rw[G6];simp
theorem Fz:∀(a:List Tx) (m:List (Tx×Int)),(ks m).Nodup->(ks (a.foldl lB m)).Nodup
 |[],_,h=>h
 |x::a,m,h=>Fz a _ (p8 (p8 h))
theorem Hj(a:List Tx):(ks (i_ a)).Nodup:=Fz a [] (by simp)
section
variable{a:Ad}
def vi:ak->R PV:=bR bV (dV 2) (bZ) (bx (d1 cG (dC (.int 1))))
def sT:ak->R PV:=bR bV (dV 2) (bx (dC (.int 1))) (bZ)
def xB:ak->R aP:=aS (fH 1 vi (d2 bB (iN 1 vi (dC (.int 0))) (dC (.int 1)))) (fH 1 sT (d2 iO (iN 1 sT (dC (.int 0))) (dC (.int 1))))
theorem Ou:yar a=aS (eR 1 (si)) (aS (λb=>dD (d7 2 (bW (dV 0)) xB b)) (kU 1)):=rfl
def iD(W:PV)(m:List (Tx×Int))(s:Slot):ak:=[.val W,.own (.dK (dk m)),s]
theorem Es(W:PV)(m:List (Tx×Int))(x:Tx):vi (iD W m (↥x))=.ok (.str x.dropLast) (iD W m (↥x)):=by have h:=yO x;have b:cG (.int 1)=aa (.int (-1)):=rfl;simp[vi,iD,bR,bZ,bx,dV,d1,dC,R.bind,aF,b,nG,h]
theorem HJ(W:PV)(m:List (Tx×Int))(x:Tx):sT (iD W m (↥x))=.ok (.str x.tail) (iD W m (↥x)):=by have h:=DM x;simp[sT,iD,bR,bZ,bx,dV,dC,R.bind,aF,nG,h]
theorem Dp{i:Nat}{db:ak->R PV}{b:ak}{z:Tx}{m:List (Tx×Int)}{n:Int}(d:db b=.ok (.str z) b)(c:dm b i=aa (dk m)):iN i db (dC (.int n)) b=.ok (.int ((bC m z).getD n)) b:=by
 unfold iN;rw[c];simp only[b_,R.bind_ok];rw[d,R.bind_ok];show((R.ok (PV.int n) b).bind _)=_;rw[R.bind_ok,c];simp only[b_,R.bind_ok];show aF (aa ((jS (dk m) (.inr (tS z))).getD (.int n))) b=_;rw[ub];cases bC m z <;> rfl
theorem RW(W:PV)(b:List Tx)(J:b.length<=100)(C:g9 W=aa (ao b)):w6 a [.val W]=.ok (.own (.dK (dk (i_ b)))) [.val W]:=by
 obtain⟨d,e,_⟩:=Bq (i:=2) (db:=xB) (λm s=>iD W m s) lB (λm=>(ks m).Nodup/\∀z∈ks m,z∈f_ b) b [] .none ⟨by simp,by simp⟩
  (by
   rintro x r m s ⟨j,g⟩;have w:(ks (lB m x)).Nodup:=p8 (p8 j);have t:x.dropLast∈f_ b:=by unfold f_;exact qB _ (List.mem_map_of_mem r)
   have y:x.tail∈f_ b:=by unfold f_;exact iR _ (List.mem_map_of_mem r)
   refine⟨⟨w,λz l=>?_⟩,↥x,?_⟩
   .rcases(Fk m x z).mp l with h|h|h
    .exact g z h
    .rw[h];exact t
    .rw[h];exact y
   .have few:∀{q:List (Tx×Int)},(ks q).Nodup->(∀z∈ks q,z∈f_ b)->q.length<=200:=λ{q} n s=>by
     have:=len_sub n s;unfold f_ at this;simp at this;lia
    have I:=few j g;have K:(1000:Nat)<=b8:=by decide
    have F:=Dp (i:=1) (n:=0) (Es W m x) rfl;have e1:d2 bB (iN 1 vi (dC (.int 0))) (dC (.int 1)) (iD W m (↥x))=.ok (.int ((bC m x.dropLast).getD 0+1)) (iD W m (↥x)):=by unfold d2;rw[F,R.bind_ok];rfl
    have p:=Em (i:=1) e1 (Es W m x) ⟨_,rfl⟩ rfl (m:=m) ∅;generalize f:c9 m x.dropLast ((bC m x.dropLast).getD 0+1)=q at p;have v:(ks q).Nodup:=by rw[<-f];exact p8 j
    have u:∀z∈ks q,z∈f_ b:=λz l=>by
     have:(bC q z).isSome=ah:=by rw[BH];exact decide_eq_true l
     rw[<-f,mU]at this;by_cases c:z=x.dropLast
     .rw[c];exact t
     .rw[if_neg c,BH,decide_eq_true_eq]at this;exact g z this
    have H:=few v u;have E:=Dp (i:=1) (n:=0) (HJ W q x) rfl;have G:d2 iO (iN 1 sT (dC (.int 0))) (dC (.int 1)) (iD W q (↥x))=.ok (.int ((bC q x.tail).getD 0-1)) (iD W q (↥x)):=by unfold d2;rw[E,R.bind_ok];rfl
    have d:=Em (i:=1) G (HJ W q x) ⟨_,rfl⟩ rfl (m:=q) ∅;show xB (iD W m (↥x))=_;unfold xB;refine(dZ p).trans ?_;refine Eq.trans (show fH 1 sT _ _=_ from d) ?_;unfold lB;rw[f];rfl)
 have o:yar a [.val W,.none,.none]=.ok (.ret (.own (.dK (dk (i_ b))))) [.val W,.none,d]:=by
  rw[Ou];refine(dZ (show eR 1 si [.val W,.none,.none]=.ok .next (iD W [] .none)from rfl)).trans ?_;have B:d7 2 (bW (dV 0)) xB (iD W [] .none)=.ok .next (iD W (i_ b) d):=by
   unfold d7;have:bW (dV 0) (iD W [] .none)=.ok (ao b) (iD W [] .none):=by unfold bW;show(R.ok W _).bind _=_;rw[R.bind_ok,C];rfl
   rw[this,R.bind_ok];exact e
  refine(dZ (d1:=λε=>dD (d7 2 (bW (dV 0)) xB ε)) (by show dD _=_;rw[B];rfl)).trans ?_;exact Fj rfl
 unfold w6;generalize yar a=D at o;generalize dk (i_ b)=A at o;simp[bp,et,bu,bO,o,back,aF,R.bind,fk]
end
theorem Oi{a:ak}{i:Nat}{s:Slot}(h:a[i]?=aa s):a.set i s=a:=by
 apply vP;intro j;by_cases b:i=j
 .subst b;rw[gB (dR.mp h).1,h]
 .rw[eU b]
theorem HP{b:Type}{d:ak->R b}{x:PV}{ε:ak}{i:Nat}{a:PO}{r:b}(c:ε[i]?=aa (.own a))(f:d [.val x,.own a]=.ok r [.val x,.own a]):dW (gz [i] d x ε)=.ok r ε:=by simp[gz,gF,c,dW,R.bind,aF,cI,eu,f,fg,fJ,fz,Oi c]
section
variable{a:Ad}
def f2(a:Ad):ak->R aP:=cu 2 (dF (dX [1] (bW (dF (SY 1))) (dB (d2 (fh λi j=>decide (j<i)) (nH 1 (dV 0)) (dC (.int 0)))) (dV 0)))
def f3:ak->R aP:=cS (dB (d2 (fh λi j=>decide (j<i)) (dL bw (aq (dV 2) (aC))) (dC (.int 1)))) (ce (dL bP (aq (dC (.str [116,119,111])) (aq (d2 bG (dV 2) (dC (.int 0))) (aq (d2 bG (dV 2) (dC (.int 1))) (aC)))))) (d8)
def f4:ak->R aP:=cS (xj (dB (d2 (eqT aj) (dL bw (aq (dV 2) (aC))) (dC (.int 1)))) (dB (d2 (fh λi j=>decide (j<i)) (nH 1 (d2 bG (dV 2) (dC (.int 0)))) (dC (.int 1))))) (ce (dL bP (aq (dC (.str [109,111,114,101])) (aq (d2 bG (dV 2) (dC (.int 0))) (aC))))) (d8)
theorem JF{G:ak->R Slot}{W:PV}{ε:ak}{i:Nat}{b:PO}(f:ε[0]?=aa (.val W))(d:G [.val W]=.ok (.own b) [.val W])(c:i<ε.length):eR i (ki (bd G (gV (dV 0) (Pu.bJ)))) ε=.ok .next (ε.set i (.own b)):=by simp[eR,ki,bd,gV,Pu.bJ,dV,f,R.bind,aF,cI,eu,d,fg,fJ,fz,uY,c]
theorem PH(y:Tx)(r:List Tx):bG (.lst (ao (y::r))) (.int 0)=aa (.str y):=by show gw (.str y::ao r) 0=_;rw[yg (by decide) (by simp)];rfl
end
theorem EU{v:Nat}:∀{ls:List Tx},(∀y∈ls,y.length=v+1)->∀y,exc ls y=(oc v ls y:Int)-(ic ls y:Int)
 |[],_,y=>rfl
 |x::ls,h,y=>by
  have a:=EU (λz b=>h z (by simp[b])) (ls:=ls) y;have c:x.take v=x.dropLast:=by rw[Jo,h x (by simp)];rfl
  have e:exc (x::ls) y=b1 (x.dropLast=y)-b1 (x.tail=y)+exc ls y:=by simp[exc]
  rw[e,a];unfold oc ic b1;simp only[cn,iu,c];split <;> split <;> lia
section
variable{v:Nat}
def covW(v:Nat)(ts:List Tx):List Tx:=ts.flatMap λt=>aV t (v+1)
structure Cov(v:Nat)(ts M:List Tx):Prop where
 long:∀t∈ts,v<t.length
 perm:(covW v ts).Perm M
theorem covW_cons(t:Tx)(ts:List Tx):covW v (t::ts)=aV t (v+1)++covW v ts:=rfl
theorem covW_app(b a:List Tx):covW v (b++a)=covW v b++covW v a:=by unfold covW;rw[Jn]
theorem grow_many{M:List Tx}(X:∀x∈M,x.length=v+1)(H:xw v M):∀(n:Nat) (b R:List Tx),R.length<=n->b≠[]->(∀t∈b,v<t.length)->(covW v b++R).Perm M->(∀y,oc v R y=ic R y)->∃g,g.length=b.length/\Cov v g M:=by
 intro n
 induction n with
 |zero=>intro b R T _ d f _;rw[oh.mp (show R.length=0 by lia),fW]at f;exact⟨b,rfl,d,f⟩
 |succ n P=>
  intro b R T bT d f B;by_cases L:R=[]
  .rw[L,fW]at f;exact⟨b,rfl,d,f⟩
  .obtain⟨I,J⟩:=C_ R L;obtain⟨w,h⟩:=C_ b bT;have F:∀t∈b,∀x∈aV t (v+1),x∈M:=λt d x a=>f.mem_iff.mp (qB _ (C5.mpr ⟨t,d,a⟩));have o:∃t∈b,∃i,i+v<=t.length/\∃x∈R,x.take v=gr t v i\/x.tail=gr t v i:=by
    refine Jr λno=>?_;have r:∀t∈b,∀i,i+v<=t.length->∀x∈R,¬(x.take v=gr t v i\/x.tail=gr t v i):=λt d i l x a q=>no ⟨t,d,i,l,x,a,q⟩;have:=H (λy=>∃t∈b,∃i,i+v<=t.length/\gr t v i=y)
     ⟨gr w (v+1) 0,F w h _ (Ur.mpr ⟨0,by have:=d w h;lia,rfl⟩),w,h,0,by have:=d w h;lia,by rw[uw]⟩
     (λx a q=>by
      rcases jm.mp (f.mem_iff.mpr a)with a|a
      .obtain⟨t,m,Y⟩:=C5.mp a;obtain⟨j,hj,rfl⟩:=Ur.mp Y;exact⟨⟨t,m,j,∅,by rw[uw]⟩,⟨t,m,j+1,∅,by rw[AL]⟩⟩
      .rcases q with⟨t,m,i,l,e⟩|⟨t,m,i,l,e⟩
       .exact absurd (.inl e.symm) (r t m i l x a)
       .exact absurd (.inr e.symm) (r t m i l x a))
     I (f.mem_iff.mp (iR _ J))
    obtain⟨t,m,i,l,e⟩:=this;exact r t m i l I J (.inl e.symm)
   obtain⟨t,A,i,l,x,a,S⟩:=o;have O:0<oc v R (gr t v i):=by
    rcases S with q|q
    .exact Uo.mpr ⟨x,a,q⟩
    .rw[B];exact UJ.mpr ⟨x,a,q⟩
   have G:∀x∈R,x.length=v+1:=λx a=>X x (f.mem_iff.mp (iR _ a));obtain⟨c,R2,c1,c2,D,c4,c5,c6⟩:=HC G B (p:=gr t v i) (by unfold gr;simp;lia);have K:R2.length<R.length:=by
    have W:=D.length_eq;rw[cL]at W;rcases vW (aV c (v+1)).length with z|z
    .rw[oh.mp z,iq]at D;obtain⟨y,Q,e⟩:=Uo.mp O;exact absurd e (c5 y (D.mem_iff.mpr Q))
    .lia
   obtain⟨C,d1,d2,d3,N⟩:=OP l c2 c1 c4;obtain⟨E,bs,rfl⟩:=List.append_of_mem A;have bh:v<C.length:=by have:=N.length_eq;have h0:=d t A;rw[cL,sJ ∅,sJ ∅]at this;lia
   have fF:(covW v (E++C::bs)++R2).Perm M:=by
    refine TY.trans ?_ f;rw[covW_app,covW_app,covW_cons,covW_cons];have e1:(covW v E++(aV C (v+1)++covW v bs)++R2).Perm (covW v E++(aV t (v+1)++aV c (v+1)++covW v bs)++R2):=((N.append_right _).append_left _).append_right _;refine e1.trans ?_;have e2:(aV c (v+1)++(covW v bs++R2)).Perm (covW v bs++R):=by refine TY.trans ?_ (D.append_left (covW v bs));rw[<-eG,<-eG];exact List.perm_append_comm.append_right _
    simp only[eG];exact(e2.append_left _).append_left _
   obtain⟨g,g1,Z⟩:=P (E++C::bs) R2 ∅ (by simp) (λu s=>by
    rcases jm.mp s with s|s
    .exact d u (by simp[s])
    .rcases bE.mp s with rfl|s
     .exact bh
     .exact d u (by simp[s])) fF c6
   exact⟨g,by rw[g1];simp,Z⟩
def pS(v:Nat)(K M:List Tx):Nat:=(K.map λy=>oc v M y-ic M y).sum
theorem sum_one{K:List Tx}(b:K.Nodup){f g:Tx->Nat}{s:Tx}(d:s∈K)(i:f s=g s+1)(c:∀y∈K,y≠s->f y=g y):(K.map f).sum=(K.map g).sum+1:=by
 induction K with
 |nil=>cases d
 |cons x K h=>
  rw[kx]at b;rw[cn,cn,iu,iu];by_cases e:s=x
  .subst e;rw[i,gC λy a=>c y (by simp[a]) λz=>b.1 (z ▸ a)];lia
  .rw[c x (by simp) (λz=>e z.symm),h b.2 ((bE.mp d).resolve_left e) λy a=>c y (by simp[a])];lia
theorem sum_pos{K:List Tx}{f:Tx->Nat}(h:0<(K.map f).sum):∃y∈K,0<f y:=by
 induction K with
 |nil=>simp at h
 |cons x K a=>
  rw[cn,iu]at h;rcases vW (f x)with z|z
  .obtain⟨y,c,b⟩:=a ∅;exact⟨y,by simp[c],b⟩
  .exact⟨x,by simp,z⟩
theorem sum_zero{K:List Tx}{f:Tx->Nat}(h:(K.map f).sum=0):∀y∈K,f y=0:=λy a=>by
 induction K with
 |nil=>cases a
 |cons x K b=>
  rw[cn,iu]at h;rcases bE.mp a with rfl|a
  .lia
  .exact b ∅ a
theorem sum_le{K:List Tx}{f g:Tx->Nat}(h:∀y∈K,f y<=g y):(K.map f).sum<=(K.map g).sum/\((K.map f).sum=(K.map g).sum->∀y∈K,f y=g y):=by
 induction K with
 |nil=>simp
 |cons x K b=>
  have i:=h x (by simp);obtain⟨d,c⟩:=b λy a=>h y (by simp[a]);rw[cn,cn,iu,iu];refine⟨∅,λe y a=>?_⟩;rcases bE.mp a with rfl|a
  .lia
  .exact c ∅ y a
theorem sum_addN{K:List Tx}(f g:Tx->Nat):(K.map λy=>f y+g y).sum=(K.map f).sum+(K.map g).sum:=by
 induction K with
 |nil=>rfl
 |cons x K a=>rw[cn,cn,cn,iu,iu,iu,a];lia
theorem one_sumN{K:List Tx}(a:K.Nodup)(s:Tx):(K.map λy=>b2 (s=y)).sum=if s∈K then 1 else 0:=by
 induction K with
 |nil=>rfl
 |cons x K b=>
  rw[kx]at a;rw[cn,iu,b a.2];by_cases e:s=x
  .subst e;rw[if_neg a.1];simp[b2]
  .simp[b2,e]
theorem zsum:∀K:List Tx,(K.map λ_=>0).sum=0
 |[]=>rfl
 |x::K=>by rw[cn,iu,zsum K]
theorem oc_sum{K:List Tx}(a:K.Nodup):∀{M:List Tx},(∀x∈M,x.take v∈K)->(K.map (oc v M)).sum=M.length
 |[],_=>by exact zsum K
 |x::M,h=>by
  have b:=oc_sum a (M:=M) λy c=>h y (by simp[c]);have e:(K.map (oc v (x::M)))=K.map λy=>b2 (x.take v=y)+oc v M y:=gC λy _=>by simp[oc,b2]
  rw[e,sum_addN,one_sumN a,if_pos (h x (by simp)),b,d_];lia
theorem ic_sum{K:List Tx}(a:K.Nodup):∀{M:List Tx},(∀x∈M,x.tail∈K)->(K.map (ic M)).sum=M.length
 |[],_=>by exact zsum K
 |x::M,h=>by
  have b:=ic_sum a (M:=M) λy c=>h y (by simp[c]);have e:(K.map (ic (x::M)))=K.map λy=>b2 (x.tail=y)+ic M y:=gC λy _=>by simp[ic,b2]
  rw[e,sum_addN,one_sumN a,if_pos (h x (by simp)),b,d_];lia
theorem bal_of{K M:List Tx}(d:K.Nodup)(c:∀x∈M,x.take v∈K/\x.tail∈K)(h:pS v K M=0)(y:Tx):oc v M y=ic M y:=by
 by_cases b:y∈K
 .have l:=sum_zero h;have:=(sum_le (K:=K) (f:=oc v M) (g:=ic M) λy b=>by have:=l y b;lia).2 (by rw[oc_sum d λx a=>(c x a).1,ic_sum d λx a=>(c x a).2]);exact this y b
 .have j:oc v M y=0:=by
   rcases vW (oc v M y)with z|z
   .exact z
   .obtain⟨x,a,e⟩:=Uo.mp z;exact absurd (e ▸ (c x a).1) b
  have i:ic M y=0:=by
   rcases vW (ic M y)with z|z
   .exact z
   .obtain⟨x,a,e⟩:=UJ.mp z;exact absurd (e ▸ (c x a).2) b
  rw[j,i]
theorem trails{K:List Tx}(m:K.Nodup):∀(p:Nat) (M:List Tx),(∀x∈M,x.length=v+1)->(∀x∈M,x.take v∈K/\x.tail∈K)->pS v K M=p -> ∃b R,b.length=p/\(∀t∈b,v<t.length)/\(covW v b++R).Perm M/\∀y,oc v R y=ic R y
 |0,M,hM,hK,h=>⟨[],M,rfl,(λt D=>by cases D),.refl _,bal_of m hK h⟩
 |p+1,M,hM,hK,h=>by
  obtain⟨s,E,Y⟩:=sum_pos (K:=K) (f:=λy=>oc v M y-ic M y) (by have:(K.map λy=>oc v M y-ic M y).sum=p+1:=h;lia);obtain⟨B,C,J⟩:=Uo.mp (show 0<oc v M s by lia);have Z:s.length=v:=by rw[<-J,jZ,hM B C];lia
  have I:aV s (v+1)=[]:=oh.mp (by rw[sJ ∅];lia);obtain⟨t,R,r,W,j,T⟩:=zP hM M.length s M rfl ∅ (by rw[I];exact .refl _);rw[show s.take v=s from ip ∅]at r;have l:oc v R (en v t)=0:=by
   rcases vW (oc v R (en v t))with q|q
   .exact q
   .obtain⟨x,H,G⟩:=Uo.mp q;exact absurd G (T x H)
  have a:∀y,oc v M y+b2 (en v t=y)+ic R y=ic M y+b2 (s=y)+oc v R y:=λy=>by have O:=xR W y;have N:=wX (v:=v) j y;have L:=wY j y;rw[xI]at N;rw[yr]at L;rw[r]at O;lia
  have A:en v t≠s:=λe=>by have:=a s;rw[e]at l this;rw[l]at this;lia
  have P:v<t.length:=by
   rcases Nat.lt_or_ge v t.length with z|z
   .exact z
   .exfalso;refine A ?_;have:t.length=v:=∅
    rw[<-r];show t.drop (t.length-v)=t.take v;rw[this,CM,pe,ip ∅]
  have w:∀x∈R,x∈M:=λx d=>j.mem_iff.mp (iR _ d);have i:pS v K R=p:=by
   have:=sum_one m (f:=λy=>oc v M y-ic M y) (g:=λy=>oc v R y-ic R y) E (by
    have c:=a s;unfold b2 at c;rw[if_neg A,if_pos rfl]at c;show oc v M s-ic M s=oc v R s-ic R s+1;lia) (λy hy F=>by
    have c:=a y;unfold b2 at c;rw[if_neg (show ¬s=y from λz=>F z.symm)]at c;show oc v M y-ic M y=oc v R y-ic R y;by_cases e:en v t=y
    .rw[if_pos e]at c;rw[e]at l;lia
    .rw[if_neg e]at c;lia)
   have h':(K.map λy=>oc v M y-ic M y).sum=p+1:=h;show(K.map λy=>oc v R y-ic R y).sum=p;lia
  obtain⟨b,X,b1,o,S,Q⟩:=trails m p R (λx d=>hM x (w x d)) (λx d=>hK x (w x d)) i;refine⟨t::b,X,by simp[b1],λu n=>?_,?_,Q⟩
  .rcases bE.mp n with rfl|n
   .exact P
   .exact o u n
  .rw[covW_cons,eG];exact(S.append_left _).trans j
theorem cov_few{K M:List Tx}(j:K.Nodup)(b:∀x∈M,x.length=v+1)(n:∀x∈M,x.take v∈K/\x.tail∈K)(c:xw v M)(r:M≠[]):∃a,a.length=max 1 (pS v K M)/\Cov v a M:=by
 cases m:pS v K M with
 |zero=>
  have h:=bal_of j n m;obtain⟨x,l⟩:=C_ M r;obtain⟨t,R,D,C,i,B,A,y⟩:=HC b h (p:=x.take v) (by rw[jZ,b x l];lia);have q:v<t.length:=by
   rcases Nat.lt_or_ge v t.length with z|z
   .exact z
   .exfalso;have:aV t (v+1)=[]:=oh.mp (by rw[sJ ∅];lia);rw[this,iq]at i;exact A x (i.mem_iff.mpr l) rfl
  obtain⟨a,g,f⟩:=grow_many b c R.length [t] R (aY _) (by simp) (λu o=>by rw[fe.mp o];exact q) (by rw[covW_cons];simpa[covW]using i) y;exact⟨a,by rw[g];rfl,f⟩
 |succ p=>obtain⟨a,R,b1,b2,w,s⟩:=trails j (p+1) M b n m;obtain⟨d,g,f⟩:=grow_many b c R.length a R (aY _) (by rintro rfl;simp at b1) b2 w s;exact⟨d,by rw[g,b1];lia,f⟩
theorem pS_app(K M N:List Tx):pS v K (M++N)<=pS v K M+pS v K N:=by unfold pS;rw[<-sum_addN];exact(sum_le λy _=>by rw[xI,yr];lia).1
theorem pS_text{K:List Tx}(b:K.Nodup){t:Tx}(h:v<=t.length):pS v K (aV t (v+1))<=1:=by have a:pS v K (aV t (v+1))<=(K.map λy=>b2 (t.take v=y)).sum:=(sum_le λy _=>by have:=xR h y;lia).1;rw[one_sumN b]at a;split at a <;> lia
theorem pS_cov{K:List Tx}(a:K.Nodup):∀{ts:List Tx},(∀t∈ts,v<t.length)->pS v K (covW v ts)<=ts.length
 |[],_=>by show pS v K []<=0;have:pS v K []=(K.map λ_=>0).sum:=rfl;rw[this,zsum];exact aY _
 |t::ts,h=>by have f:=pS_cov a (ts:=ts) λu b=>h u (by simp[b]);have d:=pS_text a (t:=t) (v:=v) (by have:=h t (by simp);lia);have c:=pS_app (v:=v) K (aV t (v+1)) (covW v ts);rw[covW_cons,d_];lia
theorem pS_perm{K M N:List Tx}(h:M.Perm N):pS v K M=pS v K N:=by unfold pS;rw[gC λy _=>by rw[wX h,wY h]]
structure Min(v:Nat)(M:List Tx)(k:Nat):Prop where
 ex:∃ts,ts.length=k/\Cov v ts M
 low:∀ts,Cov v ts M->k<=ts.length
theorem Min.uniq{M:List Tx}{k j:Nat}(b:Min v M k)(a:Min v M j):k=j:=by obtain⟨d,g,f⟩:=b.ex;obtain⟨c,b1,b2⟩:=a.ex;have:=b.low c b2;have:=a.low d f;lia
theorem min_conn{K M:List Tx}(c:K.Nodup)(f:∀x∈M,x.length=v+1)(g:∀x∈M,x.take v∈K/\x.tail∈K)(a:xw v M)(d:M≠[]):Min v M (max 1 (pS v K M)):=by
 refine⟨cov_few c f g a d,λb h=>?_⟩;have i:=pS_cov c h.long;rw[pS_perm h.perm]at i;have j:1<=b.length:=by
  cases b with
  |nil=>have:=h.perm;exact absurd (List.nil_perm.mp this) d
  |cons=>simp
 lia
theorem min_nil:Min v [] 0:=⟨⟨[],rfl,(λt a=>by cases a),.refl _⟩,λ_ _=>j4 _⟩
theorem min_parts{ks M:List Tx}(N:∀x∈M,x.length=v+1)(E:∀x∈M,x.take v∈ks\/x.tail∈ks->x.take v∈ks/\x.tail∈ks){k j:Nat}(r:Min v (M.filter λx=>decide (x.take v∈ks)) k)(o:Min v (M.filter λx=>!decide (x.take v∈ks)) j):Min v M (k+j):=by
 have I:(M.filter (λx=>decide (x.take v∈ks))++M.filter (λx=>!decide (x.take v∈ks))).Perm M:=Js _ _;obtain⟨A,H,s⟩:=r.ex;obtain⟨w,b1,b2⟩:=o.ex;refine⟨⟨A++w,by simp[H,b1],λt b=>?_,?_⟩,λa h=>?_⟩
 .rcases jm.mp b with z|z
  .exact s.long t z
  .exact b2.long t z
 .rw[covW_app];exact(s.perm.append b2.perm).trans I
 .have d:∀t∈a,∀x∈aV t (v+1),(x.take v∈ks↔t.take v∈ks):=λt b x c=>by
   obtain⟨j,L,rfl⟩:=Ur.mp c;rw[uw];have step:∀i,i+(v+1)<=t.length->(gr t v i∈ks↔gr t v (i+1)∈ks):=λi n=>by have C:gr t (v+1) i∈M:=h.perm.mem_iff.mp (C5.mpr ⟨t,b,Ur.mpr ⟨i,n,rfl⟩⟩);have:=E _ C;rw[uw,AL]at this;exact⟨λz=>(this (.inl z)).2,λz=>(this (.inr z)).1⟩
   have all:∀i,i+v<=t.length->(gr t v i∈ks↔t.take v∈ks):=λi=>by
    induction i with
    |zero=>intro _;simp[gr]
    |succ i l=>intro n;rw[<-step i ∅];exact l ∅
   exact all j ∅
  have f:∀(q:Tx->Bool) (a:List Tx),(∀t∈a,∀x∈aV t (v+1),q (x.take v)=q (t.take v))->(covW v a).filter (λx=>q (x.take v))=covW v (a.filter λt=>q (t.take v)):=λq a=>by
   induction a with
   |nil=>intro _;rfl
   |cons t a l=>
    intro m;rw[covW_cons,C4,l λu D=>m u (by simp[D])];cases g:q (t.take v)with
    |true=>rw[List.filter_cons_of_pos (p:=λt:Tx=>q (t.take v)) g,covW_cons,zy.mpr λx c=>by rw[m t (by simp) x c];exact g]
    |false=>rw[List.filter_cons_of_neg (p:=λt:Tx=>q (t.take v)) (by simp[g]),List.filter_eq_nil_iff.mpr λx c=>by rw[m t (by simp) x c];simp[g]];rfl
  have G:Cov v (a.filter λt=>decide (t.take v∈ks)) (M.filter λx=>decide (x.take v∈ks)):=⟨λt b=>h.long t (kZ.mp b).1,by rw[<-f (λy=>decide (y∈ks)) a λt b x c=>decide_eq_decide.mpr (d t b x c)];exact h.perm.filter _⟩
  have F:Cov v (a.filter λt=>!decide (t.take v∈ks)) (M.filter λx=>!decide (x.take v∈ks)):=⟨λt b=>h.long t (kZ.mp b).1,by rw[<-f (λy=>!decide (y∈ks)) a λt b x c=>by rw[decide_eq_decide.mpr (d t b x c)]];exact h.perm.filter _⟩
  have K:=r.low _ G;have J:=o.low _ F;have B:=(Js (λt:Tx=>decide (t.take v∈ks)) a).length_eq;rw[cL]at B;lia
end
theorem drop_take{v:Nat}{x:Tx}(h:x.length=v+1):x.dropLast=x.take v:=by rw[Jo,h];rfl
theorem conn_part{v:Nat}{x:Tx}{r ks:List Tx}(w:∀y∈x::r,y.length=v+1)(h:Rch (x::r) ks)(l:∀y∈x::r,y.dropLast∈ks\/y.tail∈ks->y.dropLast∈ks/\y.tail∈ks):xw v ((x::r).filter λy=>decide (y.take v∈ks)):=by
 have j:∀y∈x::r,y.take v=y.dropLast:=λy a=>(drop_take (w y a)).symm;have p:∀y,y∈((x::r).filter λy=>decide (y.take v∈ks))↔y∈x::r/\y.dropLast∈ks:=λy=>by
  rw[kZ];constructor
  .rintro⟨f,d⟩;exact⟨f,by rw[<-j y f];exact of_decide_eq_true d⟩
  .rintro⟨f,d⟩;exact⟨f,decide_eq_true (by rw[j y f];exact d)⟩
 intro V ⟨y,a,s⟩ t z u;have i:=(p y).mp a;have g:=(p z).mp u;rw[j y i.1]at s;rw[j z g.1];have o:∀y∈x::r,y.dropLast∈ks->V y.dropLast\/V y.tail->V y.dropLast/\V y.tail:=λy f d q=>by have:=t y ((p y).mpr ⟨f,d⟩);rw[j y f]at this;exact this q
 by_cases c:V x.dropLast
 .exact h.least (λq=>q∈ks->V q) (λy a q=>by
   refine⟨λn=>?_,λn=>?_⟩
   .have b:=l y a (.inl n);rcases q with q|q
    .exact q n
    .exact(o y a n (.inr (q b.2))).1
   .have b:=l y a (.inr n);rcases q with q|q
    .exact(o y a b.1 (.inl (q b.1))).2
    .exact q n) (λ_ _ e=>by cases e;exact λ_=>c) _ g.2 g.2
 .have:=h.least (λq=>q∈ks->¬V q) (λy a q=>by
   refine⟨λn m=>?_,λn m=>?_⟩
   .have b:=l y a (.inl n);have d:=o y a n (.inl m);rcases q with q|q
    .exact q n m
    .exact q b.2 d.2
   .have b:=l y a (.inr n);have d:=o y a b.1 (.inr m);rcases q with q|q
    .exact q b.1 d.1
    .exact q n m) (λ_ _ e=>by cases e;exact λ_=>c) _ i.2 i.2
  exact absurd s this
section
variable{a:Ad}
theorem vals_dk:∀m:List (Tx×Int),oG (dk m)=aa (m.map (·.2))
 |[]=>rfl
 | (x,n)::m=>by show(oG (dk m)).map (n::·)=_;rw[vals_dk m];rfl
theorem dk_exc(b:List Tx):(i_ b).map (·.2)=(ks (i_ b)).map (exc b):=by
 have c:=Hj b;have d:∀y,(bC (i_ b) y).getD 0=exc b y:=RL b;generalize i_ b=m at c d;have:∀p∈m,p.2=exc b p.1:=λp f=>by rw[<-d];obtain⟨k,n⟩:=p;have:=(KP c).mpr f;rw[this];rfl
 show _=(m.map (·.1)).map _;rw[eJ];exact gC this
theorem pos_sum(K:List Tx)(f g:Tx->Nat):(((K.map λy=>(f y:Int)-(g y:Int)).filter λn=>decide (0<n))).sum=((K.map λy=>f y-g y).sum:Nat):=by
 induction K with
 |nil=>rfl
 |cons y K b=>
  rw[cn,cn,iu];by_cases h:0<(f y:Int)-(g y:Int)
  .rw[List.filter_cons_of_pos (by simpa using h),iu,b];lia
  .rw[List.filter_cons_of_neg (by simpa using h),b];lia
theorem ints_dP(l:List Int):sA.intsQ (l.map .int)=aa l:=by
 induction l with
 |nil=>rfl
 |cons i l b=>show(sA.intsQ (l.map .int)).map (i::·)=_;rw[b];rfl
def fewK(b:List Tx):List Tx:=ks (i_ b)
theorem few_ret{m:List (aD×PV)}{b:List Int}(g:oG m=aa b){W:PV}{s:Int}(c:sA [.lst ((b.filter λn=>decide (0<n)).map .int)]=aa (.int s)){r:PV}(d:sE [.int 1,.int s]=aa r):(ce (dL sE (aq (dC (.int 1)) (aq (dL sA (aq (dF (qe 1)) (aC))) (aC))))) [.val W,.own (.dK m)]=.ok (.ret (.val r)) [.val W,.own (.dK m)]:=by
 have f:qe 1 [.val W,.own (.dK m)]=.ok (.lst ((b.filter λn=>decide (0<n)).map .int)) [.val W,.own (.dK m)]:=by unfold qe;show(aF (aa m) _).bind _=_;simp only[b_,R.bind_ok,g]
 generalize ((b.filter λn=>decide (0<n)).map PV.int)=LL at c f;generalize PV.int s=SS at c d;generalize PV.int 1=C1 at d ⊢;generalize qe 1=DP at f;simp![f,c,d]
theorem grd_ret11{d:ak->R aP}{b:PV}{c e1:Slot}(h:d [.val b,.none]=.ok (.ret c) [.val b,e1])(f:(match c with|.own o=>fk o|_=>ah)=ah):bp 1 [] (bu 1 d) [.val b]=.ok c [.val b]:=by simp[bp,et,bu,bO,h,back,aF,R.bind]
theorem fewest_for_eq{v:Nat}(b:List Tx)(h:∀y∈b,y.length=v+1)(c:b.length<=100):yR a [.val (.lst (ao b))]=.ok (⇑((max 1 (pS v (fewK b) b):Nat):Int)) [.val (.lst (ao b))]:=by
 have d:=RW (a:=a) (.lst (ao b)) b c rfl;have f:sA [.lst ((((i_ b).map (·.2)).filter λn=>decide (0<n)).map .int)]=aa (.int ((pS v (fewK b) b:Nat):Int)):=by show(sA.intsQ _).map _=_;rw[ints_dP];show aa (PV.int _)=_;rw[dk_exc,gC λy _=>EU h y,pos_sum];rfl
 have g:sE [.int 1,.int ((pS v (fewK b) b:Nat):Int)]=aa (.int ((max 1 (pS v (fewK b) b):Nat):Int)):=by show aa (PV.int (if((pS v (fewK b) b:Nat):Int) > 1 then _ else _))=_;congr 2;split <;> lia
 refine grd_ret11 (e1:=.own (.dK (dk (i_ b)))) ?_ rfl;unfold yas;refine(dZ (JF (i:=1) (ε:=[.val (.lst (ao b)),.none]) rfl d (by simp))).trans ?_;exact few_ret (vals_dk _) f g
def ftC:ak->R Bool:=(dB (d2 (fh λi j=>decide (j<i)) (dL bw (aq (dV 1) (aC))) (dC (.int 0))))
def ftB(a:Ad):ak->R aP:=(aS (eR 3 (ki (bd (uV a) (gV (dV 1) (Pu.bJ))))) (aS (cu 2 (d2 bB (dV 2) (bA (bd (yR a) (gV (dF (dX [3] (bW (dV 1)) (dB (gx aj 1 (bR bV (dV 0) (bZ) (bx (d1 cG (dC (.int 1))))))) (dV 0))) (Pu.bJ)))))) (cu 1 (dF (dX [3] (bW (dV 1)) (dB (gx ah 1 (bR bV (dV 0) (bZ) (bx (d1 cG (dC (.int 1))))))) (dV 0))))))
def hdB(neg:Bool)(ks:List Tx):PV->Bool
 |.str y=>neg^^decide (y.dropLast∈ks)
 |_=>aj
theorem hd_comp(neg:Bool)(W:PV)(c ks:List Tx)(j:g9 W=aa (ao c))(V d:Slot):dF (dX [3] (bW (dV 1)) (dB (gx neg 1 (bR bV (dV 0) (bZ) (bx (d1 cG (dC (.int 1))))))) (dV 0)) [V,.val W,d,.own (.dK (c8 ks))]=.ok (.lst (ao (c.filter λy=>neg^^decide (y.dropLast∈ks)))) [V,.val W,d,.own (.dK (c8 ks))]:=by
 have b:=pQ (cap:=[3]) (dt:=dB (gx neg 1 (bR bV (dV 0) (bZ) (bx (d1 cG (dC (.int 1))))))) (de:=dV 0) (ε:=[V,.val W,d,.own (.dK (c8 ks))]) (hdB neg ks) (λx=>x) (ao c)
  (by
   intro x l;obtain⟨y,_,rfl⟩:=cJ.mp l;refine⟨HP (i:=3) rfl ?_,λ_=>HP (i:=3) rfl rfl⟩;have p:bR bV (dV 0) (bZ) (bx (d1 cG (dC (.int 1)))) [↥y,.own (.dK (c8 ks))]=.ok (.str y.dropLast) [↥y,.own (.dK (c8 ks))]:=by have g:cG (.int 1)=aa (.int (-1)):=rfl;have f:=yO y;generalize y.dropLast=YD at f;generalize PV.int 1=C1 at g;simp![bR,bx,bZ,g,f]
   have o:=AM (neg:=neg) (i:=1) (ks:=ks) p rfl;unfold dB;rw[o];rfl) []
 have m:((ao c).filter (hdB neg ks)).map (λx=>x)=ao (c.filter λy=>neg^^decide (y.dropLast∈ks)):=by rw[List.map_id'];unfold ao;rw[C6];rfl
 rw[iq,m]at b;generalize ao (c.filter λy=>neg^^decide (y.dropLast∈ks))=FF at b;generalize (dB (gx neg 1 (bR bV (dV 0) (bZ) (bx (d1 cG (dC (.int 1)))))))=DT at b;generalize n:(dV 0:ak->R PV)=DE at b;generalize ao c=PL at b j;generalize c8 ks=DK at b;have h:bW (dV 1) [V,.val W,d,.own (.dK DK)]=.ok PL [V,.val W,d,.own (.dK DK)]:=by simp[bW,dV,R.bind,aF,j]
 generalize bW (dV 1)=DI at h;simp[dF,dX,h,b,R.bind,oP,aF]
theorem ft_cond{W:PV}{n:Nat}(d:bw [W]=aa (.int n))(V c b:Slot):ftC [V,.val W,c,b]=.ok (decide (0<n)) [V,.val W,c,b]:=by have:decide ((0:Int)<(n:Nat))=decide (0<n):=decide_eq_decide.mpr ∅;rw[<-this];generalize ((n:Nat):Int)=NN at d;simp![ftC,d]
theorem ft_while{v:Nat}(V:Slot):∀(n:Nat) (d:List Tx) (W:PV) (c j:Nat) (g:Slot),d.length<=n->n<j->d.length<=20->(∀y∈d,y.length=v+1)->g9 W=aa (ao d)->bw [W]=aa (.int (d.length:Nat))->(∀x r,d=x::r->bG W (.int 0)=aa (.str x)) -> ∃k T Q,Min v d k/\gc ftC (ftB a) j [V,.val W,⇑c,g]=.ok .next [V,.val T,⇑((c+k:Nat):Int),Q]:=by
 intro n
 induction n with
 |zero=>
  intro d W c j g Y hf _ o E G _;obtain⟨f,rfl⟩:∃f,j=f+1:=⟨j-1,∅⟩
  have e:d=[]:=lf ∅;subst e;refine⟨0,W,g,min_nil,?_⟩;have p:=ft_cond G V (⇑c) g;exact yC p
 |succ n ih=>
  intro d W c j g Y hf P o E G L;obtain⟨f,rfl⟩:∃f,j=f+1:=⟨j-1,∅⟩
  cases d with
  |nil=>refine⟨0,W,g,min_nil,?_⟩;have p:=ft_cond G V (⇑c) g;exact yC p
  |cons x r=>
   have p:=ft_cond G V (⇑c) g;rw[decide_eq_true (by simp)]at p;simp only[d_]at Y P;obtain⟨ks,hR,X,B⟩:=R7 (a:=a) W x r ∅ E (L x r rfl);have D:∀y∈x::r,y.dropLast=y.take v:=λy b=>drop_take (o y b);have eA:((x::r).filter λy=>aj^^decide (y.dropLast∈ks))=(x::r).filter λy=>decide (y.take v∈ks):=List.filter_congr λy b=>by rw[D y b,CY]
   have eB:((x::r).filter λy=>ah^^decide (y.dropLast∈ks))=(x::r).filter λy=>!decide (y.take v∈ks):=List.filter_congr λy b=>by rw[D y b,tP]
   have S:=conn_part o hR X;have A:x∈(x::r).filter λy=>decide (y.take v∈ks):=kZ.mpr ⟨by simp,decide_eq_true (by rw[<-D x (by simp)];exact hR.start x r rfl)⟩;have u:∀y∈(x::r).filter (λy=>decide (y.take v∈ks)),y.length=v+1:=λy b=>o y (kZ.mp b).1;have J:∀y∈(x::r).filter (λy=>!decide (y.take v∈ks)),y.length=v+1:=λy b=>o y (kZ.mp b).1;have w:=(Js (λy:Tx=>decide (y.take v∈ks)) (x::r)).length_eq;rw[cL,d_]at w;have hA1:1<=((x::r).filter λy=>decide (y.take v∈ks)).length:=List.length_pos_of_mem A;have i:=fewest_for_eq (a:=a) ((x::r).filter λy=>decide (y.take v∈ks)) u ∅;have m:=min_conn (v:=v) (K:=fewK ((x::r).filter λy=>decide (y.take v∈ks))) (M:=(x::r).filter λy=>decide (y.take v∈ks)) (Hj _) u (λy b=>by rw[<-drop_take (u y b)];unfold fewK;rw[DB,DB];exact⟨qB _ (cJ.mpr ⟨y,b,rfl⟩),iR _ (cJ.mpr ⟨y,b,rfl⟩)⟩) S (List.ne_nil_of_mem A);generalize hkA:max 1 (pS v (fewK ((x::r).filter λy=>decide (y.take v∈ks))) ((x::r).filter λy=>decide (y.take v∈ks)))=kA at i m;have Z:kA<=20:=by
    have C:Cov v ((x::r).filter λy=>decide (y.take v∈ks)) ((x::r).filter λy=>decide (y.take v∈ks)):=⟨λt ht=>by rw[u t ht];lia,by
     have:∀l:List Tx,(∀y∈l,y.length=v+1)->covW v l=l:=λl=>by
      induction l with
      |nil=>intro _;rfl
      |cons y l H=>intro h;rw[covW_cons,H λz hz=>h z (by simp[hz]),ko _ _ ∅,h y (by simp),show v+1+1-(v+1)=1 by lia];show [(y.drop 0).take (v+1)]++l=_;rw[pe,ip (by rw[h y (by simp)];lia)];rfl
     rw[this _ u]⟩
    have:=m.low _ C;lia
   have s:=hd_comp aj W (x::r) ks E V (⇑c);have cB:=hd_comp ah W (x::r) ks E V (⇑((c+kA:Nat):Int));rw[eA]at s;rw[eB]at cB;have F:bB (.int c) (.int kA)=aa (.int ((c+kA:Nat):Int)):=by show aa (PV.int _)=_;congr 2
   obtain⟨kB,T,Q,I,hw⟩:=ih ((x::r).filter λy=>!decide (y.take v∈ks)) (.lst (ao ((x::r).filter λy=>!decide (y.take v∈ks)))) (c+kA) f (.own (.dK (c8 ks))) ∅ ∅ ∅ J rfl (by show aa (PV.int _)=_;rw[jc]) (λy l e=>by rw[e];exact PH y l);refine⟨kA+kB,T,Q,min_parts o (λy b q=>by rw[<-D y b]at q ⊢;exact X y b q) m I,?_⟩;have hb:ftB a [V,.val W,⇑c,g]=.ok .next [V,.val (.lst (ao ((x::r).filter λy=>!decide (y.take v∈ks)))),⇑((c+kA:Nat):Int),.own (.dK (c8 ks))]:=by
    unfold ftB;refine(dZ (ε1:=[V,.val W,⇑c,.own (.dK (c8 ks))]) ?_).trans ?_
    .generalize c8 ks=DK at B;simp![B]
    refine(dZ (ε1:=[V,.val W,⇑((c+kA:Nat):Int),.own (.dK (c8 ks))]) ?_).trans ?_
    .generalize (dF (dX [3] (bW (dV 1)) (dB (gx aj 1 (bR bV (dV 0) (bZ) (bx (d1 cG (dC (.int 1))))))) (dV 0)))=DA at s;generalize ao ((x::r).filter λy=>decide (y.take v∈ks))=PA at s i;generalize PV.int ((c+kA:Nat):Int)=CK at F;generalize PV.int kA=KA at F i;generalize PV.int c=CC at F s;generalize c8 ks=DK at s;generalize O:dV 2=D2;have N:D2 [V,.val W,.val CC,.own (.dK DK)]=.ok CC [V,.val W,.val CC,.own (.dK DK)]:=by rw[<-O];rfl
     simp[cu,d2,N,bA,bd,gV,Pu.bJ,s,i,F,R.bind,aF,fg,fz,cI,eu,fJ,qr]
    .exact(yx cB).trans rfl
   rw[xL p hb,hw,ph]
theorem fewest_texts_eq{w:Nat}{ls:List Tx}(g:Good bY w ls)(n:1<=w)(m:w<=4)(p:ls.Pairwise (λa b=>df a b=ah)):∃k,Min (w-1) ls k/\ur a [.val (aU w ls)]=.ok (⇑k) [.val (aU w ls)]:=by
 have i:kh a [.val (aU w ls)]=.ok (.val .non) [.val (aU w ls)]:=yw (a:=a) (g.vw n m p);have s:=g.few;obtain⟨k,l,j,q,h⟩:=ft_while (a:=a) (v:=w-1) (.val (aU w ls)) ls.length ls (.tup (ao ls)) 0 1000 .none (aY _) ∅ ∅ (λy o=>by rw[g.len y o];lia) rfl (by simp[bw,jc]) (λx r e=>by rw[e];show gw (.str x::ao r) 0=_;rw[yg (by decide) (by simp)];rfl);refine⟨k,q,?_⟩;rw[mC]at h;have f:bG (aU w ls) (.int 1)=aa (.tup (ao ls)):=rfl;have c:yat a [.val (aU w ls),.none,.none,.none]=.ok (.ret (⇑k)) [.val (aU w ls),.val l,⇑k,j]:=by show aS _ (aS _ (aS _ (aS (λd=>dD (gc ftC (ftB a) 1000 d)) (ce (dV 2))))) _=_;refine(dZ (ε1:=[.val (aU w ls),.none,.none,.none]) (by generalize aU w ls=VV at i;simp![i])).trans ?_;refine(dZ (ε1:=[.val (aU w ls),.val (.tup (ao ls)),.none,.none]) (by generalize ao ls=PL at f;generalize aU w ls=VV at f;simp![f])).trans ?_;refine(dZ (ε1:=[.val (aU w ls),.val (.tup (ao ls)),⇑0,.none]) (by rfl)).trans ?_;refine(dZ (d1:=λd=>dD (gc ftC (ftB a) 1000 d)) (ε1:=[.val (aU w ls),.val l,⇑k,j]) ?_).trans rfl;show dD (gc ftC (ftB a) 1000 [.val (aU w ls),.val (.tup (ao ls)),⇑((0:Nat):Int),.none])=_;rw[h];rfl
 unfold ur;generalize yat a=DD at c ⊢;generalize aU w ls=VV at c ⊢;generalize PV.int k=KK at c ⊢;simp[bp,et,bu,bO,c,back,fk,aF,R.bind]
end
end Sh
namespace Mx
open L2 Pu
def ovD(a w:Tx):Nat->Nat
 |0=>0
 |k+1=>if w.take (k+1) <:+ a then k+1 else ovD a w k
def ov(a w:Tx):Nat:=ovD a w (w.length-1)
def adW(a w:Tx):Tx:=w.drop (ov a w)
theorem ovD_le(a w:Tx):∀k,ovD a w k<=k
 |0=>aY _
 |k+1=>by unfold ovD;split;exact aY _;exact Nat.le_succ_of_le (ovD_le a w k)
theorem ovD_suf(a w:Tx):∀k,w.take (ovD a w k) <:+ a
 |0=>by simp[ovD]
 |k+1=>by unfold ovD;split;assumption;exact ovD_suf a w k
theorem ovD_max(a w:Tx):∀k j,j<=k->w.take j <:+ a->j<=ovD a w k
 |0,j,h,_=>h
 |k+1,j,h,hs=>by
  unfold ovD;split
  .exact h
  .rename_i b;refine ovD_max a w k j ?_ hs;rcases Nat.lt_or_eq_of_le h with h|h
   .lia
   .subst h;exact absurd hs b
theorem ov_lt{a w:Tx}(h:1<=w.length):ov a w<w.length:=by have:=ovD_le a w (w.length-1);unfold ov;lia
theorem ov_nil(w:Tx):ov [] w=0:=by have h:=ovD_suf [] w (w.length-1);have b:=ovD_le [] w (w.length-1);unfold ov;have:=List.suffix_nil.mp h;have a:=congrArg kC this;rw[jZ,j3]at a;lia
theorem adW_nil(w:Tx):adW [] w=w:=by unfold adW;rw[ov_nil];rfl
theorem adW_len(a w:Tx):(adW a w).length=w.length-ov a w:=by simp[adW]
theorem lay{a w:Tx}{n:Nat}(d:w.length=n)(c:1<=n)(g:a.length=n):∃p:Tx,1<=p.length/\a++adW a w=p++w:=by
 obtain⟨p,b⟩:=ovD_suf a w (w.length-1);have f:=ov_lt (a:=a) (w:=w) ∅;refine⟨p,?_,?_⟩
 .have:=congrArg kC b;rw[cL,jZ]at this;have h:ov a w=ovD a w (w.length-1):=rfl;lia
 .show a++w.drop (ovD a w (w.length-1))=p++w;generalize ovD a w (w.length-1)=k at b;rw[<-b,eG,my]
def chain:Tx->List Tx->Tx
 |_,[]=>[]
 |a,w::b=>adW a w++chain w b
theorem chain_len(n:Nat):∀(b:List Tx) (a:Tx),(∀x∈b,x.length=n)->(chain a b).length<=b.length*n
 |[],_,_=>by simp[chain]
 |w::b,a,h=>by have d:=h w (by simp);have f:=chain_len n b w λx c=>h x (by simp[c]);rw[chain,cL,adW_len,d,d_,Cs];lia
theorem wins_cons{n:Nat}(a:1<=n)(c:Nat)(t:Tx)(h:n<=t.length+1):aV (c::t) n=(c::t).take n::aV t n:=by rw[ko _ _ a,ko _ _ a,d_,show t.length+1+1-n=(t.length+1-n)+1 by lia,vM,cn,eJ];rfl
theorem wins_pre{n:Nat}(a:1<=n)(t:Tx)(h:n<=t.length):∀p:Tx,∃l:List Tx,aV (p++t) n=l++aV t n/\(1<=p.length->(p++t).take n∈l)/\l.length=p.length
 |[]=>⟨[],rfl,λz=>by simp at z,rfl⟩
 |c::p=>by obtain⟨l,d,_,b⟩:=wins_pre a t h p;refine⟨(c::(p++t)).take n::l,?_,λ_=>by simp,by simp[b]⟩;rw[kF,wins_cons a c (p++t) (by simp;lia),d];rfl
theorem wins_pre1{n:Nat}(a:1<=n)(t:Tx)(h:n<=t.length)(p:Tx)(b:1<=p.length):∃l:List Tx,aV (p++t) n=(p++t).take n::(l++aV t n):=by
 cases p with
 |nil=>simp at b
 |cons c p=>obtain⟨l,d,_,f⟩:=wins_pre a t h p;refine⟨l,?_⟩;rw[kF,wins_cons a c (p++t) (by simp;lia),d]
theorem chain_has{n:Nat}(c:1<=n):∀(b:List Tx) (a:Tx),a.length=n->(∀x∈b,x.length=n)->(a::b).Sublist (aV (a++chain a b) n)
 |[],a,d,_=>by rw[chain,fW,ko _ _ c,d,show n+1-n=1 by lia];show [a].Sublist [(a.drop 0).take n];rw[pe,ip ∅];exact List.Sublist.refl _
 |w::b,a,d,h=>by
  have f:=h w (by simp);have i:=chain_has c b w f λx j=>h x (by simp[j]);obtain⟨p,m,e⟩:=lay (a:=a) f c d;have g:a++chain a (w::b)=p++(w++chain w b):=by rw[chain,<-eG,e,eG]
  obtain⟨l,o⟩:=wins_pre1 c (w++chain w b) (by simp;lia) p m;rw[g,o,<-g,vV ∅,ip ∅];exact List.Sublist.cons_cons _ (i.trans (List.sublist_append_right _ _))
def Has(n:Nat)(t:Tx)(a:List Tx):Prop:=∀x,a.count x<=(aV t n).count x
theorem chain_has0{n:Nat}(c:1<=n){a b:List Tx}(h:∀x∈a,x.length=n)(p:a.Perm b):Has n (chain [] a) b:=λx=>by
 rw[<-p.count_eq];cases a with
 |nil=>simp
 |cons w a=>have:=chain_has c a w (h w (by simp)) λx d=>h x (by simp[d]);rw[chain,adW_nil];exact this.count_le x
theorem ltX_app(q x y:Tx):b9 (q++x) (q++y)=b9 x y:=by
 unfold b9;have e:(q++x<q++y)=(x<y):=by
  induction q with
  |nil=>rfl
  |cons c q a=>rw[kF,kF,List.cons_lt_cons_self];exact a
 simp only[cL,Nat.add_left_cancel_iff,Nat.add_lt_add_iff_left,e]
theorem ltX_len{x y:Tx}(h:x.length<y.length):b9 x y=ah:=by unfold b9;rw[if_neg ∅];exact decide_eq_true h
theorem ltX_lenF{x y:Tx}(h:y.length<x.length):b9 x y=aj:=by unfold b9;rw[if_neg ∅];exact decide_eq_false ∅
theorem ltX_le{x y:Tx}(h:b9 x y=aj):y.length<=x.length:=by
 cases Nat.lt_or_ge x.length y.length with
 |inl z=>rw[ltX_len z]at h;cases h
 |inr z=>exact z
theorem ltX_le_trans{x y z:Tx}(b:b9 y x=aj)(a:b9 z y=aj):b9 z x=aj:=by
 cases q:b9 z x with
 |false=>rfl
 |true=>
  cases r:b9 x y with
  |true=>have:=Bl q r;rw[a]at this;cases this
  |false=>have:=AX b r;subst this;rw[a]at q;cases q
theorem pick_sub:∀(m l:List Tx),(∀x,l.count x<=m.count x)->∃a:List Tx,a.Sublist m/\a.Perm l
 |[],l,h=>by
  have:l=[]:=by
   cases l with
   |nil=>rfl
   |cons x l=>have:=h x;simp at this
  subst this;exact⟨[],.slnil,.nil⟩
 |y::m,l,h=>by
  by_cases d:y∈l
  .obtain⟨a,c,b⟩:=pick_sub m (l.erase y) λx=>by
    have:=h x;by_cases e:y=x
    .subst e;rw[List.count_erase_self];rw[List.count_cons_self]at this;lia
    .rw[List.count_erase_of_ne (λz=>e z.symm)];rw[List.count_cons_of_ne e]at this;exact this
   exact⟨y::a,c.cons_cons y,(b.cons y).trans (Jp d).symm⟩
  .obtain⟨a,c,b⟩:=pick_sub m l λx=>by
    have:=h x;by_cases e:y=x
    .subst e;rw[List.count_eq_zero.mpr d];lia
    .rw[List.count_cons_of_ne e]at this;exact this
   exact⟨a,c.cons y,b⟩
theorem sub_at{n:Nat}(b:1<=n):∀(t:Tx) {w:Tx}{a:List Tx},(w::a).Sublist (aV t n)->∃(q r:Tx),t=q++(w++r)/\w.length=n/\a.Sublist ((aV (w++r) n).tail)
 |[],w,a,h=>by
  have:aV [] n=[]:=rfl;rw[this]at h;cases h
 |c::t,w,a,h=>by
  by_cases d:n<=t.length+1
  .rw[wins_cons b c t d]at h;cases h with
   |cons _ h=>obtain⟨q,r,e,g,f⟩:=sub_at b t h;exact⟨c::q,r,by rw[e];rfl,g,f⟩
   |cons_cons _ h=>refine⟨[],(c::t).drop n,by simp,by simp;lia,?_⟩;rw[my,wins_cons b c t d];exact h
  .have:aV (c::t) n=[]:=by rw[ko _ _ b,d_,show t.length+1+1-n=0 by lia];rfl
   rw[this]at h;cases h
theorem tail_wins{n:Nat}(b:1<=n){a r:Tx}(f:a.length=n):(aV (a++r) n).tail=aV ((a++r).drop 1) n:=by
 cases h:a++r with
 |nil=>have:=congrArg kC h;rw[cL,j3]at this;lia
 |cons c t=>have d:=congrArg kC h;rw[cL,d_]at d;rw[wins_cons b c t ∅];rfl
theorem chain_least{n:Nat}(f:1<=n):∀(b:List Tx) (a r:Tx),a.length=n->b.Sublist ((aV (a++r) n).tail)->b9 r (chain a b)=aj
 |[],a,r,_,_=>by
  unfold chain b9;split
  .rename_i e;rw[j3]at e;rw[lf e];rfl
  .exact decide_eq_false (by simp)
 |w::b,a,r,j,h=>by
  rw[tail_wins f j]at h;obtain⟨q,d,e,s,t⟩:=sub_at f _ h;have i:=chain_least f b w d s t;rw[chain];have l:∃p:Tx,1<=p.length/\a++r=p++(w++d):=by
   cases a with
   |nil=>simp at j;lia
   |cons c a=>rw[kF,II,pe]at e;exact⟨c::q,by simp,by rw[kF,e];rfl⟩
  obtain⟨p,C,g⟩:=l;have A:=congrArg kC g;simp only[cL]at A;have x:=ov_lt (a:=a) (w:=w) ∅;have B:n<=p.length+ov a w:=by
   by_cases v:n<=p.length
   .lia
   .have m:w.take (n-p.length) <:+ a:=by
     have z:a=p++w.take (n-p.length):=by have:=congrArg (List.take n) g;rw[vV ∅,ip ∅,List.take_append,ip (show p.length<=n by lia),vV ∅]at this;exact this
     exact⟨p,z.symm⟩
    have:=ovD_max a w (w.length-1) (n-p.length) ∅ m;have D:ov a w=ovD a w (w.length-1):=rfl;lia
  have o:=ltX_le i;by_cases y:p.length+ov a w=n
  .have u:r=adW a w++d:=by
    have:=congrArg (List.drop n) g;rw[vL ∅,zx ∅,iq,Jq,zx (show p.length<=n by lia),iq,vL ∅]at this;rw[this];unfold adW;congr 2;lia
   rw[u,ltX_app];exact i
  .refine ltX_lenF ?_;rw[cL,adW_len];lia
theorem chain_least0{n:Nat}(b:1<=n){a:List Tx}{t:Tx}(h:a.Sublist (aV t n)):b9 t (chain [] a)=aj:=by
 cases a with
 |nil=>
  unfold chain b9;split
  .rename_i e;rw[j3]at e;rw[lf e];rfl
  .exact decide_eq_false (by simp)
 |cons w a=>
  obtain⟨q,r,e,d,f⟩:=sub_at b t h;have:=chain_least b a w r d f;rw[chain,adW_nil,e];have g:=ltX_le this;cases q with
  |nil=>rw[iq,ltX_app];exact this
  |cons c q=>exact ltX_lenF (by simp;lia)
def leN:Nat->Tx->List Tx->Tx
 |0,_,_=>[]
 |n+1,a,l=>(oW ((aR (b0 l)).map λw=>adW a w++leN n w (l.erase w))).getD []
def LE(a:Tx)(l:List Tx):Tx:=leN l.length a l
theorem minX_some{l:List Tx}(h:l≠[]):∃x,oW l=aa x/\x∈l/\∀y∈l,b9 y x=aj:=by
 cases l with
 |nil=>exact absurd rfl h
 |cons b r=>obtain⟨c,a⟩:=Gd r b;exact⟨_,rfl,c,a⟩
theorem LE_step{a:Tx}{l:List Tx}(h:l≠[]):∃w∈l,LE a l=adW a w++LE w (l.erase w)/\∀y∈l,b9 (adW a y++LE y (l.erase y)) (LE a l)=aj:=by
 have d:∀w,w∈aR (b0 l)↔w∈l:=λw=>by rw[(eY _).mem_iff,l9]
 obtain⟨n,g⟩:∃n,l.length=n+1:=⟨l.length-1,by have:=List.length_pos_iff.mpr h;lia⟩
 have p:((aR (b0 l)).map λw=>adW a w++leN n w (l.erase w))≠[]:=by
  intro z;rw[Jg]at z;obtain⟨w,c⟩:=C_ l h;have:=(d w).mpr c;rw[z]at this;cases this
 have i:∀w∈l,leN n w (l.erase w)=LE w (l.erase w):=λw c=>by unfold LE;rw[pt c,g];rfl
 obtain⟨x,o,m,j⟩:=minX_some p;have e:LE a l=x:=by unfold LE;rw[g];show(oW _).getD []=x;rw[o];rfl
 obtain⟨w,c,rfl⟩:=cJ.mp m;have b:=(d w).mp c;refine⟨w,b,by rw[e,i w b],λy f=>?_⟩;rw[e,<-i y f];exact j _ (cJ.mpr ⟨y,(d y).mpr f,rfl⟩)
theorem LE_chain:∀(m:Nat) (a:Tx) (l:List Tx),l.length=m->∃b:List Tx,b.Perm l/\LE a l=chain a b
 |0,a,l,h=>⟨[],by rw[lf h],by rw[lf h];rfl⟩
 |m+1,a,l,h=>by obtain⟨w,c,e,_⟩:=LE_step (a:=a) (l:=l) (by rintro rfl;simp at h);obtain⟨b,p,d⟩:=LE_chain m w (l.erase w) (by rw[pt c,h];rfl);exact⟨w::b,(p.cons w).trans (Jp c).symm,by rw[e,d];rfl⟩
theorem LE_least:∀(m:Nat) (a:Tx) (l b:List Tx),l.length=m->b.Perm l->b9 (chain a b) (LE a l)=aj
 |0,a,l,b,h,p=>by have:=lf h;subst this;rw[List.perm_nil.mp p];rfl
 |m+1,a,l,b,h,p=>by
  cases b with
  |nil=>have:=p.length_eq;simp at this;lia
  |cons w b=>
   have c:w∈l:=p.mem_iff.mp (by simp);obtain⟨_,_,_,f⟩:=LE_step (a:=a) (l:=l) (by rintro rfl;simp at h);have d:b.Perm (l.erase w):=by have:=p.erase w;rwa[List.erase_cons_head]at this
   have g:=LE_least m w (l.erase w) b (by rw[pt c,h];rfl) d;rw[chain];refine ltX_le_trans (f w c) ?_;rw[ltX_app];exact g
def short(ls:List Tx):Tx:=LE [] ls
theorem short_has{n:Nat}(b:1<=n){a:List Tx}(h:∀x∈a,x.length=n):Has n (short a) a:=by obtain⟨d,p,e⟩:=LE_chain _ [] a rfl;unfold short;rw[e];exact chain_has0 b (λx c=>h x (p.mem_iff.mp c)) p
theorem short_least{n:Nat}(c:1<=n){a:List Tx}{t:Tx}(h:Has n t a):b9 t (short a)=aj:=by obtain⟨b,d,p⟩:=pick_sub _ _ h;exact ltX_le_trans (LE_least _ [] a b rfl p) (chain_least0 c d)
theorem LE_len{n:Nat}{a:Tx}{ls:List Tx}(h:∀x∈ls,x.length=n):(LE a ls).length<=ls.length*n:=by obtain⟨b,p,e⟩:=LE_chain _ a ls rfl;rw[e,<-p.length_eq];exact chain_len n b a λx c=>h x (p.mem_iff.mp c)
end Mx
namespace Sh
open L2 Pu Mx
section
variable{a:Ad}
def alB:ak->R aP:=(cS (dB (uB uf (dV 0) (aq (bR bV (dV 1) (bZ) (bx (dV 2))) (aC)))) (ce (bR bV (dV 1) (bx (dV 2)) (bZ))) (d8))
theorem al_one(t w:Tx)(k:Nat)(f:Slot):alB ([↥t,↥w,f].set 2 (⇑k))=.ok (if w.take k <:+ t then .ret (↥(w.drop k))else .next) [↥t,↥w,⇑k]:=by
 have c:bV (.str w) ae (aa ((k:Nat):Int))=aa (.str (w.take k)):=by show aa (PV.str (eN w ae _))=_;rw[Fv]
 have d:bV (.str w) (aa ((k:Nat):Int)) ae=aa (.str (w.drop k)):=by show aa (PV.str (eN w _ ae))=_;rw[xO]
 have b:uf t [.str (w.take k)]=aa (.bl (decide (w.take k <:+ t))):=rfl;by_cases h:w.take k <:+ t
 .rw[if_pos h];rw[decide_eq_true h]at b;generalize w.take k=T at c b;generalize w.drop k=D at d;generalize ((k:Nat):Int)=KI at c d;simp![alB,uB,Bi,bR,bx,bZ,c,d,b]
 .rw[if_neg h];rw[decide_eq_false h]at b;generalize w.take k=T at c b;generalize ((k:Nat):Int)=KI at c;simp![alB,uB,Bi,bR,bx,bZ,c,b]
theorem al_loop(t w:Tx):∀(k:Nat) (b:Slot),∃c,ii 2 alB (mi ((k:Nat):Int) k) [↥t,↥w,b]=.ok (if ovD t w k=0 then .next else .ret (↥(w.drop (ovD t w k)))) [↥t,↥w,c]
 |0,b=>⟨b,rfl⟩
 |k+1,b=>by
  have e:mi (((k+1:Nat)):Int) (k+1)=.int ((k+1:Nat):Int)::mi ((k:Nat):Int) k:=by unfold mi;rw[vM,cn,eJ];refine congr (congrArg List.cons (by simp)) (gC λi _=>?_);show PV.int _=PV.int _;congr 1;lia
  have d:=al_one t w (k+1) b;rw[e,ii,d];unfold ovD;by_cases h:w.take (k+1) <:+ t
  .rw[if_pos h,if_pos h];exact⟨_,rfl⟩
  .rw[if_neg h,if_neg h];exact al_loop t w k _
theorem added_eq(t w:Tx)(o:1<=w.length)(p:w.length<=100):ux a [↥t,↥w]=.ok (↥(adW t w)) [↥t,↥w]:=by
 obtain⟨j,i⟩:=al_loop t w (w.length-1) .none;have l:bw [.str w]=aa (.int (w.length:Nat)):=by simp[bw]
 have d:iO (.int (w.length:Nat)) (.int 1)=aa (.int ((w.length-1:Nat):Int)):=by show aa (PV.int ((w.length:Int)-1))=_;congr 2;lia
 have f:uh [.int ((w.length-1:Nat):Int),.int 0,.int (-1)]=aa (mi ((w.length-1:Nat):Int) (w.length-1)):=by show(if(-1:Int)=-1/\(0:Int)<=1000000/\(-1000000:Int)<=0/\((w.length-1:Nat):Int)<=1000000/\-1000000<=((w.length-1:Nat):Int)then aa (mi ((w.length-1:Nat):Int) (((w.length-1:Nat):Int)-0).toNat)else ae)=_;rw[if_pos ⟨rfl,by decide,by decide,∅,∅⟩];congr 2
 have m:cG (.int 1)=aa (.int (-1)):=rfl;have g:ov t w=ovD t w (w.length-1):=rfl;have b:(λc=>dD (d7 2 (dL uh (aq (d2 iO (dL bw (aq (dV 1) (aC))) (dC (.int 1))) (aq (dC (.int 0)) (aq (d1 cG (dC (.int 1))) (aC))))) alB c)) [↥t,↥w,.none]=.ok (if ovD t w (w.length-1)=0 then .next else .ret (↥(w.drop (ovD t w (w.length-1))))) [↥t,↥w,j]:=by generalize (if ovD t w (w.length-1)=0 then aP.next else aP.ret (↥(w.drop (ovD t w (w.length-1)))))=FL at i;generalize mi ((w.length-1:Nat):Int) (w.length-1)=DW at i f;generalize ((w.length-1:Nat):Int)=W1 at d f;generalize ((w.length:Nat):Int)=W0 at l d;simp![dD,d7,l,d,m,f,i]
 have n:yan a [↥t,↥w,.none]=.ok (.ret (↥(adW t w))) [↥t,↥w,j]:=by
  show aS (λc=>dD (d7 2 _ alB c)) (ce (dV 1)) _=_;unfold adW;rw[g];by_cases h:ovD t w (w.length-1)=0
  .rw[if_pos h]at b;rw[h];exact(dZ b).trans rfl
  .rw[if_neg h]at b;unfold aS;rw[b]
 simp[ux,bp,et,bu,bO,n,back,fk,aF,R.bind]
theorem idx_txP{l:List Tx}{x:Tx}(h:x∈l):∃k,k<l.length/\nA (ao l) (.str x)=aa (.int k)/\l.take k++l.drop (k+1)=l.erase x:=by
 induction l with
 |nil=>cases h
 |cons y l i=>
  have g:∀b:List Tx,nA (ao b) (.str x)=((dG b).findIdx? λz=>dJ z (tV x)).map λj=>PV.int (j:Nat):=λb=>by
   unfold nA;rw[NA];show Option.map (λj=>PV.int j) ((List.findIdx? (λz=>dJ z (tV x)) (dG b)).bind λa=>aa (a:Int))=_;cases List.findIdx? (λz=>dJ z (tV x)) (dG b) <;> rfl
  rw[g];show ∃k,k<(y::l).length/\((tV y::dG l).findIdx? λz=>dJ z (tV x)).map (λj=>PV.int (j:Nat))=_/\_;rw[List.findIdx?_cons,SR];by_cases c:y=x
  .subst c;exact⟨0,by simp,by simp,by simp⟩
  .obtain⟨k,o,f,n⟩:=i ((bE.mp h).resolve_left λz=>c z.symm);rw[g]at f;refine⟨k+1,by simp;lia,?_,?_⟩
   .rw[decide_eq_false c];obtain⟨j,m,d⟩:=mw.mp f;have:j=k:=by injection d with d;exact Int.ofNat.inj d
    subst this;rw[m];rfl
   .rw[List.take_succ_cons,II,kF,n,List.erase_cons_tail (by simpa using c)]
theorem add1_tx(xs b:List Tx)(h:xs.length+b.length<=1000):rF (.tup (ao xs)) (.tup (ao b))=aa (.tup (ao (xs++b))):=by
 cases xs with
 |nil=>rfl
 |cons x xs=>
  cases b with
  |nil=>show(if(ao xs).length<1000 then aa (PV.tup (.str x::ao xs))else ae)=_;rw[jc,if_pos (by simp at h;lia),fW];rfl
  |cons y b=>show(if(ao (x::xs)≠[]/\ao (y::b)≠[]/\(ao (x::xs)).length+(ao (y::b)).length<=1000)then aa (PV.tup (ao (x::xs)++ao (y::b)))else ae)=_;rw[if_pos ⟨by simp[ao],by simp[ao],by rw[jc,jc];exact h⟩,SM]
theorem without_eq{l:List Tx}{x:Tx}(h:x∈l)(m:l.length<=100):uF a [.val (.tup (ao l)),↥x]=.ok (.val (.tup (ao (l.erase x)))) [.val (.tup (ao l)),↥x]:=by
 obtain⟨k,j,f,i⟩:=idx_txP h;have d:bV (.tup (ao l)) ae (aa ((k:Nat):Int))=aa (.tup (ao (l.take k))):=by show(if HT.sIx (ao l).length 0 ae=0/\HT.sIx (ao l).length (ao l).length (aa ((k:Nat):Int))=(ao l).length then ae else aa (PV.tup (eN (ao l) ae (aa ((k:Nat):Int)))))=_;rw[if_neg (by rintro⟨_,z⟩;rw[HT.sIx_nat,jc]at z;lia),Fv];simp[ao]
 have c:bV (.tup (ao l)) (aa ((k+1:Nat):Int)) ae=aa (.tup (ao (l.drop (k+1)))):=by show(if HT.sIx (ao l).length 0 (aa ((k+1:Nat):Int))=0/\HT.sIx (ao l).length (ao l).length ae=(ao l).length then ae else aa (PV.tup (eN (ao l) (aa ((k+1:Nat):Int)) ae)))=_;rw[if_neg (by rintro⟨z,_⟩;rw[HT.sIx_nat,jc]at z;lia),xO];simp[ao]
 have g:rF (.int k) (.int 1)=aa (.int ((k+1:Nat):Int)):=rfl;have b:=add1_tx (l.take k) (l.drop (k+1)) (by simp;lia);rw[i]at b;generalize ((k+1:Nat):Int)=K1 at c g;generalize ((k:Nat):Int)=K0 at d g f;generalize ao (l.take k)=P1 at d b;generalize ao (l.drop (k+1))=P2 at c b;generalize ao (l.erase x)=P3 at b;generalize ao l=PL at d c f;simp![uF,yaS,Ai,bR,bx,bZ,f,d,c,g,b]
end
end Sh
namespace Mx
open L2 Pu
theorem GN{w:Nat}{a:List Tx}(b:1<=w)(d:1<=a.length)(f:∀x∈a,x.length=w/\∀c∈x,c∈bY):(eD w a).Nodup:=by rw[u6 b d f];exact(Ge _).filter _
theorem OB{w:Nat}{d:List Tx}(f:1<=w)(g:1<=d.length)(h:∀x∈d,x.length=w/\∀c∈x,c∈bY):(eD w d).Pairwise (λa b=>df a b=ah):=by rw[u6 f g h];exact(DY _).filter _
theorem Dl{w:Nat}{d:List Tx}(f:1<=w)(i:1<=d.length)(j:∀x∈d,x.length=w/\∀c∈x,c∈bY)(h:d.Pairwise (λa b=>df a b=ah)){z:Tx}(g:∀c∈z,c∈bY):z∈eD w d↔aR (aV z w)=d:=by
 rw[u6 f i j,kZ,qg,List.isPerm_iff];constructor
 .rintro⟨_,p⟩;rw[z6 p,yu h]
 .intro e;have p:(aV z w).Perm d:=by rw[<-e];exact(eY _).symm
  have l:=p.length_eq;rw[sJ f]at l;exact⟨⟨∅,g⟩,p⟩
theorem J4{w:Nat}{a:List Tx}(b:1<=w)(d:1<=a.length)(f:∀x∈a,x.length=w/\∀c∈x,c∈bY){z:Tx}(h:z∈eD w a):z.length=w-1+a.length/\∀c∈z,c∈bY:=by rw[u6 b d f,kZ,qg]at h;exact h.1
end Mx
namespace Sh
open L2 Pu Mx
section
variable{a:Ad}
theorem sortSetTP_eq{k:List Tx}(h:k.length<=1000):qm [.tup (ao k)]=aa (.lst (ao (aR (b0 k)))):=by show(gA (ao k)).bind _=_;rw[rQ,gT,if_pos];have:(b0 k).length<=k.length:=(Ql k).length_le_of_subset λz b=>(l9 _ _).mp b;lia
end
def TT:Nat->Nat
 |0=>0
 |m+1=>1+(m+1)*TT m
theorem TT_mono:∀{m n:Nat},m<=n->TT m<=TT n
 |m,0,h=>by rw[Nat.le_zero.mp h];exact aY _
 |m,n+1,h=>by
  rcases Nat.lt_or_eq_of_le h with h|h
  .have:=TT_mono (Nat.le_of_lt_succ h);show TT m<=1+(n+1)*TT n;have a:TT n<=(n+1)*TT n:=Nat.le_mul_of_pos_left _ ∅;lia
  .rw[h];exact aY _
def Kept(m:Nat)(a:List ((Tx×List Tx)×PV)):Prop:=∀p∈a,p.1.2.length<=m/\p.2=.str (LE p.1.1 p.1.2)
theorem Kept.app{m:Nat}{x y:List ((Tx×List Tx)×PV)}(c:Kept m x)(b:Kept m y):Kept m (x++y):=λp a=>(jm.mp a).elim (c p) (b p)
theorem Kept.mono{m n:Nat}{x:List ((Tx×List Tx)×PV)}(h:Kept m x)(b:m<=n):Kept n x:=λp a=>⟨cQ (h p a).1 b,(h p a).2⟩
theorem valN_none{a:List ((Tx×List Tx)×PV)}{k:Tx×List Tx}(h:∀p∈a,p.1≠k):valN a k=ae:=by unfold valN;rw[Jm.mpr λp b=>by simpa using h p b];rfl
theorem valN_app{x y:List ((Tx×List Tx)×PV)}{k:Tx×List Tx}(h:valN x k=ae):valN (x++y) k=valN y k:=by
 unfold valN at h ⊢;rw[List.find?_append];cases e:x.find? λa=>decide (a.1=k)with
 |none=>rfl
 |some p=>rw[e]at h;cases h
theorem valN_some{a:List ((Tx×List Tx)×PV)}{k:Tx×List Tx}{m:Nat}(h:Kept m a){v:PV}(e:valN a k=aa v):v=.str (LE k.1 k.2):=by unfold valN at e;obtain⟨p,c,rfl⟩:=mw.mp e;have d:=List.mem_of_find?_eq_some c;have b:=List.find?_some c;simp only[decide_eq_true_eq]at b;rw[(h p d).2,b]
section
variable{a:Ad}
def leB(a:Ad)(rc:ak->R Slot):ak->R aP:=(nq 3 (d2 bB (bA (bd (ux a) (gV (dV 0) (gV (dV 4) (Pu.bJ))))) (bA (bd (rc) (gV (dV 4) (gV (bA (bd (uF a) (gV (dV 1) (gV (dV 4) (Pu.bJ))))) (gO 2 (Pu.bJ))))))))
theorem le_step{f:ak->R Slot}{t y:Tx}{l:List Tx}(p:y∈l)(x:l.length<=9)(n:1<=y.length)(s:y.length<=4){h g:List ((Tx×List Tx)×PV)}{r:Tx}(v:r.length<=100)(j:f [↥y,.val (.tup (ao (l.erase y))),.own (.dN h)]=.ok (↥r) [↥y,.val (.tup (ao (l.erase y))),.own (.dN g)]) (b:List Tx) (w:b.length<=100) (o:Slot):leB a f ([↥t,.val (.tup (ao l)),.own (.dN h),.own (.lst (ao b)),o].set 4 (↥y))=.ok .next [↥t,.val (.tup (ao l)),.own (.dN g),.own (.lst (ao (b++[adW t y++r]))),↥y]:=by
 have m:=added_eq (a:=a) t y n ∅;have d:=without_eq (a:=a) p ∅;have u:=adW_len t y;have c:bB (.str (adW t y)) (.str r)=aa (.str (adW t y++r)):=xH (by simp[b8];lia);have i:(ao b).length<b8:=by rw[jc];unfold b8;lia
 have q:ao (b++[adW t y++r])=ao b++[.str (adW t y++r)]:=by simp[ao]
 rw[q];generalize adW t y++r=AR at c;generalize adW t y=A1 at m c;generalize ao (l.erase y)=L2 at d j;generalize ao l=L1 at d;generalize ao b=ES at i;simp![leB,m,d,j,c,i]
theorem le_loop{rc:ak->R Slot}{t:Tx}{l:List Tx}{n:Nat}(u:1<=n)(s:n<=4)(p:∀x∈l,x.length=n)(D:l.length<=9){m:Nat}(N:l.length=m+1){f:List ((Tx×List Tx)×PV)}(B:Kept 9 f)(P:f.length+TT (m+1)<=900000)(w:∀(y:Tx) (o:List ((Tx×List Tx)×PV)),y∈l->Kept 9 o->o.length+TT m<=900000->∃more,Kept m more/\more.length<=TT m/\rc [↥y,.val (.tup (ao (l.erase y))),.own (.dN o)]=.ok (↥(LE y (l.erase y))) [↥y,.val (.tup (ao (l.erase y))),.own (.dN (o++more))]):∀(d:List Tx) (c:List Tx) (more:List ((Tx×List Tx)×PV)) (g:Slot),(∀y∈d,y∈l)->c.length+d.length<=l.length->Kept m more->more.length<=c.length*TT m -> ∃b r,Kept m b/\b.length<=(c.length+d.length)*TT m/\ii 4 (leB a rc) (ao d) [↥t,.val (.tup (ao l)),.own (.dN (f++more)),.own (.lst (ao c)),g]=.ok .next [↥t,.val (.tup (ao l)),.own (.dN (f++b)),.own (.lst (ao (c++d.map λy=>adW t y++LE y (l.erase y)))),r]
 |[],c,more,g,_,_,q,C=>⟨more,g,q,by simpa using C,by simp[ii,ao]⟩
 |y::d,c,more,g,i,T,q,C=>by
  have h:=i y (by simp);simp only[d_]at T;have F:(c.length+1)*TT m<=(m+1)*TT m:=Nat.mul_le_mul_right _ ∅;have X:TT (m+1)=1+(m+1)*TT m:=rfl;rw[Cs]at F;obtain⟨I,K,W,O⟩:=w y (f++more) h (B.app (q.mono ∅)) (by rw[cL];lia);have Y:=LE_len (n:=n) (a:=y) (ls:=l.erase y) λx M=>p x (List.mem_of_mem_erase M);have j:(LE y (l.erase y)).length<=100:=by
   have Q:(l.erase y).length<=9:=by rw[pt h];lia
   have:=zg Q s;lia
  have E:=le_step (a:=a) (t:=t) h D (by rw[p y h];exact u) (by rw[p y h];exact s) j O c ∅ g;rw[eG]at E;obtain⟨H,G,J,v,A⟩:=le_loop u s p D N B P w d (c++[adW t y++LE y (l.erase y)]) (more++I) (↥y) (λz L=>i z (by simp[L])) (by simp;lia) (q.app K) (by rw[cL,cL,pc,Cs];lia);refine⟨H,G,J,by simp only[cL,pc]at v;rw[d_,show c.length+(d.length+1)=c.length+1+d.length by lia];exact v,?_⟩;have S:ao (y::d)=.str y::ao d:=rfl;rw[S,ii,E];simp only[eG,kF,iq,cn]at A ⊢;exact A
theorem le_eq:∀(k:Nat) (t:Tx) (l:List Tx) (b:List ((Tx×List Tx)×PV)) {n:Nat},1<=n->n<=4->(∀x∈l,x.length=n)->l.length<=9->l.length<k->Kept 9 b->b.length+TT l.length<=900000 -> ∃more,Kept l.length more/\more.length<=TT l.length/\lj a k [↥t,.val (.tup (ao l)),.own (.dN b)]=.ok (↥(LE t l)) [↥t,.val (.tup (ao l)),.own (.dN (b++more))]
 |0,t,l,b,n,_,_,_,_,h,_,_=>∅
 |k+1,t,l,b,n,n1,n4,hn,h9,hk,hK,hB=>by
  have q:bw [.tup (ao l)]=aa (.int (l.length:Nat)):=by simp[bw,jc]
  cases f:l.length with
  |zero=>
   have:=lf f;subst this;have e:Pu.eqT aj (.int 0) (.int 0)=aa (.bl ah):=rfl;refine⟨[],(λp c=>by cases c),by simp,?_⟩;have e2:LE t []=[]:=rfl;have L:bw [.tup (ao ([]:List Tx))]=aa (.int 0):=rfl;rw[e2,fW];generalize ao ([]:List Tx)=T0 at L;simp![lj,yaM,L,e]
  |succ m=>
   have bT:l≠[]:=by rintro rfl;simp at f
   have E:Pu.eqT aj (.int (l.length:Nat)) (.int 0)=aa (.bl aj):=by rw[lz,decide_eq_false ∅];rfl
   have g:mV (.tup [.str t,.tup (ao l)])=aa (t,l):=by show(gA (ao l)).map _=_;rw[rQ];rfl
   have O:bP [.str t,.tup (ao l)]=aa (.tup [.str t,.tup (ao l)]):=rfl;cases j:valN b (t,l)with
   |some v=>
    have B:=valN_some hK j;subst B;refine⟨[],(λp c=>by cases c),by simp,?_⟩;rw[fW];generalize LE t l=LL at j;generalize ((l.length:Nat):Int)=NI at q E;generalize J:((t,l):Tx×List Tx)=KK at g j;generalize ao l=PL at q g O;simp![lj,yaM,q,E,qy,vn,jj,g,j]
   |none=>
    rw[f]at hB;have G:=sortSetTP_eq (k:=l) ∅;obtain⟨more,s,u,T,i⟩:=le_loop (a:=a) (rc:=lj a k) (t:=t) n1 n4 hn h9 f hK hB (λy u A gE Q=>by
     have M:(l.erase y).length=m:=by rw[pt A,f];rfl
     have:=le_eq k y (l.erase y) u n1 n4 (λx X=>hn x (List.mem_of_mem_erase X)) ∅ ∅ gE (by rw[M];exact Q);rw[M]at this;exact this) (aR (b0 l)) [] [] .none (λy A=>(l9 l y).mp ((eY _).mem_iff.mp A)) (by
      rw[j3,mC,(eY _).length_eq];exact Bv l) (λp c=>by cases c) (by simp)
    rw[fW,iq,show ao []=[] from rfl]at i;have hT:TT (m+1)=1+(m+1)*TT m:=rfl;have lX:more.length<=(m+1)*TT m:=by refine cQ T (Nat.mul_le_mul_right _ ?_);rw[j3,mC,(eY _).length_eq,<-f];exact Bv l
    have D:valN (b++more) (t,l)=ae:=by rw[valN_app j];refine valN_none λp c z=>?_;have:=(u p c).1;rw[z,f]at this;lia
    have H:oW ((aR (b0 l)).map λy=>adW t y++LE y (l.erase y))=aa (LE t l):=by obtain⟨w,Y,e,S⟩:=LE_step (a:=t) bT;refine GU (cJ.mpr ⟨w,(eY _).mem_iff.mpr ((l9 l w).mpr Y),e.symm⟩) λy A=>?_;obtain⟨z,W,rfl⟩:=cJ.mp A;exact S z ((l9 l z).mp ((eY _).mem_iff.mp W))
    have o:gA (ao ((aR (b0 l)).map λy=>adW t y++LE y (l.erase y)))=aa ((aR (b0 l)).map λy=>adW t y++LE y (l.erase y)):=rQ _;refine⟨more++[((t,l),.str (LE t l))],?_,by rw[cL,pc];lia,?_⟩
    .intro p c;rcases jm.mp c with c|c
     .exact⟨cQ (u p c).1 ∅,(u p c).2⟩
     .rw[fe.mp c];exact⟨by rw[f];exact aY _,rfl⟩
    .have K:g9 (.lst (ao (aR (b0 l))))=aa (ao (aR (b0 l))):=rfl;have N:(b++more).length<b8:=by rw[cL];unfold b8;lia
     have d:valN (b++(more++[((t,l),PV.str (LE t l))])) (t,l)=aa (.str (LE t l)):=by rw[<-eG,valN_app D];simp[valN]
     have r:(b++more)++[((t,l),PV.str (LE t l))]=b++(more++[((t,l),PV.str (LE t l))]):=eG ..;generalize b++(more++[((t,l),PV.str (LE t l))])=KF at d r;generalize b++more=K2 at i D N r;generalize LE t l=LL at H d r;generalize ((aR (b0 l)).map λy=>adW t y++LE y (l.erase y))=EN at i H o;generalize ao EN=PE at i o;generalize ((l.length:Nat):Int)=NI at q E;generalize J:((t,l):Tx×List Tx)=KK at g j D d r;generalize ao (aR (b0 l))=SL at i G K;generalize ao l=PL at q g O G i;have P:(λF=>dD (d7 4 (bW (dF (dL qm (aq (dV 1) (aC))))) (leB a (lj a k)) F)) [↥t,.val (.tup PL),.own (.dN b),.own (.lst []),.none]=.ok .next [↥t,.val (.tup PL),.own (.dN K2),.own (.lst PE),s]:=by simp![dD,d7,bW,G,K,i]
     have C:u9 2 (dL bP (aq (dV 0) (aq (dV 1) (aC)))) (r8 3) [↥t,.val (.tup PL),.own (.dN K2),.own (.lst PE),s]=.ok .next [↥t,.val (.tup PL),.own (.dN KF),.own (.lst PE),s]:=by simp![u9,r8,jj,o,H,g,N,D,r]
     have I:(cS (dB (qy ah 2 (dL bP (aq (dV 0) (aq (dV 1) (aC)))))) (aS (eR 3 (dL fN (aC))) (aS (λF=>dD (d7 4 (bW (dF (dL qm (aq (dV 1) (aC))))) (leB a (lj a k)) F)) (u9 2 (dL bP (aq (dV 0) (aq (dV 1) (aC)))) (r8 3)))) (d8)) [↥t,.val (.tup PL),.own (.dN b),.none,.none]=.ok .next [↥t,.val (.tup PL),.own (.dN KF),.own (.lst PE),s]:=by
      have h1:(dB (qy ah 2 (dL bP (aq (dV 0) (aq (dV 1) (aC)))))) [↥t,.val (.tup PL),.own (.dN b),.none,.none]=.ok ah [↥t,.val (.tup PL),.own (.dN b),.none,.none]:=by simp![qy,jj,g,j]
      have h2:(eR 3 (dL fN (aC))) [↥t,.val (.tup PL),.own (.dN b),.none,.none]=.ok .next [↥t,.val (.tup PL),.own (.dN b),.own (.lst []),.none]:=by simp![]
      unfold cS;rw[h1];simp only[R.bind_ok];exact(dZ h2).trans ((dZ P).trans C)
     have Z:yaM a (lj a k) [↥t,.val (.tup PL),.own (.dN b),.none,.none]=.ok (.ret (↥LL)) [↥t,.val (.tup PL),.own (.dN KF),.own (.lst PE),s]:=by unfold yaM;refine(dZ (ε1:=[↥t,.val (.tup PL),.own (.dN b),.none,.none]) (by simp![q,E])).trans ?_;refine(dZ I).trans ?_;simp![vn,jj,g,d]
     simp[lj,bp,et,bu,bO,Z,back,fk,aF,R.bind,li]
theorem short_eq{w:Nat}{ls:List Tx}(g:Good bY w ls)(h:1<=w)(f:w<=4)(l:ls.Pairwise (λa b=>df a b=ah)):uX a [.val (aU w ls)]=.ok (↥(short ls)) [.val (aU w ls)]:=by
 have i:kh a [.val (aU w ls)]=.ok (.val .non) [.val (aU w ls)]:=yw (a:=a) (g.vw h f l);have j:=g.few;have n:TT ls.length<=623530:=cQ (TT_mono j) (by decide);obtain⟨more,_,_,c⟩:=le_eq (a:=a) 10 [] ls [] h f g.len j ∅ (λp m=>by cases m) (by simp;lia);have d:bG (aU w ls) (.int 1)=aa (.tup (ao ls)):=rfl;rw[iq]at c;have e:LE [] ls=short ls:=rfl;rw[e]at c;generalize short ls=SH at c;generalize ao ls=PL at c d;generalize aU w ls=V at i d;simp![uX,yaP,i,pJ,nk,gN,Bs,AG,d,c]
end
structure Sym(f g:Tx->Tx):Prop where
 len:∀t,(f t).length=t.length
 abc:∀t,(∀c∈t,c∈bY)->∀c∈f t,c∈bY
 win:∀t w,1<=w->(aV (f t) w).Perm ((aV t w).map f)
 inv:∀t,g (f t)=t
theorem sym_rev:Sym dr dr:=⟨λt=>CW,λt h c b=>h c (pq.mp b),λt w a=>by rw[Rc _ _ a];exact CT _,λt=>List.reverse_reverse t⟩
section
variable{f g:Tx->Tx}
theorem Sym.inj(s:Sym f g){x y:Tx}(h:f x=f y):x=y:=by rw[<-s.inv x,h,s.inv]
theorem map_back(s:Sym f g)(l:List Tx):(l.map f).map g=l:=by rw[eJ];refine(gC λx _=>?_).trans (List.map_id l);exact s.inv x
theorem Sym.covW(s:Sym f g){v:Nat}:∀ts:List Tx,(Sh.covW v (ts.map f)).Perm ((Sh.covW v ts).map f)
 |[]=>.refl _
 |t::ts=>by rw[cn,covW_cons,covW_cons,tE];exact(s.win t (v+1) ∅).append (s.covW ts)
theorem Sym.cov(s:Sym f g){v:Nat}{a N:List Tx}(h:Cov v a N):Cov v (a.map f) (N.map f):=by refine⟨λt c=>?_,(s.covW a).trans (h.perm.map f)⟩;obtain⟨u,b,rfl⟩:=cJ.mp c;rw[s.len];exact h.long u b
theorem Sym.min(s:Sym f g)(j:Sym g f){v k:Nat}{ls M:List Tx}(b:M.Perm (ls.map f))(h:Min v ls k):Min v M k:=by obtain⟨i,m,c⟩:=h.ex;refine⟨⟨i.map f,by rw[cM,m],(s.cov c).long,(s.cov c).perm.trans b.symm⟩,λd l=>?_⟩;have a:=j.cov l;have:=h.low (d.map g) ⟨a.long,a.perm.trans (by have:=b.map g;rw[map_back s]at this;exact this)⟩;rwa[cM]at this
theorem Sym.good(s:Sym f g){w:Nat}{ls:List Tx}(h:Good bY w ls):Good bY w (aR (ls.map f)):=by
 have c:Good bY w (ls.map f):=⟨λx b=>by
   obtain⟨y,a,rfl⟩:=cJ.mp b;rw[s.len];exact h.len y a,λx b=>by
   obtain⟨y,a,rfl⟩:=cJ.mp b;exact s.abc y (h.abc y a),by rw[cM];exact h.some,by rw[cM];exact h.few⟩
 exact c.perm (eY _)
theorem Sym.back(s:Sym f g){ls:List Tx}(c:ls.Pairwise (λa b=>df a b=ah)):aR ((aR (ls.map f)).map g)=ls:=by
 have:((aR (ls.map f)).map g).Perm ls:=by have:=(eY (ls.map f)).map g;rw[map_back s]at this;exact this
 rw[z6 this];exact yu c
theorem Sym.to(s:Sym f g){w:Nat}{d:List Tx}(h:Good bY w d)(j:1<=w)(p:d.Pairwise (λa b=>df a b=ah)){z:Tx}(m:z∈eD w d):f z∈eD w (aR (d.map f)):=by
 have n:∀x∈d,x.length=w/\∀c∈x,c∈bY:=λx i=>⟨h.len x i,h.abc x i⟩
 have l:=s.good h;have r:∀x∈aR (d.map f),x.length=w/\∀c∈x,c∈bY:=λx i=>⟨l.len x i,l.abc x i⟩
 have o:=(J4 j h.some n m).2;have q:=(Dl j h.some n p o).mp m;refine(Dl j l.some r (oZ _) (s.abc z o)).mpr ?_;refine z6 ((s.win z w j).trans ?_);have:(aV z w).Perm d:=by rw[<-q];exact(eY _).symm
 exact this.map f
theorem Sym.texts(s:Sym f g)(m:Sym g f){w:Nat}{ls:List Tx}(h:Good bY w ls)(d:1<=w)(n:ls.Pairwise (λa b=>df a b=ah)):eD w (aR (ls.map f))=aR ((eD w ls).map f):=by
 have r:∀x∈ls,x.length=w/\∀c∈x,c∈bY:=λx i=>⟨h.len x i,h.abc x i⟩
 have j:=s.good h;have o:∀x∈aR (ls.map f),x.length=w/\∀c∈x,c∈bY:=λx i=>⟨j.len x i,j.abc x i⟩
 refine u5 ?_ (OB d j.some o);refine(List.perm_ext_iff_of_nodup (GN d j.some o) ?_).mpr λz=>?_
 .exact List.Pairwise.map f (λx y p e=>p (s.inj e)) (GN d h.some r)
 .constructor
  .intro l;have:=m.to j d (oZ _) l;rw[s.back n]at this;exact cJ.mpr ⟨g z,this,m.inv z⟩
  .intro l;obtain⟨y,q,rfl⟩:=cJ.mp l;exact s.to h d n q
theorem Sym.has(s:Sym f g){w:Nat}(d:1<=w){t:Tx}{a M:List Tx}(j:M.Perm (a.map f))(h:Has w t a):Has w (f t) M:=λy=>by
 rw[j.count_eq,(s.win t w d).count_eq];by_cases c:y∈a.map f
 .obtain⟨x,m,rfl⟩:=cJ.mp c;have e:∀l:List Tx,(l.map f).count (f x)=l.count x:=λl=>by
   induction l with
   |nil=>rfl
   |cons z l i=>
    rw[cn,List.count_cons,List.count_cons,i];congr 1;by_cases b:z=x
    .subst b;simp
    .have:f z≠f x:=λe=>b (s.inj e);simp[b,this]
  rw[e,e];exact h x
 .rw[List.count_eq_zero.mpr c];lia
theorem Sym.short(s:Sym f g)(b:Sym g f){w:Nat}{ls:List Tx}(h:Good bY w ls)(a:1<=w):(Mx.short (aR (ls.map f))).length=(Mx.short ls).length:=by have i:=s.good h;have l:=s.has a (eY (ls.map f)) (short_has a h.len);have j:Has w (g (Mx.short (aR (ls.map f)))) ls:=b.has a (by have:=(eY (ls.map f)).map g;rw[map_back s]at this;exact this.symm) (short_has a i.len);have d:=ltX_le (short_least a l);have c:=ltX_le (short_least a j);rw[s.len]at d;rw[b.len]at c;lia
end
section
variable{a:Ad}
theorem eqT_vs0(g:Bool)(w:Nat)(c f:List Tx):Pu.eqT g (aU w c) (aU w f)=aa (.bl (g^^decide (c=f))):=by
 have d:jh (aU w c)<=8:=by simp[aU,jh,jl,Er]
 have e:cO (aU w c) (aU w f)=aa (decide (c=f)):=by
  show(cO (.int w) (.int w)).bind (λa=>((cO (.tup (ao c)) (.tup (ao f))).bind (λa=>(aa ([]:List PV).isEmpty).map λb=>a&&b)).map λb=>a&&b)=_;have i:cO (.int w) (.int w)=aa ah:=by show aa ((w:Int) == w)=_;simp
  have h:cO (.tup (ao c)) (.tup (ao f))=aa (decide (c=f)):=by show g7 _ _=_;rw[D9]
  rw[i,h];simp
 show(if jh (aU w c)<=8 then(cO (aU w c) (aU w f)).map (λk=>PV.bl (g^^k))else ae)=_;rw[if_pos d,e];rfl
theorem eqT_vs(b:Bool)(w:Nat)(ls c:List Tx)(h:ls=c):Pu.eqT b (aU w ls) (aU w c)=aa (.bl (b^^ah)):=by rw[eqT_vs0,decide_eq_true h]
def mapV(f:Tx->Tx):PV->PV
 |.str t=>.str (f t)
 |v=>v
theorem map_txP(f:Tx->Tx)(b:List Tx):((ao b).filter λ_=>ah).map (mapV f)=ao (b.map f):=by rw[zy.mpr (λ_ _=>rfl)];unfold ao;rw[eJ,eJ];rfl
def rvD:ak->R PV:=(nt (dV 0) (bx (d1 cG (dC (.int 1)))))
theorem rev_blk(t:Tx)(ε:ak):dW (gz [] rvD (.str t) ε)=.ok (.str t.reverse) ε:=by
 have c:cG (.int 1)=aa (.int (-1)):=rfl;have b:rvD [↥t]=.ok (.str t.reverse) [↥t]:=by unfold rvD;generalize PV.int 1=C1 at c;simp![nt,bx,c,xT]
 generalize t.reverse=TR at b;generalize rvD=RD at b;simp![gz,gF,dW,b]
theorem rev_comp(ls:List Tx)(ε:ak):jV [] fu rvD (ao ls) [] ε=.ok (ao (ls.map dr)) ε:=by have:=pQ (cap:=[]) (dt:=fu) (de:=rvD) (ε:=ε) (λ_=>ah) (mapV dr) (ao ls) (by intro v b;obtain⟨t,_,rfl⟩:=cJ.mp b;exact⟨rfl,λ_=>rev_blk t ε⟩) [];rw[iq,map_txP]at this;exact this
theorem comp_any{DI:ak->R (List PV)}{c:List Nat}{DT:ak->R Bool}{DE:ak->R PV}{b:ak}{xs d:List PV}(f:DI b=.ok xs b)(g:jV c DT DE xs [] b=.ok d b):dF (dX c DI DT DE) b=.ok (.lst d) b:=by simp[dF,dX,f,g,R.bind,oP,aF]
theorem mirrored_eq{w:Nat}{ls:List Tx}(g:Good bY w ls)(n:1<=w)(m:w<=4)(o:ls.Pairwise (λa b=>df a b=ah)):nD a [.val (aU w ls)]=.ok (.val (aU w (aR (ls.map dr)))) [.val (aU w ls)]:=by
 have l:kh a [.val (aU w ls)]=.ok (.val .non) [.val (aU w ls)]:=yw (a:=a) (g.vw n m o);have d:=Rq (a:=a) (w:=w) (ls:=ls.map dr) (by rw[cM];exact g.some) (by rw[cM];exact g.few);have i:bG (aU w ls) (.int 0)=aa (.int w):=rfl;have h:bG (aU w ls) (.int 1)=aa (.tup (ao ls)):=rfl;have j:g9 (.tup (ao ls))=aa (ao ls):=rfl;have c:dF (dX [] (bW (d2 bG (dV 0) (dC (.int 1)))) (fu) rvD) [.val (aU w ls)]=.ok (.lst (ao (ls.map dr))) [.val (aU w ls)]:=by refine comp_any (xs:=ao ls) ?_ (rev_comp ls _);generalize ao ls=PL at h j;generalize aU w ls=VV at h;simp![bW,h,j]
 unfold nD;have f:yaN a [.val (aU w ls)]=.ok (.ret (.val (aU w (aR (ls.map dr))))) [.val (aU w ls)]:=by show aS _ (kc (bd (sS a) (gV (d2 bG (dV 0) (dC (.int 0))) (gV (dF (dX [] (bW (d2 bG (dV 0) (dC (.int 1)))) (fu) rvD)) (Pu.bJ))))) _=_;generalize aU w (aR (ls.map dr))=V2 at d;generalize ao (ls.map dr)=PM at d c;generalize (dF (dX [] (bW (d2 bG (dV 0) (dC (.int 1)))) (fu) rvD))=DC at c;generalize PV.int w=WW at d i;generalize aU w ls=VV at l i c;simp![l,i,c,d]
 generalize aU w (aR (ls.map dr))=V2 at f ⊢;generalize yaN a=DD at f ⊢;generalize aU w ls=VV at f ⊢;simp[bp,et,bu,bO,f,back,fk,aF,R.bind]
end
end Sh
namespace K35
open L2 Pu Mx Sh
section
variable{a:Ad}
def rf(n:Int):PV:=.tup [.str [114,101,102,117,115,101,100],.int n]
def Wh(a:Ad):Prop:=uZ a [.val (.exc (.ref a.NoView))]=.ok (.val (rf 2)) [.val (.exc (.ref a.NoView))]
theorem UC(h:uZ a [.val (.exc (.ref a.NoView))]=.ok (.val (rf 2)) [.val (.exc (.ref a.NoView))]):Wh a:=h
theorem Pj{x:PV}(h:nu a [.val x]=.ok (.val (.bl aj)) [.val x]):nD a [.val x]=.er (.ref a.NoView) [.val x]:=by
 have:=J_ (a:=a) h;generalize c:(λb=>kc (bd (sS a) (gV (d2 bG (dV 0) (dC (.int 0))) (gV (dF (dX [] (bW (d2 bG (dV 0) (dC (.int 1)))) (fu) (nt (dV 0) (bx (d1 cG (dC (.int 1))))))) (Pu.bJ)))) b)=DD;have e:yaN a=aS (kt (bd (kh a) (gV (dV 0) (Pu.bJ)))) DD:=by rw[<-c];rfl
 unfold nD;rw[e];simp![this]
theorem Tu{x:PV}(q:Wh a)(h:nD a [.val x]=.er (.ref a.NoView) [.val x]):yn a [.val x]=.ok (.val (rf 2)) [.val x]:=by
 have c:rG a (.ref a.NoView)=ah:=by simp[rG,jf]
 have b:uZ a [.val (.exc (.ref a.NoView))]=.ok (.val (rf 2)) [.val (.exc (.ref a.NoView))]:=q;generalize rf 2=Y at b;simp![yn,yaC,uS,xX,dW,h,c,b]
theorem B4{d e:ak->R Bool}{b:ak}(f:d b=.ok aj b)(c:e b=.ok aj b):cS (i7 d e) (ce (dC (.bl aj))) d8 b=.ok .next b:=by simp[cS,i7,f,c,R.bind,d8]
theorem rY{d e:ak->R PV}{b:ak}{x y:PV}(f:d b=.ok x b)(c:e b=.ok y b)(h:Pu.eqT ah x y=aa (.bl aj)):dB (d2 (Pu.eqT ah) d e) b=.ok aj b:=by simp[dB,d2,f,c,h,R.bind,aF,li]
theorem pT{G:ak->R Slot}{d:ak->R PV}{b:ak}{x y:PV}(h:d b=.ok x b)(c:G [.val x]=.ok (.val y) [.val x]):bA (bd G (gV d Pu.bJ)) b=.ok y b:=by simp[bA,bd,gV,Pu.bJ,h,c,R.bind,aF,fg,fz,cI,eu,fJ,qr]
theorem Gj{G:ak->R Slot}{d:ak->R PV}{b:ak}{x:PV}{l:List PV}(h:d b=.ok x b)(c:G [.val x]=.ok (.own (.lst l)) [.val x]):bA (bd G (gV d Pu.bJ)) b=.ok (.lst l) b:=by simp[bA,bd,gV,Pu.bJ,h,c,R.bind,aF,fg,fz,cI,eu,fJ,qr,oP]
theorem ul{f:List PV->Option α}{d:ak->R PV}{b:ak}{x:PV}{z:α}(h:d b=.ok x b)(c:f [x]=aa z):dL f (aq d aC) b=.ok z b:=by simp[dL,aq,aC,h,c,R.bind,aF]
theorem Ey{d:ak->R PO}{b:ak}{l:List PV}(h:d b=.ok (.lst l) b):dF d b=.ok (.lst l) b:=by simp[dF,h,R.bind,oP,aF]
theorem GM{d:ak->R PV}{b:ak}{x:PV}{l:List PV}(h:d b=.ok x b)(c:g9 x=aa l):bW d b=.ok l b:=by simp[bW,h,c,R.bind,aF]
theorem N1{d e:ak->R PV}{b:ak}{x y:PV}(h:d b=.ok x b)(c:e b=.ok y b):dL bP (aq d (aq e aC)) b=.ok (.tup [x,y]) b:=by simp[dL,aq,aC,h,c,R.bind,aF,bP]
theorem xU{f:PV->PV->Option PV}{d e:ak->R PV}{b:ak}{x y z:PV}(h:d b=.ok x b)(g:e b=.ok y b)(c:f x y=aa z):d2 f d e b=.ok z b:=by simp[d2,h,g,c,R.bind,aF]
theorem Ol(q:Wh a)(b:List Int):uj a [cF b]=.ok (.val (.bl ah)) [cF b]:=by
 obtain⟨sp,p0,p3,N⟩:=qu (a:=a) b [] 3 (by decide) (by simp);obtain⟨s,rfl⟩:∃s:Nat,sp=(s:Nat):=⟨sp.toNat,∅⟩
 obtain⟨w,ls,f,c,d,_,g,j,h7,_,z,M⟩:=OW (a:=a) b ([]++[.int 0]) s 7 ∅ (by decide) (by decide) (by simp);simp only[iq,d_,j3]at N M z;have u:t9 a [cF b,.own (.lst [.int 0]),⇑s,⇑7]=.ok (.val (aU w ls)) [cF b,.own (.lst f),⇑s,⇑7]:=M;obtain⟨x,hx,T,hy1,r⟩:=JQ (a:=a) b f ∅;have Q:=Tu q (Pj (a:=a) (SD x hx));have h:=sym_rev;have t:=h.good g;have m:=oZ (ls.map dr);have v:=mirrored_eq (a:=a) g c d j;have L:=mirrored_eq (a:=a) t c d m;rw[h.back j]at L;have C:=BU (a:=a) g c d j;have B:=BU (a:=a) t c d m;have D:=Eg (a:=a) g c d j;have W:=Eg (a:=a) t c d m;have O:=h.texts h g c j;have J:(eD w (aR (ls.map dr))).length=(eD w ls).length:=by rw[O,(eY _).length_eq,cM]
 have o:=short_eq (a:=a) g c d j;have n:=short_eq (a:=a) t c d m;have X:=h.short h g c;obtain⟨k1,gE,H⟩:=fewest_texts_eq (a:=a) g c d j;obtain⟨y,cD,G⟩:=fewest_texts_eq (a:=a) t c d m;have hk:y=k1:=cD.uniq (h.min h (eY _) gE);subst hk;have htl:=Gx g c d;have F:bG (aU w ls) (.int 0)=aa (.int w):=rfl;have E:bG (aU w ls) (.int 1)=aa (.tup (ao ls)):=rfl;have A:ma [.lst (ao (aR (ls.map dr)))]=aa (.tup (ao (aR (ls.map dr)))):=rfl;have lh:bw [.str (short ls)]=aa (.int ((short ls).length:Nat)):=rfl;have jI:bw [.str (short (aR (ls.map dr)))]=aa (.int ((short (aR (ls.map dr))).length:Nat)):=rfl;have S:yaB a [cF b,.none,.none,.none,.none]=.ok (.ret (.val (.bl ah))) [cF b,.own (.lst T),⇑s,.val (aU w ls),.val (aU w (aR (ls.map dr)))]:=by
  unfold yaB;refine(dZ (ε1:=[cF b,.own (.lst []),.none,.none,.none]) (by simp![])).trans ?_;refine(dZ (ε1:=[cF b,.own (.lst [.int 0]),⇑s,.none,.none]) (by simp![N])).trans ?_;refine(dZ (ε1:=[cF b,.own (.lst f),⇑s,.val (aU w ls),.none]) (by generalize aU w ls=V0 at u;generalize ((s:Nat):Int)=SP at u;simp![u])).trans ?_;refine(dZ (ε1:=[cF b,.own (.lst f),⇑s,.val (aU w ls),.val (aU w (aR (ls.map dr)))]) (by generalize aU w (aR (ls.map dr))=V2 at v;generalize aU w ls=V0 at v;simp![v])).trans ?_;have i:dV 3 [cF b,.own (.lst f),⇑s,.val (aU w ls),.val (aU w (aR (ls.map dr)))]=.ok (aU w ls) [cF b,.own (.lst f),⇑s,.val (aU w ls),.val (aU w (aR (ls.map dr)))]:=rfl;have l:dV 4 [cF b,.own (.lst f),⇑s,.val (aU w ls),.val (aU w (aR (ls.map dr)))]=.ok (aU w (aR (ls.map dr))) [cF b,.own (.lst f),⇑s,.val (aU w ls),.val (aU w (aR (ls.map dr)))]:=rfl;have P:∀(k:PV) (K:ak),dC k K=.ok k K:=λ_ _=>rfl;have Y:jV [] fu (nt (dV 0) (bx (d1 cG (dC (.int 1))))) (ao ls) [] [cF b,.own (.lst f),⇑s,.val (aU w ls),.val (aU w (aR (ls.map dr)))]=_:=rev_comp ls _;have I:jV [] fu (nt (dV 0) (bx (d1 cG (dC (.int 1))))) (ao (eD w ls)) [] [cF b,.own (.lst f),⇑s,.val (aU w ls),.val (aU w (aR (ls.map dr)))]=_:=rev_comp (eD w ls) _;have Z:=uE (ls:=ls.map dr) (by rw[cM];have:=g.few;lia);have mM:=uE (ls:=(eD w ls).map dr) (by rw[cM];lia);have e1:Pu.eqT ah (.lst (ao (eD w (aR (ls.map dr))))) (.lst (ao (aR ((eD w ls).map dr))))=aa (.bl aj):=by rw[Hz,decide_eq_true O];rfl
  have e2:Pu.eqT ah (.int ((eD w (aR (ls.map dr))).length:Nat)) (.int ((eD w ls).length:Nat))=aa (.bl aj):=by rw[lz,J,decide_eq_true rfl];rfl
  have e3:Pu.eqT ah (.int ((short (aR (ls.map dr))).length:Nat)) (.int ((short ls).length:Nat))=aa (.bl aj):=by rw[lz,X,decide_eq_true rfl];rfl
  have e4:Pu.eqT ah (.int y) (.int y)=aa (.bl aj):=by rw[lz,decide_eq_true rfl];rfl
  refine(dZ (B4 (rY l (N1 (xU i (P _ _) F) (ul (Ey (ul (comp_any (GM (xU i (P _ _) E) rfl) Y) Z)) A)) (eqT_vs ah w _ _ rfl)) (rY (pT l L) i (eqT_vs ah w _ _ rfl)))).trans ?_;refine(dZ (B4 (rY (Gj l B) (Ey (ul (comp_any (GM (Gj i C) rfl) I) mM)) e1) (rY (pT l W) (pT i D) e2))).trans ?_;refine(dZ (B4 (rY (ul (pT l n) jI) (ul (pT i o) lh) e3) (rY (pT l G) (pT i H) e4))).trans ?_;have p:Pu.eqT aj (rf 2) (.tup [.str [114,101,102,117,115,101,100],.int 2])=aa (.bl ah):=rfl;generalize rf 2=Rf at Q p;generalize aU w (aR (ls.map dr))=V2;generalize aU w ls=V0;simp![r,Q,p]
 simp[uj,bp,et,bu,bO,S,back,fk,aF,R.bind]
end
open L2 Pu Sh
def u8(K:ax)(a:Ad):Bool:=pi K a.SlitError uP "ValueError.__new__" && (jf a).all (λx=>pi K x uP "ValueError.__new__" && subB K a.SlitError x&&xM K x&&(jf a).all (λd=>eO K (.ref x) (.ref d) == aa (x == d))&&eO K (.ref x) (.type "ValueError") == aa ah)&&zJ K&&decide (jf a).Nodup
section
variable{K:ax}{h g:aB}{i:Str->Option ai}{a:Ad}
theorem uq(h:u8 K a=ah):pi K a.SlitError uP "ValueError.__new__"=ah/\(∀x∈jf a,pi K x uP "ValueError.__new__"=ah/\subB K a.SlitError x=ah/\xM K x=ah/\(∀d∈jf a,eO K (.ref x) (.ref d)=aa (x == d))/\eO K (.ref x) (.type "ValueError")=aa ah)/\zJ K=ah/\(jf a).Nodup:=by unfold u8 at h;simp only[ge,qN,beq_iff_eq,decide_eq_true_eq]at h;obtain⟨⟨⟨l,c⟩,j⟩,f⟩:=h;exact⟨l,λx b=>⟨(c x b).1.1.1.1,(c x b).1.1.1.2,(c x b).1.1.2,(c x b).1.2,(c x b).2⟩,j,f⟩
theorem Pn(h:u8 K a=ah):Ax K (jy a):=by
 obtain⟨_,l,_,_⟩:=uq h;intro c D b e;unfold jy at e;split at e
 .rename_i x d;split at e
  .rename_i f;rw[ge]at f;cases e;have j:x∈jf a:=by simpa using f.1
   have m:d∈jf a:=by simpa using f.2
   exact⟨x,.ref d,rfl,E4 (l x j).2.2.1,rfl,(l x j).2.2.2.1 d m⟩
  .cases e
 .rename_i x T;split at e
  .rename_i f;rw[ge]at f;cases e;have j:x∈jf a:=by simpa using f.1
   have n:T = "ValueError":=by simpa using f.2
   subst n;exact⟨x,.type "ValueError",rfl,E4 (l x j).2.2.1,rfl,(l x j).2.2.2.2⟩
  .cases e
 .cases e
theorem Qo(X:K.In g)(h:u8 K a=ah):∀c,rG a c=ah->Under g a.SlitError c:=by
 obtain⟨_,d,_,_⟩:=uq h;intro c e;unfold rG at e;split at e
 .rename_i x;have b:x∈jf a:=by simpa using e
  exact Md X (d x b).1 (d x b).2.1
 .cases e
structure Top(K:ax)(a:Ad):Prop where
 yaD:c_ K "_law_cell_at" zZ
 yaF:c_ K "_law_mixed" zO
 yaE:c_ K "_law_draw" A0
 yaI:c_ K "_law_seen" wU
 yaH:c_ K "_law_pick" BW
 yaJ:c_ K "_law_text" AI
 yaK:c_ K "_law_view" Ak
 yay:c_ K "is_whole_number" As
 yaz:c_ K "is_width" B9
 yau:c_ K "has_only" xr
 yaA:c_ K "is_window" BI
 yao:c_ K "are_windows" xx
 yax:c_ K "is_view_with" BB
 yaw:c_ K "is_view" Bc
 yap:c_ K "check_view" B_
 yaR:c_ K "view_of" Ao
 yaN:c_ K "mirrored" yo
 yam:c_ K "add_endings" Az
 yaq:c_ K "counted" Ae
 yaQ:c_ K "texts" yT
 yav:c_ K "how_many" AO
 yaO:c_ K "reached_pieces" Aa
 yar:c_ K "excesses" zS
 yas:c_ K "fewest_for" yc
 yat:c_ K "fewest_texts" uQ
 yan:c_ K "added_letters" AC
 yaS:c_ K "without" BS
 yaM:c_ K "least_ending" AA
 yaP:c_ K "shortest" By
 yaL:c_ K "_law_which" AD
 yaC:c_ K "_law_ask" Ar
 yaG:c_ K "_law_odd" B7
 yaB:c_ K "law" rA
 yaU:c7 K bQ "ValueError"=aa ae
 yaV:c7 K bQ "all"=aa ae
 yaW:c7 K bQ "any"=aa ae
 yaX:c7 K bQ "bool"=aa ae
 yaY:c7 K bQ "int"=aa ae
 yaZ:c7 K bQ "isinstance"=aa ae
 ya0:c7 K bQ "len"=aa ae
 ya1:c7 K bQ "list"=aa ae
 ya2:c7 K bQ "max"=aa ae
 ya3:c7 K bQ "min"=aa ae
 ya4:c7 K bQ "range"=aa ae
 ya5:c7 K bQ "set"=aa ae
 ya6:c7 K bQ "sorted"=aa ae
 ya7:c7 K bQ "str"=aa ae
 ya8:c7 K bQ "sum"=aa ae
 ya9:c7 K bQ "tuple"=aa ae
 ybb:∃t,c7 K bQ "LETTERS"=aa (aa (.str (tS [97,98,99]) t))
 ybc:∃t,c7 K bQ "MOST_WINDOWS"=aa (aa (.int 9 t))
 ybd:∃t,c7 K bQ "WIDEST"=aa (aa (.int 4 t))
 yak:c7 K bQ "SlitError"=aa (aa (.ref a.SlitError))
 yaf:c7 K bQ "NoText"=aa (aa (.ref a.NoText))
 yah:c7 K bQ "NoWidth"=aa (aa (.ref a.NoWidth))
 yag:c7 K bQ "NoView"=aa (aa (.ref a.NoView))
 yai:c7 K bQ "NoWindow"=aa (aa (.ref a.NoWindow))
 yac:c7 K bQ "Never"=aa (aa (.ref a.Never))
 yab:c7 K bQ "Full"=aa (aa (.ref a.Full))
 yaj:c7 K bQ "Nothing"=aa (aa (.ref a.Nothing))
 yal:c7 K bQ "Unlike"=aa (aa (.ref a.Unlike))
 yae:c7 K bQ "NoPlace"=aa (aa (.ref a.NoPlace))
 yad:c7 K bQ "NoLetters"=aa (aa (.ref a.NoLetters))
 yaa:c7 K bQ "BadText"=aa (aa (.ref a.BadText))
 ck:u8 K a=ah
 z_least_ending:lH K "least_ending"=aa (269,265)/\za K 269 265=ah/\K.lookup 265=ae
 wh:Wh a
theorem Mo(T:Top K a)(X:K.In g)(G:g.Ns bQ i):dq K i g a where
 yaD:=T.yaD.at X G
 yaF:=T.yaF.at X G
 yaE:=T.yaE.at X G
 yaI:=T.yaI.at X G
 yaH:=T.yaH.at X G
 yaJ:=T.yaJ.at X G
 yaK:=T.yaK.at X G
 yay:=T.yay.at X G
 yaz:=T.yaz.at X G
 yau:=T.yau.at X G
 yaA:=T.yaA.at X G
 yao:=T.yao.at X G
 yax:=T.yax.at X G
 yaw:=T.yaw.at X G
 yap:=T.yap.at X G
 yaR:=T.yaR.at X G
 yaN:=T.yaN.at X G
 yam:=T.yam.at X G
 yaq:=T.yaq.at X G
 yaQ:=T.yaQ.at X G
 yav:=T.yav.at X G
 yaO:=T.yaO.at X G
 yar:=T.yar.at X G
 yas:=T.yas.at X G
 yat:=T.yat.at X G
 yan:=T.yan.at X G
 yaS:=T.yaS.at X G
 yaM:=T.yaM.at X G
 yaP:=T.yaP.at X G
 yaL:=T.yaL.at X G
 yaC:=T.yaC.at X G
 yaG:=T.yaG.at X G
 yaB:=T.yaB.at X G
 yaU:=jG X G T.yaU
 yaV:=jG X G T.yaV
 yaW:=jG X G T.yaW
 yaX:=jG X G T.yaX
 yaY:=jG X G T.yaY
 yaZ:=jG X G T.yaZ
 ya0:=jG X G T.ya0
 ya1:=jG X G T.ya1
 ya2:=jG X G T.ya2
 ya3:=jG X G T.ya3
 ya4:=jG X G T.ya4
 ya5:=jG X G T.ya5
 ya6:=jG X G T.ya6
 ya7:=jG X G T.ya7
 ya8:=jG X G T.ya8
 ya9:=jG X G T.ya9
 ybb:=T.ybb.imp λ_ e=>ir X G e
 ybc:=T.ybc.imp λ_ e=>ir X G e
 ybd:=T.ybd.imp λ_ e=>ir X G e
 yak:=ir X G T.yak
 yaf:=ir X G T.yaf
 yah:=ir X G T.yah
 yag:=ir X G T.yag
 yai:=ir X G T.yai
 yac:=ir X G T.yac
 yab:=ir X G T.yab
 yaj:=ir X G T.yaj
 yal:=ir X G T.yal
 yae:=ir X G T.yae
 yad:=ir X G T.yad
 yaa:=ir X G T.yaa
 yba:=Ly X (ir X G T.yag) ((uq T.ck).2.1 a.NoView (by simp[jf])).1
 err_SlitError:=RC X (uq T.ck).1
 und:=Qo X T.ck
 tab:=Pn T.ck
 yaT:=⟨_,_,Qn X G T.z_least_ending.1 T.z_least_ending.2.1⟩
theorem Nw{l:Cu}{w:aE}{d:ag}(X:K.In h)(G:h.Ns bQ i)(b:i "law"=aa (.ref d))(T:Top K a):∃c:il,(∀(s:am) (v:ai),BindsTo s c ⟨[v],[]⟩ [("_law_script",v)])/\∀g:aB,K.In g->g.Ns bQ i->lp l.prog w K i g (cr l.prog w) 16 d c ["_law_script"] (bM K (uj a)):=by
 obtain⟨f,oc,u,kV,x,t,A,z,y,r,o,n,m,j⟩:=T.yaB;have e:=b.symm.trans (ir X G o);cases e;exact⟨_,λs v=>.of_eq rfl,λg p q=>Ox (Mo T p q) (G7 n m j)⟩
theorem MQ{l:Cu}{q:aQ}{j:List Str}{XP:(Str->Option ai)->aB->Prop}{p:aE->aB->Prop}{d:DefRec}{K:Params->ax}(y:l.most=aa 63)(u:d.params.defaults=[])(m:d.name = "law")(o:∀(w:aE) (h:aB),p w h->(K w.params).In h/\h.get? 265=aa (PySem.W.tabObj #[])) {a:Ad} (T:∀w:aE,Top (K w.params) a):PySem.W.WalkO q j XP p l.row.toRowW d [] (λf t=>PySem.call f t) :=
 L2.UI (n:=63) (k:=16) (x:="_law_script") (K:=K) (CX:=λw=>cr l.prog w) (sp:=λw=>bM (K w.params) (uj a)) y (by decide) u ⟨rfl,by decide,by decide⟩ (λw h Y=>⟨(o w h Y).1,λc P e=>by rw[(T w).z_least_ending.1]at e;cases e;exact⟨(T w).z_least_ending.2.1,(T w).z_least_ending.2.2,(o w h Y).2⟩⟩)
  (λw i E h B G r=>Nw B G (by rw[<-m];exact r) (T w))
  (λw H b v D _ A=>R6 (Rb (uq (T w).ck).2.2.1 A) (Ol (T w).wh v))
  (λw H s e C z=>by obtain⟨_,_,_,_,_,_,_,_,_,_,_,f⟩:=z;exact f)
theorem UD{l:Cu}{q:aQ}{b:List Str}{XP:(Str->Option ai)->aB->Prop}{j:aE->aB->Prop}{d:DefRec}{K:Params->ax}{yak yaf yah yag yai yac yab yaj yal yae yad yaa:ag}(o:l.most=aa 63)(n:d.params.defaults=[])(c:d.name = "law")(p:∀(w:aE) (h:aB),j w h->(K w.params).In h/\h.get? 265=aa (PySem.W.tabObj #[])) (T:∀w:aE,Top (K w.params) ⟨yak,yaf,yah,yag,yai,yac,yab,yaj,yal,yae,yad,yaa,0,0⟩):PySem.W.WalkO q b XP j l.row.toRowW d [] (λf m=>PySem.call f m):=MQ o n c p T
end
end K35
set_option genInjectivity false in
structure PySem.W.Fast:Prop where(tw664875268362461121 tw15734888919867632129 tw6442185734331635797 tw2930498380484659980 tw662918339986106748 tw871836299611870922 tw8822244613548441885 tw10012157501990677579 tw1387503363809598577 tw7883751447230753148 tw580260889045579995 tw14714091564687747260 tw6664939852363030138 tw731007368199337957 tw5775884149894462379 tw10710009014683658356 tw1600253097091765438 tw7367202834218560375 tw7935387436862178599 tw12386778514206024215 tw2475151067885546454 tw15199766134235273730 tw16947552215972333973 tw1436430983225448541 tw10615761903139434696 tw14430724312011098098 tw17250396056968985058 tw520837031511965577 tw7607358855025775596 tw13479989882107969557 tw1252235086646051557 tw6969703860193194881 tw6951188767586583044 tw13046539807320567937 tw13930209413981014409 tw16593139965185206179 tw1056221014891146553 tw12689918868574238840 tw2470248049937066540 tw4006256143172574509 tw4369697376156132050 tw1498198952612252362 tw17638904953413623033 tw8108833195461934485 tw16560240203136180385 tw8759572427835043224 tw14852793593757891718 tw1290805053489638686 tw1410706655897599860 tw6597415103338461891 tw18099372069803287331 tw2462966888481179046 tw8121174557454923636 tw1201911676131756153 tw1082245292529934228 tw11090420404615094942 tw17584887781633224225 tw17248760747944701787 tw4774980895874281816 tw14124752808692858948 tw2971157461562705884 tw6535533404572979385 tw8525152800051738904 tw12227154050197369455 tw14470748186441897098 tw11209438106167453490 tw10278735748091866515 tw5076377403691425858 tw2463628821912748869 tw10015115901130613170 tw9926662617481033176 tw16104147788597867788 tw15197347774838085855 tw16703023684886700918 tw4549202576395461846 tw11930727531228634118 tw18392076304378613469 tw5999715422856064355 tw11450954937050770664 tw18408105975494066879 tw11152090506760654026 tw9249387368156632772 tw13465637853307311099 tw4777896048001750135 tw8079578257421744358 tw17022035876744686295 tw6052224895892611544 tw6356698345098172307 tw1133163763521600821 tw13651117071431963969 tw13188182012980070177 tw17171214010235099613 tw7587575320388749806 tw2690402644702922579 tw5052854753541727037 tw11431604603296088453 tw7444305598580944470 tw16486242826805899756 tw3073700005436989662 tw16520278533632219365 tw5229036074226203533 tw10603159343744224245 tw2834079133691911044 tw14195195497210420162 tw3373014968593947417 tw12599265954917004845 tw10665938150961801620 tw9208536568121829821 tw12670985945003156767 tw2095840971973766178 tw9325651997191515886 tw6362962278630975057 tw12268910344398973958 tw7767580588348651927 tw17822791742741921342 tw6594092877428316404 tw8076251257982089602 tw7552487712838450981 tw5793733485499299127 tw14537440443944655339 tw5476846759043446388 tw6026403641055060715 tw12600927603259220795 tw9520790486179579942 tw8690763984901908530 tw14228264852097964305 tw1276835424188378123 tw16336707502647666290 tw474211786949051845 tw7717342797391934052 tw16891835420935829125 tw9585770364041064787 tw5481215455627865356 tw3457508169352943887 tw15002159081557659330 tw9737029102656544724 tw5824337344397967174 tw7928697735190271282 tw12999680913104197559 tw16798098323817402096 tw16420089639289723488 tw12809341325283474273 tw10646471602987017164 tw3046854136309599394 tw7127654257980167964 tw11438253965481686844 tw14043634508911214533 tw16125486463165926488 tw4818056261351630280 tw14057611603845129521 tw13989735741729858159 tw17902071213782034306 tw9913212912283433996 tw4264518395119994236 tw1581241761573007640 tw12380703908031536256 tw6691200417580112652 tw14195674294604165801 tw15119902724843493069 tw4782273422454145086 tw6535624557577805461 tw16562421491586824701 tw5879667761705826865 tw7275381573625457692 tw3505803125051377581 tw3619595148143672676 tw2381688653328474624 tw6753443405927179813 tw270996483840385527 tw373678582085037341 tw3977441442570612332 tw11383352635992288793 tw800902369356116501 tw12855442058019941271 tw9743792415253888436 tw1044846117519541598 tw222308037537646592 tw455969402555588671 tw16950759456261929518 tw14164528450377525868 tw2017272654039354107 tw9122178829369995101 tw3837707838218566524 tw8375409380804045773 tw1756723276176031949 tw17416921356225813795 tw3247735568417094899 tw15539894359199471837 tw6138827688160745733 tw5329387955598815882 tw17243805829417862327 tw16997555602046514511 tw4094586900054678654 tw1539416517986262244 tw11490092063559112276 tw7785456221445484670 tw8244440816879905038 tw15579241146089470437 tw15567986975100643234 tw15090116436659396131 tw2403607992847066007 tw5873721816660951441 tw5390492882284272049 tw908921122494007039 tw7301844980825631209 tw7190033556916614768 tw9755003324153933033 tw4854061743935144177 tw14554331943597899069 tw4733166801802278182 tw8398749895084281171 tw9695595974995812671 tw10700445110853212084 tw11291909793722264829 tw17022804374770040654 tw1147011540504682610 tw14864169025905879898 tw10631983586428054345 tw892749145020817138 tw15266537451616330720 tw10261619302724284369 tw3033866423239297938 tw14807710404409246763 tw9297463245399132350 tw10064406244254082320 tw17647091548576517266 tw4624108055369761987 tw10424281050617167156 tw3943371493396860890 tw17786670136458906042 tw9764248931738801836 tw13148779650050963651 tw3346978904982967193 tw9885852938121139125 tw14060206057896615387 tw7198857604202941770 tw10245475750483814191 tw6456766195664220487 tw11545410403536202794 tw8343800820579464129 tw1188772528792769307 tw11295219582963305473 tw4690689950356588875 tw10431826802976051051 tw17938617711521653975 tw5329887785277367521 tw13806899226261882734 tw106612836159115574 tw1761863542165035933 tw17091503297464535610 tw13661404295420648367 tw13816152184133412453 tw69796849636472380 tw3693558144591365549 tw17782411751544189959 tw3624273707156257948 tw604564942545934950 tw2371361580700945718 tw17544981172220607309 tw1544957939964687178 tw17075568740426285603 tw12840596434452436647 tw3253419093006710927 tw6465830286967538506 tw10582707929100543361 tw3966213503928351970 tw671120751859314728 tw10526572419359373644 tw17361797899241057156 tw544437071373447502 tw14994770803446323355 tw7194465866250986573 tw348722930420556254 tw18305457785113931808 tw1883430271066440467 tw11341907580161732793 tw7604535768531399770 tw3241158249671546968 tw6248464306959204356 tw11270683083855167791 tw11039683095997408162 tw1363809913735767757 tw7520552190439695796 tw800387205036112952 tw5941370531512032922 tw9057165195149705328 tw2816232276131880537 tw6983626208671590037 tw12161762828028982409 tw9992113967695333082 tw8566425842246784416 tw14215833311415887475 tw13149576239081661219 tw1271167628197117446 tw14033019187685763476 tw1986085177190460327 tw5353419088631429143 tw4519764439540850679 tw4709984118891688905 tw12466780162764619867 tw12933989216578971500 tw4074370154596901749 tw15651996018656018559 tw15141224431406778928 tw18247313769452066546 tw4132939812355380780 tw16212252962805151633 tw4602759051753947848 tw2353609916307667513 tw11178192863476052912 tw15281829933578397649 tw13540822777016184439 tw14363970254758771400 tw11363027887068507647 tw8389968404526002196 tw17933469606526819893 tw17455762215696981546 tw15797952215423698833 tw13535191126480286288 tw12864911357523443850 tw8341154946479535265 tw4967313617373691533 tw14430941280717112242 tw2418737299811393004 tw1263575101353947134 tw14189093861043668792 tw10577654222261489761 tw6780832371691635156 tw1446235580886072814 tw8136905289179630029 tw8194044845904065643 tw3874678686932255937 tw8051793473122947550 tw9995230742634204091 tw1303840969404149944 tw11696948574986177895 tw12297026122612340075 tw16452032294643710409 tw18300944236348174920 tw88152173486515442 tw13409171429215633709 tw1737985938189315050 tw12125985780687548033 tw4160157805992424588 tw2078724805555194819 tw8562055184485579352 tw13760849263583904856 tw15409165925273134556 tw3983007084567233604 tw6723491060735217010 tw10744474056293417815 tw2000784170266337548 tw14717260158669563357 tw3081036366991212458 tw8425862461011740284 tw4004953195516335468 tw7233757072879154066 tw13442506646822892666 tw10786584847868556620 tw3581762379470599934 tw5631195272492202902 tw11145751758908221505 tw13174195587738803222 tw11174268784521555438 tw10509608476515272152 tw11249211507718969329 tw7561902413787660413 tw11541989442342434066 tw7427192302480277362 tw563731589842074773 tw13645097168927035000 tw8672406549657106835 tw6556816484037869531 tw6152221722618387271 tw2435777464427739172 tw17917265842056493198 tw7494965578098952051 tw10959349970353363093 tw4912415170909569996 tw4546850618934393010 tw853896830014911177 tw10179965173937140175:True)
open PySem PySem.W PyProof.Rows
set_option maxRecDepth 100000 in
set_option maxHeartbeats 0 in
theorem PySem.Challenge.cw_slitview_k35_whole_mirrored_holds : PySem.Challenge.rw_slitview_k35_whole_mirrored.Holds := by
 w_on; o_law; k_head; (case hw=>w_witness2)
 k_fill
 refine' K35.UD (l:=PySem.Challenge.rw_slitview_k35_whole_mirrored) rfl rfl rfl (fun w h Y=>⟨PySem.W.km_in_of Y,PySem.W.km_tabs_of Y _ (by simp)⟩) ?T
 case T =>
  intro w
  refine' { yaD:=?yaD,yaF:=?yaF,yaE:=?yaE,yaI:=?yaI,yaH:=?yaH,yaJ:=?yaJ,yaK:=?yaK,yay:=?yay,yaz:=?yaz,yau:=?yau,yaA:=?yaA,yao:=?yao,yax:=?yax,yaw:=?yaw,yap:=?yap,yaR:=?yaR,yaN:=?yaN,yam:=?yam,yaq:=?yaq,yaQ:=?yaQ,yav:=?yav,yaO:=?yaO,yar:=?yar,yas:=?yas,yat:=?yat,yan:=?yan,yaS:=?yaS,yaM:=?yaM,yaP:=?yaP,yaL:=?yaL,yaC:=?yaC,yaG:=?yaG,yaB:=?yaB,yaU:=?yaU,yaV:=?yaV,yaW:=?yaW,yaX:=?yaX,yaY:=?yaY,yaZ:=?yaZ,ya0:=?ya0,ya1:=?ya1,ya2:=?ya2,ya3:=?ya3,ya4:=?ya4,ya5:=?ya5,ya6:=?ya6,ya7:=?ya7,ya8:=?ya8,ya9:=?ya9,ybb:=?ybb,ybc:=?ybc,ybd:=?ybd,yak:=?yak,yaf:=?yaf,yah:=?yah,yag:=?yag,yai:=?yai,yac:=?yac,yab:=?yab,yaj:=?yaj,yal:=?yal,yae:=?yae,yad:=?yad,yaa:=?yaa,ck:=?ck,z_least_ending:=?z_least_ending,wh:=?wh }
  (case yak=>k_is)
  (case yaf=>k_is)
  (case yah=>k_is)
  (case yag=>k_is)
  (case yai=>k_is)
  (case yac=>k_is)
  (case yab=>k_is)
  (case yaj=>k_is)
  (case yal=>k_is)
  (case yae=>k_is)
  (case yad=>k_is)
  (case yaa=>k_is)
  (case yaD=>and_intros)
  (case yaF=>and_intros)
  (case yaE=>and_intros)
  (case yaI=>and_intros)
  (case yaH=>and_intros)
  (case yaJ=>and_intros)
  (case yaK=>and_intros)
  (case yay=>and_intros)
  (case yaz=>and_intros)
  (case yau=>and_intros)
  (case yaA=>and_intros)
  (case yao=>and_intros)
  (case yax=>and_intros)
  (case yaw=>and_intros)
  (case yap=>and_intros)
  (case yaR=>and_intros)
  (case yaN=>and_intros)
  (case yam=>and_intros)
  (case yaq=>and_intros)
  (case yaQ=>and_intros)
  (case yav=>and_intros)
  (case yaO=>and_intros)
  (case yar=>and_intros)
  (case yas=>and_intros)
  (case yat=>and_intros)
  (case yan=>and_intros)
  (case yaS=>and_intros)
  (case yaM=>and_intros)
  (case yaP=>and_intros)
  (case yaL=>and_intros)
  (case yaC=>and_intros)
  (case yaG=>and_intros)
  (case yaB=>and_intros)
  (case yaU=>k_is)
  (case yaV=>k_is)
  (case yaW=>k_is)
  (case yaX=>k_is)
  (case yaY=>k_is)
  (case yaZ=>k_is)
  (case ya0=>k_is)
  (case ya1=>k_is)
  (case ya2=>k_is)
  (case ya3=>k_is)
  (case ya4=>k_is)
  (case ya5=>k_is)
  (case ya6=>k_is)
  (case ya7=>k_is)
  (case ya8=>k_is)
  (case ya9=>k_is)
  (case ybb=>refine' Pu.Ux ?e; (case e=>k_is))
  (case ybc=>refine' Pu.UB ?e; (case e=>k_is))
  (case ybd=>refine' Pu.UB ?e; (case e=>k_is))
  (case ck=>kernel_rfl)
  (case z_least_ending=>refine⟨?u1,?u2,?u3⟩; (case u1=>kernel_rfl); (case u2=>kernel_rfl); (case u3=>kernel_rfl))
  (case wh=>refine K35.UC ?_; kernel_rfl)
