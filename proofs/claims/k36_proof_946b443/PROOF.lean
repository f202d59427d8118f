import PyProof.Rows.All
import Wide.All
import OpenK.AllK
import Wide.FinOn
import Lean
import PyProof.EqAt
import PyProof.EqKinds
import PyProof.TupleCall
import KE.KIntText
import KE.KDictList
import KE.KDictSum
import PyProof.Rows.Range3
import PyProof.DictWalks
import KE.KMinKey
import KE.KSortTup
import PyProof.EnumStmt
import PyProof.EnumMake
import PyProof.EnumFor
import PyProof.Draws
import PyProof.Rows.TupDisplay
import PyProof.Rows.SumAny
import KE.LcSums
import PySem.Challenge.RW_slitview_k36_whole_renamed
noncomputable section
set_option compiler.extract_closed false
local macro_rules | `(∅) => `(by first | assumption | lia | omega)
set_option Elab.async false
set_option bootstrap.genMatcherCode false
set_option genSizeOf false
set_option linter.all false
set_option maxRecDepth 100000
local macro_rules | `(tactic| ac_nf) => `(tactic| exact ⟨rfl,rfl,rfl,by decide +kernel,rfl,by decide +kernel,by decide +kernel⟩)
open Option renaming some->aa,none->ae,bind_some->gG,map_eq_some_iff->mF,map_some->pE,isSome_map->vY,isSome_iff_exists->CP,getD_none->Jc,getD_some->JQ
open PySem renaming Addr->ag,Value->ai,Shared->am,wpAny_bind->ar,wpAny->au,model->ax,Expr->az,Heap->aB,World->aG,wpAny_pure->aI,eval->aL,starEach->aN,Program->aS,Around->aV,Stmt->ba,sizeLine->bd,mainGlobals->bU,backTo->c_,Scope->dH,rawInt->ez,wpAny_mono->eG,compareOp->eJ,bootBuiltins->eM,bindArgs->fZ,cellsFrom->f9,NameKind->g9,FuncData->iD,binaryOp->iX,wpAny_holding->js,strKind->ju,Keyword->jN,sysModules->j8,attributeBase->j9,Paired->kC,swapsWith->kD,SetTable->kG,sizeLine_eq->k_,codeAny->lO,mem_of_lookup->lP,hashStr->mz,pyIter->mD,isTrue->nW,behindInMarks->nX,wpAny_truthy_bool->nY,holding->nZ,foldedSetIterable->n6,codeAny_mono->n8,IsPart->n9,wpAny_newObj_type->n_,wpAny_rule->og,codeAny_builtin->oh,setNext->oj,setField->ol,builtinsNs->pq,assign->qO,Arguments->qS,wpAny_field->qT,getItem->qU,backToKw->qW,keywordEach->qX,plainId_quiet->rg,reduceHash->tI,wpAny_passesOwn->tJ,wpAny_call->tL,wpAny_Call_Name_kw->tN,sliceBounds->tO,call_meets->tR,valueAt->tT,callerA->tU,relayAll->tZ,wpAny_setState_of->t4,wpAny_askSetting->t6,wpAny_setField->t7,tupleKind->vN,codeAmong->vO,recursionLimit->vS,wpAny_call_entry->vV,pickOrder->wb,eqIsQuiet->wf,wpAny_tryCatch->wg,wpAny_Name->zo,wpAny_loadPart'->zt,tupleKind_room_in1->zv,wpAny_specialOf->zw,closureFor->zy,wpAny_of_eq->zC,isInstance->zD,setsByText->zF,wpAny_seqItems->zH,wpAny_ite_split->zI,setFlight->zM,wpAny_execs_nil->CG,PassesOwn->CH,letOwnedTupleGo->CJ,IsRangeIter->CL,subscripted->CT,wpAny_pyIter_list->C4,excClassObj->Db,wpAny_forIn_list->Dl,wpAny_letGo->Dm,wpAny_loadName_local->IQ,wpAny_execs_cons->IS,noFill_tuple_add->IY,checkBuiltinCall->Jo,wpAny_isInstance->Jp,codeAny_call_builtin->Jr,wpAny_loadPart_at->Ju
open Bool renaming true->ah,false->aj,false_ne_true->fq,and_eq_true->gn,eq_iff_iff->lM,false_eq_true->mI,true_xor->t_,not_true->ua,or_eq_true->zA,false_xor->Dj,not_false->Ds,eq_false_iff->Jv,not_eq_true'->Jx
open PySem.W renaming Frag->ay,nsIn->df,kitOne->eV,mg_of->h_,fnOf->iY,mg_none_of->jP,tabIn->lJ,kia_one->lN,excIn->pG,findIn->qP,keepIn->qQ,InstAt->vR,codeIn->vT,mroIn->zp,codeHdIn->zx,OpenLaw->CZ,clsIn->Dc,kla_obj->Dk,methodObj->IP,specialIn->IV,callWith_K->IW,cellsFrom_some->IX
open PyProof.Rows renaming wpS_bind->aJ,wpS_pure->aY,pendingOf->bw,SortSt->bN,StrsAre->eO,seqObj->fz,wpS_mono->ie,wpS_forRange->ig,envOfC->jt,SortKind->jv,size_push'->kc,wpS_get->lQ,pairsOf->mL,AllBare->nV,wpS_modify->ot,wpS_lift->t9,get?_update_seq->zK,listUpdate_at->C6,callWith_type1->IT,callWith_builtin1->Ur,slot_tuple_getitem->Us
open Nat renaming le_refl->a9,le_trans->cP,ne_of_lt->c8,lt_irrefl->fG,lt_of_lt_of_le->fY,zero_le->jO,lt_succ_of_lt->lh,le_of_lt->lK,ne_of_gt->mC,le_of_eq->mG,lt_succ_self->mJ,zero_add->oq,add_assoc->pF,lt_of_le_of_lt->vZ,le_succ->v7,eq_zero_or_pos->wo,mul_le_mul->zB,succ_mul->CW,lt_trans->CY,sub_self->De,min_eq_left->Dr,add_right_comm->Jw
open PySem.Heap renaming get?_push_of_some->bu,lt_size->bR,get?_push_size->cI,SameBut->k9,get?_update_self->pA,get?_update_other->pB,get?_none_of_le->vQ,size_push->zz,get?_update_ne->Js,size_update->Jt
open List renaming mem_cons->bC,replicate->bK,length_map->cn,size_toArray->cr,map_cons->cu,mem_map->cx,length_append->cQ,range->dy,map_map->dI,getElem?_eq_some_iff->d7,length_cons->eh,append_assoc->eN,getElem?_set_ne->fe,getElem?_eq_getElem->fg,mem_singleton->fu,append_nil->f8,map_congr_left->f_,getElem?_set_self->gF,length_set->g_,sum_cons->hU,nil_append->hZ,mem_append_right->iW,find?_cons->iZ,take_of_length_le->i5,not_mem_nil->i6,mem_append->jr,length->jL,getElem?_append_left->jM,length_nil->j_,eq_nil_of_length_eq_zero->ka,cons_append->ke,nodup_cons->kE,getElem?_map->kF,mem_filter->k7,mem_cons_of_mem->k8,length_take->lc,foldl_cons->lf,lookup_cons->lg,mem_cons_self->lL,length_drop->mE,take_append_drop->mH,length_eq_zero_iff->ox,replicate_succ->pC,length_singleton->pD,length_erase_of_mem->pH,dropLast->pI,mem_append_left->qN,getElem?_append_right->qR,any_cons->qV,drop_zero->qZ,all_eq_true->q8,mem_reverse->rj,all_cons->tP,flatten_cons->tQ,range_succ->tW,map_append->tX,getElem?_eq_none->t8,any_eq_true->uc,filterMap_cons->vP,map_nil->vX,drop_append_of_le_length->v8,range_succ_eq_map->v9,ext_getElem?->wc,flatMap_cons->wj,take_append_of_le_length->wl,filter_eq_self->wm,mem_range->zn,mem_of_getElem?->zr,drop_eq_getElem_cons->zL,getElem_of_mem->zN,lt_irrefl->zO,range'->zP,drop_of_length_le->zQ,of_mem_zip->CO,lookup->C0,all_map->C3,getElem_mem->C5,nodup_append->C7,getElem?_drop->C8,take_zero->C9,length_dropLast->Df,singleton_append->Dg,drop_eq_nil_iff->Dh,take_length->Di,filter_append->Do,mem_flatMap->Dp,filter_map->Dq,exists_mem_of_ne_nil->Dt,any_eq_false->IU,lookup_append->Jh,drop_succ_cons->Ji,getElem?_range->Jj,length_range->Jk,toList_toArray->Jl,findIdx?_eq_some_iff_getElem->Jm,pairwise_append->Jz,getElem_drop->JA,getElem_take->JB,reverse_append->JC,reverse_perm->JD,pairwise_reverse->JE,getElem?_take->JF,map_eq_nil_iff->JI,length_filter_le->JJ,flatMap_nil->JL,filter_cons->JM,isEmpty_nil->JN,find?_eq_none->JP,flatMap_append->JR,dropLast_eq_take->JS,perm_cons_erase->JT,drop_append->JU,filter_append_perm->JW,perm_append_comm->Uv,take_succ_eq_append_getElem->Uw,count_eq_zero_of_not_mem->Uy,Perm->Uz
open Option.some renaming inj->dZ
open Ne renaming symm->ef
open PySem.Str renaming empty->ff,length->pt,ofString->vU
open False renaming elim->iE
open PySem.Obj renaming mapSeq->iF,mapFields->om,data_mapFields->wd,isFreed_of_fields->Da
open Array renaming toList_append->i7,length_toList->n5,getElem_extract->ou,getElem?_eq_some_iff->qY,toList_push->v_,getElem?_eq_getElem->zG,getElem?_toList->zJ,perm_iff_toList_perm->JG
open PyProof.Rows.KeyOrd renaming kle_of_klt->lR,kle_refl->mK,kle_trans->we
open PySem.Builtin.Tuple renaming tupleHashOf->mB,tupleExact->CS
open PySem.PassesOwn renaming never->mM
open PySem.Value renaming isStrOf->nU
open Int renaming toNat_natCast->pr,emod_lt_of_pos->JO
open PySem.Heap.SameBut renaming update->q_
open PySem.Around renaming under_plainId->re
open Iff renaming rfl->rh
open Function renaming comp->rm
open PySem.Calls renaming spliced_cons->tK,spliced_nil->zq,callWith_builtin->CU,evalArgs_plain->CV,Name_function_global->IR
open List.Perm renaming refl->tY,append_left->zE
open PySem.SetTable renaming grown->t5,below->Uu
open PySem.F renaming plain_min_loop->ub,plainAttrs_list->C_,slot_tuple_add->IZ,entry_tuple_add->I_,args_tuple_add_2->Ja,slot_dict_get->Jf,plainAttrs_dict->Jg,slot_dict_values->Jy,entry_min_loop->JH,excBase_ValueError->JK,slot_tuple_hash->Ux
open PySem.SeqAt renaming EqAt->vW
open PySem.Paired renaming snoc->zu,length->CF
open List.cons renaming injEq->zR
open PySem.Builtin.Range renaming rangeSize->CM
open PySem.Builtin.Str renaming occurrences->CN
open PySem.Builtin.Slice renaming slicePlaces->CQ,sliceAdjust->Jb
open Nat.succ renaming inj->Dd
open PySem.SeqAt.EqAt renaming str_str->Jd
open PySem.Builtin.List renaming listTooLong->Je
open PyProof.Rows.F renaming plain_set_update_loop->Jn,entry_set_update_loop->Ut
open PySem.SetTable.below renaming go->Jq
open Classical renaming byContradiction->JV
open Std.Legacy renaming Range->Vi
open PySem PySem.Spec PyProof.Rows
namespace L2
abbrev aD:=Sum Int Str
def sQ:aD->ai->Bool
 |.inl k,v=>Value.isInt k v
 |.inr x,v=>nU x v
def T3(w:aG):aD->Int
 |.inl k=>hashInt k
 |.inr x=>mz w x
theorem nK:∀{k:aD}{v:ai},sQ k v=ah->(∃i t,k=Sum.inl i/\v=Value.int i t)\/(∃x t,k=Sum.inr x/\v=Value.str x t)
 |.inl i,v,h=>by obtain⟨t,e⟩:=Value.isInt_shape (k:=i) (v:=v) h;exact .inl ⟨i,t,rfl,e⟩
 |.inr x,v,h=>by obtain⟨t,e⟩:=Value.isStrOf_shape (x:=x) (v:=v) h;exact .inr ⟨x,t,rfl,e⟩
theorem Li(i:Int)(t:Tok):sQ (.inl i) (.int i t)=ah:=by simp[sQ,Value.isInt]
theorem QZ(x:Str)(t:Tok):sQ (.inr x) (.str x t)=ah:=by simp[sQ,nU]
theorem SZ(a b:Int):decide ((Sum.inl a:aD)=Sum.inl b)=(a == b):=by
 by_cases e:a=b
 .subst e;simp
 .have h:¬(Sum.inl a:aD)=Sum.inl b:=λq=>e (Sum.inl.inj q);rw[decide_eq_false h];exact(beq_eq_false_iff_ne.mpr e).symm
theorem Tk(a b:Str):decide ((Sum.inr a:aD)=Sum.inr b)=decide (a=b):=by
 by_cases e:a=b
 .subst e;simp
 .have h:¬(Sum.inr a:aD)=Sum.inr b:=λq=>e (Sum.inr.inj q);rw[decide_eq_false h,decide_eq_false e]
theorem My(a:Int)(b:Str):decide ((Sum.inl a:aD)=Sum.inr b)=aj:=decide_eq_false (λq=>nomatch q)
theorem MT(a:Str)(b:Int):decide ((Sum.inr a:aD)=Sum.inl b)=aj:=decide_eq_false (λq=>nomatch q)
def gU(c:aS)(w:aG):PySem.KeyKind c w aD where
 is:=sQ
 hash:=T3 w
 inj:=λv a b l f=>by
  rcases nK l with⟨i,t,rfl,rfl⟩|⟨x,t,rfl,rfl⟩
  .rcases nK f with⟨j,u,rfl,e⟩|⟨y,u,rfl,e⟩
   .injection e with e1 _;rw[e1]
   .exact nomatch e
  .rcases nK f with⟨j,u,rfl,e⟩|⟨y,u,rfl,e⟩
   .exact nomatch e
   .injection e with e1 _;rw[e1]
 byValue:=λk v h=>by rcases nK h with⟨i,t,rfl,rfl⟩|⟨x,t,rfl,rfl⟩ <;> rfl
 pyHash:=λd h=>by
  rcases nK d with⟨i,t,rfl,rfl⟩|⟨x,t,rfl,rfl⟩
  .exact wpAny_pyHash_int h
  .exact wpAny_pyHash_str h
 eqBool:=λg d h=>by
  rcases nK g with⟨i,t,rfl,rfl⟩|⟨x,t,rfl,rfl⟩
  .rcases nK d with⟨j,u,rfl,rfl⟩|⟨y,u,rfl,rfl⟩
   .rw[SZ]at h;exact wpAny_eqBool_int h
   .rw[My]at h;exact SeqAt.EqAt.int_str i t y u _ _ _ _ h
  .rcases nK d with⟨j,u,rfl,rfl⟩|⟨y,u,rfl,rfl⟩
   .rw[MT]at h;exact SeqAt.EqAt.str_int x t j u _ _ _ _ h
   .rw[Tk]at h;exact wpAny_eqBool_str h
 «strs»:=λk x t v h=>by
  rcases nK h with⟨i,u,rfl,e⟩|⟨y,u,rfl,e⟩
  .exact nomatch e
  .injection e with e1 _;subst e1;cases v <;> rfl
theorem KC(a:aS)(w:aG)(i:Int)(t:Tok):(gU a w).is (.inl i) (.int i t)=ah:=Li i t
theorem MU(a:aS)(w:aG)(x:Str)(t:Tok):(gU a w).is (.inr x) (.str x t)=ah:=QZ x t
inductive V where
 |non|bl (b:Bool)|int (i:Int)|str (x:Str)|byt (b:Array UInt8)|flt (b:UInt64)|ref (a:ag)|ty (n:String)
 deriving DecidableEq
def RelV:V->ai->Prop
 |.non,u=>u=Value.none
 |.bl b,u=>u=Value.bool b
 |.int i,u=>∃t,u=Value.int i t
 |.str x,u=>∃t,u=Value.str x t
 |.byt b,u=>∃t,u=Value.bytes b t
 |.flt b,u=>∃t,u=Value.float b t
 |.ref a,u=>u=Value.ref a
 |.ty n,u=>u=Value.type n
abbrev bt:List V->List ai->Prop:=kC RelV
theorem bt.length{xs:List V}{a:List ai}(r:bt xs a):xs.length=a.length:=CF r
theorem bt.get:∀{xs:List V}{a:List ai}{i:Nat}{x:V},bt xs a->xs[i]?=aa x->∃u,a[i]?=aa u/\RelV x u
 |_,_,_,_,.nil,e=>by simp at e
 |_,_,0,_,.cons r _,e=>by simp at e;subst e;exact⟨_,rfl,r⟩
 |_,_,i+1,x,.cons _ t,e=>by obtain⟨u,c,b⟩:=bt.get (i:=i) (x:=x) t (by simpa using e);exact⟨u,by simpa using c,b⟩
theorem bt.set{x:V}{u:ai}(r:RelV x u):∀{xs:List V}{a:List ai} (i:Nat),bt xs a->bt (xs.set i x) (a.set i u)
 |_,_,_,.nil=>.nil
 |_,_,0,.cons _ t=>.cons r t
 |_,_,i+1,.cons q t=>.cons q (bt.set r i t)
theorem bt.append{xs a:List V}{c b:List ai}(r:bt xs c)(s:bt a b):bt (xs++a) (c++b):=by
 unfold bt at r s ⊢
 induction r with
 |nil=>exact s
 |cons r _ g=>exact .cons r g
theorem bt.take:∀{xs:List V}{a:List ai} (n:Nat),bt xs a->bt (xs.take n) (a.take n)
 |_,_,0,_=>.nil
 |_,_,_+1,.nil=>.nil
 |_,_,n+1,.cons r t=>.cons r (bt.take n t)
theorem bt.drop:∀{xs:List V}{a:List ai} (n:Nat),bt xs a->bt (xs.drop n) (a.drop n)
 |_,_,0,r=>r
 |_,_,_+1,.nil=>.nil
 |_,_,n+1,.cons _ t=>bt.drop n t
def nQ:Option V->Option ai->Prop
 |some v,aa u=>RelV v u
 |none,ae=>True
 |_,_=>False
def KV{a:Type}:List (a×V)->List (a×ai)->Prop:=kC λ(p:a×V) (q:a×ai)=>p.1=q.1/\RelV p.2 q.2
def kV:aD->V
 |.inl i=>.int i
 |.inr x=>.str x
inductive HO where
 |lst (xs:List V)
 |tup (xs:List V)
 |dK (kvs:List (aD×V))|dT (kvs:List (List aD×V))|dN (kvs:List ((Str×List Str)×V))
 |set (S:Int->Bool) (n:Nat)
 |ins (C dx:ag) (fs:List (Str×V))
 |own (x:ag)
 |xd (fs:List (Str×V))
 |met (f x:ag)
 |rng (lo hi:Int)
 |frz (o:Obj) (u:HO)
 |tbl (q:Str)
 |ext (φ:aB->Prop)
abbrev Hp:=ag->Option HO
def upd(H:Hp)(a:ag)(o:HO):Hp:=λb=>if b=a then aa o else H b
theorem upd_same{H:Hp}{a:ag}{o:HO}:upd H a o a=aa o:=by unfold upd;rw[if_pos rfl]
theorem br{H:Hp}{a b:ag}{o:HO}(h:b≠a):upd H a o b=H b:=by unfold upd;rw[if_neg h]
theorem Em{H:Hp}{a b:ag}{o u:HO}(h:H a=aa o)(c:H b=aa u)(d:o≠u):a≠b:=by intro e;subst e;rw[h]at c;exact d (dZ c)
theorem mh{H:Hp}{a b:ag}{o:HO}(h:H a=aa o)(c:H b=ae):a≠b:=by
 intro e;subst e;rw[h]at c;cases c
def IL(h:aB)(a:ag)(b:Array ai):Prop:=IsTup h a b/\∃o,h.get? a=aa o/\o.dict=ae
theorem IL.new(h:aB)(its:Array ai):IL (h.push {cls:=.type "tuple",data:=.seq its}) h.objs.size its:=⟨IsTup.new _ _,_,cI _ rfl,rfl⟩
section
variable(P:aS)(w:aG)
def EW(k:Str×List Str):Int:=tI (mB [mz w k.1,tI (mB (k.2.map (mz w)))])
def qb(H:Hp)(k:Str×List Str)(a:ag):Prop:=∃b,H a=aa (.tup [.str k.1,.ref b])/\H b=aa (.tup (k.2.map .str))
def cz(H:Hp)(h:aB)(a:ag):HO->Prop
 |.lst xs=>xs.length<=bd/\∃(d:List ai) (n:Nat),bt xs d/\h.get? a=aa {cls:=.type "list",data:=.seq d.toArray n}
 |.tup xs=>xs.length<=bd/\∃d:List ai,bt xs d/\IL h a d.toArray
 |.dK b=>b.length<=bd/\(a == j8)=aj/\∃z,KV b z/\h.DictOf (gU P w) a z
 |.dT b=>b.length<=bd/\(a == j8)=aj/\∃xs:List (List aD×ag×ai),
   kC (λ(p:List aD×V) (q:List aD×ag×ai)=>p.1=q.1/\H q.2.1=aa (.tup (p.1.map kV))/\RelV p.2 q.2.2) b xs /\
   ∃o i s,h.get? a=aa o/\o.ExactDict/\o.data=.dict i s/\i.toList=xs.map (entryOfKey (vN (gU P w)))/\(xs.map (·.1)).Nodup
 |.dN b=>b.length<=bd/\(a == j8)=aj/\∃xs:List ((Str×List Str)×ag×ai),
   kC (λ(p:(Str×List Str)×V) (q:(Str×List Str)×ag×ai)=>p.1=q.1/\qb H p.1 q.2.1/\RelV p.2 q.2.2) b xs /\
   ∃o i s,h.get? a=aa o/\o.ExactDict/\o.data=.dict i s/\i.toList=xs.map (λx=>⟨EW w x.1,.ref x.2.1,x.2.2⟩)/\(xs.map (·.1)).Nodup
 |.set S n=>h.SetOf (intKind P w) a S n
 |.ins C j fs=>H j=aa (.own a)/\fs.length<=1000/\j≠a/\h.get? a=aa (PySem.W.instObj C j) /\
   ∃g,h.Ns1 j g/\(∀f,nQ (fs.lookup f) (g f))/\PySem.Within g (fs.map (·.1))
 |.own _=>∃o,h.get? a=aa o
 |.xd fs=>∃g,h.Ns1 a g/\∀f,nQ (fs.lookup f) (g f)
 |.rng D E=>∃t u v,h.get? a=aa {cls:=.type "range",data:=.fields #[.int D t,.int E u,.int 1 v]}
 |.frz o u=>h.get? a=aa o/\cz H h a u
 |.tbl q=>∃m:Array ai,h.get? a=aa {cls:=.none,data:=.fields m}/\TriplesOk m.toList/\∀r y,vO r m.toList=aa y->∃c,y=.ref c/\H c=aa (.own a)/\h.CodeRec y q
 |.met f x=>h.get? a=aa (IP (.ref f) (.ref x))
 |.ext l=>l h/\(∃o,h.get? a=aa o)/\∀B A:aB,l B->(∀o,B.get? a=aa o->A.get? a=aa o)->l A
def dz(H:Hp)(h:aB):Prop:=∀a o,H a=aa o->cz P w H h a o
end
section
variable{P:aS}{w:aG}{H i:Hp}{h h':aB}{a:ag}{o:HO}
theorem cz.lt(x:cz P w H h a o):a<h.objs.size:=by
 cases o with
 |lst xs=>obtain⟨_,_,_,_,e⟩:=x;exact bR e
 |tup xs=>obtain⟨_,_,_,p,_⟩:=x;exact p.lt
 |dK b=>obtain⟨_,_,_,_,o,_,_,e,_⟩:=x;exact bR e
 |dT b=>obtain⟨_,_,_,_,o,_,_,e,_⟩:=x;exact bR e
 |dN b=>obtain⟨_,_,_,_,o,_,_,e,_⟩:=x;exact bR e
 |set S n=>obtain⟨o,_,_,_,e,_⟩:=x;exact bR e
 |ins C l fs=>obtain⟨_,_,_,e,_⟩:=x;exact bR e
 |own y=>obtain⟨_,e⟩:=x;exact bR e
 |xd fs=>obtain⟨_,⟨_,_,_,e,_⟩,_⟩:=x;exact bR e
 |rng g j=>obtain⟨_,_,_,e⟩:=x;exact bR e
 |frz d u=>obtain⟨e,_⟩:=x;exact bR e
 |tbl q=>obtain⟨_,e,_⟩:=x;exact bR e
 |met f y=>exact bR (show h.get? a=aa _ from x)
 |ext c=>obtain⟨_,⟨_,e⟩,_⟩:=x;exact bR e
theorem Paired.mapP{l j:Type}{F G:l->j->Prop}{d:List l}{c:List j}(r:kC F d c)(f:∀a b,F a b->G a b):kC G d c:=by
 induction r with
 |nil=>exact .nil
 |cons r _ g=>exact .cons (f _ _ r) g
theorem cz.stay(x:cz P w H h a o)(k:∀b u,(b=a\/H b=aa (.own a))->h.get? b=aa u->h'.get? b=aa u)(L:∀b,H b=aa (.own a)->i b=aa (.own a)) (J:∀b xs,H b=aa (.tup xs)->i b=aa (.tup xs)):cz P w i h' a o:=by
 induction o with
 |lst xs=>obtain⟨z,s,n,r,e⟩:=x;exact⟨z,s,n,r,k _ _ (.inl rfl) e⟩
 |tup xs=>obtain⟨z,s,r,⟨j,e,c⟩,Q,B,M⟩:=x;exact⟨z,s,r,⟨j,k _ _ (.inl rfl) e,c⟩,Q,k _ _ (.inl rfl) B,M⟩
 |dK A=>obtain⟨z,y,E,r,j,l,m,e,c⟩:=x;exact⟨z,y,E,r,j,l,m,k _ _ (.inl rfl) e,c⟩
 |dT A=>obtain⟨z,y,xs,r,j,l,m,e,c⟩:=x;exact⟨z,y,xs,Paired.mapP r λp q z=>⟨z.1,J _ _ z.2.1,z.2.2⟩,j,l,m,k _ _ (.inl rfl) e,c⟩
 |dN A=>obtain⟨z,y,xs,r,j,l,m,e,c⟩:=x;exact⟨z,y,xs,Paired.mapP r λp q z=>⟨z.1,(let ⟨b,D,h2⟩:=z.2.1;⟨b,J _ _ D,J _ _ h2⟩),z.2.2⟩,j,l,m,k _ _ (.inl rfl) e,c⟩
 |set S n=>obtain⟨j,l,m,t,e,c⟩:=x;exact⟨j,l,m,t,k _ _ (.inl rfl) e,c⟩
 |ins C dx fs=>obtain⟨d,z,T,e,I,⟨G,l,m,B,c⟩,r⟩:=x;exact⟨L _ d,z,T,k _ _ (.inl rfl) e,I,⟨G,l,m,k _ _ (.inr d) B,c⟩,r⟩
 |own y=>obtain⟨j,e⟩:=x;exact⟨j,k _ _ (.inl rfl) e⟩
 |xd fs=>obtain⟨I,⟨G,l,m,e,c⟩,r⟩:=x;exact⟨I,⟨G,l,m,k _ _ (.inl rfl) e,c⟩,r⟩
 |rng lo hi=>obtain⟨t,u,v,e⟩:=x;exact⟨t,u,v,k _ _ (.inl rfl) e⟩
 |frz j u W=>obtain⟨e,q⟩:=x;exact⟨k _ _ (.inl rfl) e,W q⟩
 |tbl q=>
  obtain⟨O,e,t,g⟩:=x;refine⟨O,k a _ (.inl rfl) e,t,λF Z X=>?_⟩;obtain⟨c,rfl,D,M,o,E,N,B,Y,r⟩:=g F Z X;cases B;exact⟨c,rfl,L c D,c,o,E,N,rfl,k c _ (.inr D) Y,r⟩
 |met f y=>have e:h.get? a=aa (IP (.ref f) (.ref y)):=x;show h'.get? a=aa (IP (.ref f) (.ref y));exact k a _ (.inl rfl) e
 |ext φ=>obtain⟨p,⟨o,e⟩,K⟩:=x;exact⟨K _ _ p λo q=>k _ _ (.inl rfl) q,⟨o,k _ _ (.inl rfl) e⟩,K⟩
theorem dz.lt(x:dz P w H h)(e:H a=aa o):a<h.objs.size:=(x a o e).lt
theorem dz.fresh(x:dz P w H h)(e:h.objs.size<=a):H a=ae:=by
 cases q:H a with
 |none=>rfl
 |some u=>exact absurd (fY (x.lt q) e) (fG _)
theorem dz.kept(x:dz P w H h)(k:∀b u,h.get? b=aa u->h'.get? b=aa u):dz P w H h':=λa o e=>(x a o e).stay (λb u _ q=>k b u q) (λ_ q=>q) λ_ _ q=>q
theorem dz.laid(x:dz P w H h)(k:∀b u,h.get? b=aa u->h'.get? b=aa u)(f:h.objs.size<=a)(new:cz P w (upd H a o) h' a o):dz P w (upd H a o) h':=λb u e=>by
 have hn:=x.fresh f;by_cases d:b=a
 .subst d;rw[upd_same]at e;cases e;exact new
 .rw[br d]at e;exact(x b u e).stay (λc v _ q=>k c v q) (λc q=>by rw[br (mh q hn)];exact q) λc xs q=>by rw[br (mh q hn)];exact q
end
def Rd(H:Hp)(a:ag)(u:HO):Prop:=H a=aa u\/∃o,H a=aa (.frz o u)
theorem Rd.ok{P:aS}{w:aG}{H:Hp}{h:aB}{a:ag}{u:HO}(r:Rd H a u)(x:dz P w H h):cz P w H h a u:=by
 rcases r with r|⟨o,r⟩
 .exact x a u r
 .obtain⟨_,q⟩:=x a _ r;exact q
def uQ:Option HO->Prop
 |some (.lst _)=>True
 |some (.dK _)=>True
 |some (.dT _)=>True
 |some (.dN _)=>True
 |some (.set _ _)=>True
 |some (.ins _ _ _)=>True
 |some (.ext _)=>True
 |_=>False
section
variable{P:aS}{w:aG}{H:Hp}{h a:aB}{x e:ag}{d:HO}
theorem dz.write(ok:dz P w H h)(i:uQ (H x))(o:e=x\/H e=aa (.own x))(k:∀b u,b≠e->h.get? b=aa u->a.get? b=aa u)(p:∃u,a.get? e=aa u)(new:cz P w (upd H x d) a x d):dz P w (upd H x d) a:=λb u q=>by
 have f:∀c y,H c=aa (.own y)->c≠x:=λc y r z=>by subst z;rw[r]at i;exact i
 have g:∀c xs,H c=aa (.tup xs)->c≠x:=λc xs r z=>by subst z;rw[r]at i;exact i
 by_cases m:b=x
 .subst m;rw[upd_same]at q;cases q;exact new
 .rw[br m]at q;by_cases j:b=e
  .have n:H b=aa (.own x):=by
    rcases o with z|z
    .exact absurd (j.trans z) m
    .rw[j];exact z
   rw[q]at n;cases n;obtain⟨v,s⟩:=p;exact⟨v,by rw[j];exact s⟩
  .refine(ok b u q).stay (λc v l r=>k c v ?_ r) (λc r=>by rw[br (f c b r)];exact r) λc xs r=>by rw[br (g c xs r)];exact r
   rcases l with rfl|l
   .exact j
   .rintro rfl;rcases o with z|z
    .exact f c b l z
    .rw[l]at z;cases z;exact m rfl
end
structure Un(fs ex:List ag)(H H':Hp)(h h':aB):Prop where
 keep:∀b o,h.get? b=aa o->H b=ae->b∉fs->b∉ex->h'.get? b=aa o
 slot:∀b o,h.get? b=aa o->H b=ae->b∈fs->b∉ex->∃sl,h'.get? b=aa {o with slots:=sl}
 free:∀b o,h.get? b=aa o->H b=ae->b∉ex->H' b=ae
 there:∀b o,h.get? b=aa o->b∉ex->∃o',h'.get? b=aa o'
 tups:∀b xs,H b=aa (.tup xs)->H' b=aa (.tup xs)
 frzs:∀b o u,H b=aa (.frz o u)->H' b=aa (.frz o u)
 tbls:∀b q,H b=aa (.tbl q)->H' b=aa (.tbl q)
section
variable{fs d ex f:List ag}{H g j:Hp}{h c i h':aB}{a x e:ag}{o:HO}
theorem Un.any(u:Un fs ex H g h c){b:ag}{l:Obj}(q:h.get? b=aa l)(n:H b=ae)(m:b∉ex):∃r,c.get? b=aa {l with slots:=r}:=by
 by_cases p:b∈fs
 .exact u.slot b l q n p m
 .exact⟨l.slots,u.keep b l q n p m⟩
theorem Un.kept(k:∀b u,h.get? b=aa u->h'.get? b=aa u):Un fs ex H H h h' :=⟨λb l q _ _ _=>k b l q,λb l q _ _ _=>⟨l.slots,k b l q⟩,λ_ _ _ n _=>n,λb l q _=>⟨l,k b l q⟩,λ_ _ q=>q,λ_ _ _ q=>q,λ_ _ q=>q⟩
theorem Un.refl:Un fs ex H H h h:=Un.kept λ_ _ q=>q
theorem Un.laid(k:∀b u,h.get? b=aa u->h'.get? b=aa u)(l:h.objs.size<=a)(hn:H a=ae):Un fs ex H (upd H a o) h h' where
 keep:=λb u q _ _ _=>k b u q
 slot:=λb u q _ _ _=>⟨u.slots,k b u q⟩
 free:=λb u q n _=>by rw[br (c8 (fY (bR q) l))];exact n
 there:=λb u q _=>⟨u,k b u q⟩
 tups:=λb xs q=>by rw[br (mh q hn)];exact q
 frzs:=λb u xs q=>by rw[br (mh q hn)];exact q
 tbls:=λb m q=>by rw[br (mh q hn)];exact q
theorem Un.write(l:uQ (H x))(y:e=x\/H e=aa (.own x))(k:∀b u,b≠e->h.get? b=aa u->h'.get? b=aa u)(v:∃u,h'.get? e=aa u):Un fs ex H (upd H x o) h h':=by
 have s:∀b,H b=ae->b≠x:=λb n z=>by subst z;rw[n]at l;exact l
 have t:∀b,H b=ae->b≠e:=λb n z=>by
  subst z;rcases y with r|r
  .exact s b n r
  .rw[n]at r;cases r
 have m:∀b u,H b=aa u->¬uQ (aa u)->b≠x:=λb u q w z=>by subst z;rw[q]at l;exact w l
 refine⟨λb u q n _ _=>k b u (t b n) q,λb u q n _ _=>⟨u.slots,k b u (t b n) q⟩,λb u q n _=>by rw[br (s b n)];exact n,λb u q _=>?_,
  λb xs q=>by rw[br (m b _ q λz=>z)];exact q,λb u xs q=>by rw[br (m b _ q λz=>z)];exact q,λb A q=>by rw[br (m b _ q λz=>z)];exact q⟩
 by_cases p:b=e
 .subst p;exact v
 .exact⟨u,k b u p q⟩
end
def yF(h:aB)(H:Hp):List ag:=(dy h.objs.size).filter λa=>(H a).isSome
def ny(h:aB)(H:Hp):aB:=PySem.W.hideAll h (yF h H)
theorem Kh(h:aB)(H:Hp):(ny h H).objs.size=h.objs.size:=PySem.W.hideAll_size _ _
theorem Ot{h:aB}{H:Hp}{b:ag}{o:Obj}(e:h.get? b=aa o)(n:H b=ae):(ny h H).get? b=aa o :=PySem.W.hideAll_get _ e λa=>by have q:(H b).isSome=ah:=(k7.mp a).2;rw[n]at q;simp at q
theorem Ul{h:aB}{H:Hp}{b:ag}{o:Obj}(e:(ny h H).get? b=aa o):h.get? b=aa o/\H b=ae:=by
 have a:h.get? b=aa o:=PySem.W.of_hideAll (yF h H) e;refine⟨a,?_⟩;cases q:H b with
 |none=>rfl
 |some x=>
  have c:b∈yF h H:=k7.mpr ⟨zn.mpr (bR a),by simp[q]⟩;have z:(ny h H).get? b=ae:=PySem.W.hideAll_none (yF h H) c;rw[z]at e;cases e
def QE(g h:aB)(L:ag):List (ag×Obj):=(dy h.objs.size).filterMap λa=>if a=L\/(g.get? a).isSome=ah then ae else(h.get? a).map λo=>(a,o)
def rest(g h:aB)(L d:ag):List (ag×Obj):=(QE g h L).filter λp=>decide (p.1≠d)
structure Mod(K:ay)(mg:Str->Option ai)(base:aB):Prop where
 kin:K.In base
 glob:base.Ns bU mg
 blt:∃mb,base.Ns pq mb/\∀x:Str,x≠"__name__"->mb x=eM x
 nolimit:base.NoLimit
 bm:∃bm ob,mg "__builtins__"=aa (.ref bm)/\bm≠pq/\base.get? bm=aa ob/\ob.cls=.type "module"/\ob.dict=aa pq/\ob.data=.plain
set_option genInjectivity false in
structure Cx where
 prog:aS
 w:aG
 K:ay
 mg:Str->Option ai
 base:aB
 A:aV
 N:List Str
 s₀:am
 H₀:Hp
 env:Env
 outer:List Env
 stack:List Env
 ex:List ag
 fn:Str->Bool
 calm:Bool
 pn:List (ag×Obj)
 xe:ai->am->Prop
def fR(l:List Env):List ag:=l.filterMap (·.frame)
abbrev Cx.fs(X:Cx):List ag:=fR X.outer
def eD(a:dH)(x:Str):Prop:=a.names.lookup x=aa .local\/a.names.lookup x=aa .cell\/a.names.lookup x=aa .free
def Loc(a:dH)(x:Str):Prop:=a.names.lookup x=aa .local\/a.names.lookup x=aa .cell
def Look(a:Env)(h:aB)(m:Str->Option ai)(x:Str)(u:ai):Prop :=(a.kindOf x=aa .local/\m x=aa u)\/((a.kindOf x=aa .cell\/a.kindOf x=aa .free)/\∃c,a.cells.lookup x=aa c/\h.IsCell c (aa u))
def vE:List Str:=["least_ending"]
def xu(K:ay)(H:Hp):Prop:=∀x∈vE,∀c P,lJ K x=aa (c,P)->H P=aa (.tbl (x++".<locals>.<lambda>"))
set_option genInjectivity false in
structure Cx.Ok(X:Cx):Prop where
 mod:Mod X.K X.mg X.base
 kind:X.env.scope.kind=.function
 glob:X.env.globals=bU
 blt:X.env.builtins=pq
 above:X.s₀.heap.objs.size<=X.env.locals
 inj:∀x y c,X.env.cells.lookup x=aa c->X.env.cells.lookup y=aa c->x=y
 has:∀x,(X.env.kindOf x=aa .cell\/X.env.kindOf x=aa .free)->∃c,X.env.cells.lookup x=aa c
 cab:∀x c,X.fn x=ah->X.env.cells.lookup x=aa c->X.s₀.heap.objs.size<=c
 hd:X.calm=ah->X.A.handled=ae
 frames:X.A.frames=aa X.stack
 stk:X.stack=X.outer\/(X.stack=X.env::X.outer/\X.env.frame=aa X.env.locals)
 exf:∀b∈X.ex,b≠X.env.locals/\∀x c,X.env.cells.lookup x=aa c->c≠b
 bs:∀b o,X.base.get? b=aa o->X.s₀.heap.get? b=aa o/\X.H₀ b=ae
 bsz:X.base.objs.size<=X.s₀.heap.objs.size
 noex:∀b o,X.base.get? b=aa o->b∉X.ex
 exfs:∀b∈X.ex,b∉X.fs
 funs:X.s₀.heap.FunFrames X.base X.outer
 frf:∀b∈X.fs,X.H₀ b=ae
 tab:xu X.K X.H₀
structure Inv(X:Cx)(af:List (ag×Obj))(σ:List (Option V))(H:Hp)(s:am):Prop where
 ok:X.Ok
 os:s.os=X.s₀.os
 bare:nV s.gens
 base:Un X.fs X.ex X.H₀ H X.s₀.heap s.heap
 loc:∃m,s.heap.Ns X.env.locals m/\∀(i:Nat) (x:Str) (v:V),X.N[i]?=aa x->σ[i]?=aa (aa v)->eD X.env.scope x->∃u,RelV v u/\Look X.env s.heap m x u
 cell:∀x c,X.env.cells.lookup x=aa c->∃v,s.heap.IsCell c v
 free:H X.env.locals=ae
 freeC:∀x c,X.env.cells.lookup x=aa c->H c=ae
 pin:∀p∈X.pn++af,s.heap.get? p.1=aa p.2/\H p.1=ae/\p.1≠X.env.locals/\p.1∉X.fs/\∀v,p.2.data≠.cell v
 hok:dz X.prog X.w H s.heap
 len:σ.length=X.N.length
section
variable{X:Cx}{f:List (ag×Obj)}{g:List (Option V)}{H w:Hp}{s:am}{h':aB}
theorem Cx.Ok.nofr(ok:X.Ok){b:ag}{o:Obj}(e:X.base.get? b=aa o):b∉X.fs:=λa=>by
 have:=(ok.funs.mem a).1;rw[e]at this;cases this
theorem Inv.bs(I:Inv X f g H s):∀b o,X.base.get? b=aa o->s.heap.get? b=aa o/\H b=ae:=λb o e=>⟨I.base.keep b o (I.ok.bs b o e).1 (I.ok.bs b o e).2 (I.ok.nofr e) (I.ok.noex b o e),I.base.free b o (I.ok.bs b o e).1 (I.ok.bs b o e).2 (I.ok.noex b o e)⟩
theorem Inv.bk(I:Inv X f g H s):∀b o,X.base.get? b=aa o->s.heap.get? b=aa o:=λb o e=>(I.bs b o e).1
theorem Inv.mod(I:Inv X f g H s):Mod X.K X.mg X.base:=I.ok.mod
theorem Inv.kIn(I:Inv X f g H s):X.K.In s.heap:=I.ok.mod.kin.keeps I.bk
theorem Inv.lt(I:Inv X f g H s):X.env.locals<s.heap.objs.size:=let ⟨_,hn,_⟩:=I.loc;hn.lt
theorem Inv.sz(I:Inv X f g H s):X.s₀.heap.objs.size<=s.heap.objs.size:=cP I.ok.above (lK I.lt)
theorem Inv.nofs(I:Inv X f g H s){a:ag}(h:s.heap.objs.size<=a):a∉X.fs:=λc=>by obtain⟨_,o,b,_⟩:=I.ok.funs.mem c;exact absurd (fY (bR b) (cP I.sz h)) (fG _)
theorem Inv.cne(I:Inv X f g H s):∀x c,X.env.cells.lookup x=aa c->c≠X.env.locals:=λx c e z=>by
 obtain⟨v,o,b,d⟩:=I.cell x c e;obtain⟨m,⟨i,j,l,h,a,_⟩,_⟩:=I.loc;rw[z,h]at b;cases b;rw[a]at d;cases d
theorem Inv.tab(I:Inv X f g H s):xu X.K H:=λx a c P h=>I.base.tbls P _ (I.ok.tab x a c P h)
theorem Inv.funs(I:Inv X f g H s):s.heap.FunFrames X.base X.outer:=by
 have all:∀(l:List Env),(∀b∈fR l,b∈X.fs)->X.s₀.heap.FunFrames X.base l->s.heap.FunFrames X.base l:=by
  intro l
  induction l with
  |nil=>intro _ _;trivial
  |cons u r i=>intro h p;obtain⟨q,⟨L,o,a,n,m,t⟩,j⟩:=p;have d:L∈X.fs:=h L (by unfold fR;rw[vP,a];exact lL);obtain⟨v,e⟩:=I.base.slot L o m (I.ok.frf L d) d λz=>I.ok.exfs L z d;exact⟨q,⟨L,_,a,n,e,t⟩,i (λb c=>h b (by unfold fR;rw[vP,a];exact k8 _ c)) j⟩
 exact all X.outer (λ_ c=>c) I.ok.funs
theorem Inv.stack(I:Inv X f g H s):s.heap.FunFrames X.base X.stack:=by
 rcases I.ok.stk with e|⟨e,b⟩
 .rw[e];exact I.funs
 .rw[e];obtain⟨m,a,_⟩:=I.loc;refine .cons (by rw[I.ok.kind];decide) b a ?_ I.funs;exact vQ (cP I.ok.bsz I.ok.above)
theorem Inv.stkSub(I:Inv X f g H s):∀b∈fR X.stack,b∈X.env.locals::X.fs:=λb a=>by
 rcases I.ok.stk with e|⟨e,c⟩
 .rw[e]at a;exact k8 _ a
 .rw[e]at a;unfold fR at a;rw[vP,c]at a;exact a
theorem Inv.stkFree(I:Inv X f g H s):∀b∈fR X.stack,H b=ae:=λb a=>by
 rcases bC.mp (I.stkSub b a)with e|a
 .rw[e];exact I.free
 .obtain⟨_,o,c,_⟩:=I.ok.funs.mem a;exact I.base.free b o c (I.ok.frf b a) λz=>I.ok.exfs b z a
theorem Inv.step{g':Array GenState}{t':Nat}{d':Drawn}{ch:List ag}(I:Inv X f g H s)(K:∀b∈ch,(b∈X.ex\/X.s₀.heap.objs.size<=b)/\b≠X.env.locals/\(∀x c,X.env.cells.lookup x=aa c->c≠b)/\∀p∈X.pn++f,p.1≠b)(keep:∀b o,b≠X.env.locals->b∉X.fs->b∉ch->s.heap.get? b=aa o->H b=ae->h'.get? b=aa o)(y:∀b o,b≠X.env.locals->b∈X.fs->b∉ch->s.heap.get? b=aa o->H b=ae->∃N,h'.get? b=aa {o with slots:=N}) (free:∀b o,b∉ch->s.heap.get? b=aa o->H b=ae->w b=ae)(A:∀b o,b∉ch->s.heap.get? b=aa o->∃G,h'.get? b=aa G)(E:∀b xs,H b=aa (.tup xs)->w b=aa (.tup xs)) (L:∀b o u,H b=aa (.frz o u)->w b=aa (.frz o u)) (F:∀b q,H b=aa (.tbl q)->w b=aa (.tbl q))(ns:∀m,s.heap.Ns X.env.locals m->h'.Ns X.env.locals m) (O:dz X.prog X.w w h') (hg:nV g'):Inv X f g w {s with heap:=h',gens:=g',drawn:=d',toks:=t'}:=by
 have J:∀b o,X.s₀.heap.get? b=aa o->b≠X.env.locals:=λb o e=>c8 (fY (bR e) I.ok.above);have t:∀b o,X.s₀.heap.get? b=aa o->b∉X.ex->b∉ch:=λb o e a B=>by
  rcases(K b B).1 with z|z
  .exact a z
  .exact absurd (fY (bR e) z) (fG _)
 have j:∀x c,X.env.cells.lookup x=aa c->∀v,s.heap.IsCell c v->h'.IsCell c v:=λx c e v ⟨o,D,P⟩=>by
  have h:c∉ch:=λz=>(K c z).2.2.1 x c e rfl;by_cases Y:c∈X.fs
  .obtain⟨N,q⟩:=y c o (I.cne x c e) Y h D (I.freeC x c e);exact⟨_,q,P⟩
  .exact⟨o,keep c o (I.cne x c e) Y h D (I.freeC x c e),P⟩
 refine⟨I.ok,I.os,hg,⟨λb o e n B a=>?_,λb o e n B a=>?_,λb o e n a=>?_,λb o e a=>?_,λb xs e=>E b xs (I.base.tups b xs e),λb o xs e=>L b o xs (I.base.frzs b o xs e),λb Z e=>?_⟩,?_,λx c e=>?_,?_,λx c e=>?_,λp W=>?_,O,I.len⟩
 .exact keep b o (J b o e) B (t b o e a) (I.base.keep b o e n B a) (I.base.free b o e n a)
 .obtain⟨N,C⟩:=I.base.slot b o e n B a;obtain⟨M,Q⟩:=y b _ (J b o e) B (t b o e a) C (I.base.free b o e n a);exact⟨M,Q⟩
 .obtain⟨G,C⟩:=I.base.there b o e a;exact free b G (t b o e a) C (I.base.free b o e n a)
 .obtain⟨G,C⟩:=I.base.there b o e a;exact A b G (t b o e a) C
 .exact F b _ (I.base.tbls b Z e)
 .obtain⟨m,hn,hl⟩:=I.loc;refine⟨m,ns m hn,λi x v C Q e3=>?_⟩;obtain⟨u,r,l⟩:=hl i x v C Q e3;refine⟨u,r,?_⟩;rcases l with l|⟨k,c,e,z⟩
  .exact .inl l
  .exact .inr ⟨k,c,e,j x c e _ z⟩
 .obtain⟨v,z⟩:=I.cell x c e;exact⟨v,j x c e v z⟩
 .obtain⟨m,⟨o,_,_,D,_⟩,_⟩:=I.loc;exact free _ o (λz=>(K _ z).2.1 rfl) D I.free
 .obtain⟨v,o,D,P⟩:=I.cell x c e;exact free c o (λz=>(K c z).2.2.1 x c e rfl) D (I.freeC x c e)
 .obtain⟨e,n,T,S,d⟩:=I.pin p W;have h:p.1∉ch:=λz=>(K p.1 z).2.2.2 p W rfl;exact⟨keep p.1 p.2 T S h e n,free p.1 p.2 h e n,T,S,d⟩
theorem Inv.un{t':Nat}(I:Inv X f g H s)(u:Un X.fs [] H w s.heap h')(a:dz X.prog X.w w h'):Inv X f g w {s with heap:=h',toks:=t'}:=by
 obtain⟨m,⟨o,y,A,j,r⟩,_⟩:=id I.loc;obtain⟨t,q⟩:=u.any j I.free (by simp);exact I.step (g':=s.gens) (d':=s.drawn) (ch:=[]) (λ_ z=>nomatch z) (λb o _ c _ e n=>u.keep b o e n c (by simp)) (λb o _ c _ e n=>u.slot b o e n c (by simp)) (λb o _ e n=>u.free b o e n (by simp)) (λb o _ e=>u.there b o e (by simp)) u.tups u.frzs u.tbls (λx p=>by
  obtain⟨v,d,h,i,l⟩:=p;rw[j]at i;cases i;exact⟨_,d,h,q,l⟩) a I.bare
theorem Inv.call{g':Array GenState}{t':Nat}{d':Drawn}{ch:List ag}(I:Inv X f g H s)(u:Un (fR X.stack) ch H w s.heap h')(d:dz X.prog X.w w h')(A:nV g')(l:∀b∈ch,(b∈X.ex\/X.s₀.heap.objs.size<=b)/\b≠X.env.locals/\(∀x c,X.env.cells.lookup x=aa c->c≠b)/\∀p∈X.pn++f,p.1≠b):Inv X f g w {s with heap:=h',gens:=g',drawn:=d',toks:=t'}:=by
 obtain⟨m,⟨o,F,G,t,r⟩,_⟩:=id I.loc;obtain⟨C,h⟩:=u.any t I.free λz=>(l _ z).2.1 rfl;exact I.step (ch:=ch) l (λb o h B a e n=>u.keep b o e n (λz=>(bC.mp (I.stkSub b z)).elim h B) a) (λb o _ _ a e n=>u.any e n a) (λb o a e n=>u.free b o e n a) (λb o a e=>u.there b o e a) u.tups u.frzs u.tbls (λE y=>by
  obtain⟨D,i,j,q,v⟩:=y;rw[t]at q;cases q;exact⟨_,i,j,h,v⟩) d A
theorem Inv.turned{t':Nat}{it:ag}(I:Inv X f g H s)(k:∀b o,b≠it->s.heap.get? b=aa o->h'.get? b=aa o)(j:H it=ae)(h:it≠X.env.locals)(B:it∈X.ex\/X.s₀.heap.objs.size<=it) (A:∀x c,X.env.cells.lookup x=aa c->c≠it) (y:∀p∈X.pn++f,p.1≠it):Inv X f g H {s with heap:=h',toks:=t'}:=by
 have d:∀b u,H b=aa u->b≠it:=λb u e z=>by rw[z,j]at e;cases e
 refine I.step (g':=s.gens) (d':=s.drawn) (ch:=[it]) (λb t=>?_) (λb o _ _ a e _=>k b o (λz=>a (by simp[z])) e) (λb o _ _ a e _=>⟨o.slots,k b o (λz=>a (by simp[z])) e⟩) (λ_ _ _ _ n=>n)
  (λb o a e=>⟨o,k b o (λz=>a (by simp[z])) e⟩) (λ_ _ e=>e) (λ_ _ _ e=>e) (λ_ _ e=>e) (λm l=>?_) (λb u e=>?_) I.bare
 .have e:b=it:=by simpa using t
  subst e;exact⟨B,h,A,y⟩
 .obtain⟨o,C,D,i,r⟩:=l;exact⟨o,C,D,k _ o (ef h) i,r⟩
 .refine(I.hok b u e).stay (λc v a q=>k c v ?_ q) (λ_ q=>q) λ_ _ q=>q;rcases a with z|z
  .rw[z];exact d b u e
  .exact d c _ z
theorem Inv.tok(I:Inv X f g H s)(t:Nat):Inv X f g H {s with toks:=t}:=I.un (h':=s.heap) (t':=t) Un.refl I.hok
theorem Inv.kept{t':Nat}(I:Inv X f g H s)(k:∀b u,s.heap.get? b=aa u->h'.get? b=aa u):Inv X f g H {s with heap:=h',toks:=t'}:=I.un (Un.kept k) (I.hok.kept k)
theorem Inv.laid{a:ag}{o:HO}{t':Nat}(I:Inv X f g H s)(k:∀b u,s.heap.get? b=aa u->h'.get? b=aa u)(c:s.heap.objs.size<=a)(new:cz X.prog X.w (upd H a o) h' a o):Inv X f g (upd H a o) {s with heap:=h',toks:=t'}:=I.un (Un.laid k c (I.hok.fresh c)) (I.hok.laid k c new)
theorem Inv.write{x e:ag}{o:HO}{h:Nat}(I:Inv X f g H s)(c:uQ (H x))(d:e=x\/H e=aa (.own x))(k:∀b u,b≠e->s.heap.get? b=aa u->h'.get? b=aa u)(a:∃u,h'.get? e=aa u)(new:cz X.prog X.w (upd H x o) h' x o):Inv X f g (upd H x o) {s with heap:=h',toks:=h}:=I.un (Un.write c d k a) (I.hok.write c d k a new)
theorem Inv.pins_of{a:List (ag×Obj)}(I:Inv X f g H s)(h:∀p∈a,s.heap.get? p.1=aa p.2/\H p.1=ae/\p.1≠X.env.locals/\p.1∉X.fs/\∀v,p.2.data≠.cell v):Inv X a g H s :=⟨I.ok,I.os,I.bare,I.base,I.loc,I.cell,I.free,I.freeC,λp b=>(jr.mp b).elim (λz=>I.pin p (qN _ z)) (h p),I.hok,I.len⟩
theorem Ao{N:List Str}(c:N.Nodup){i j:Nat}{x:Str}(a:N[i]?=aa x)(b:N[j]?=aa x):i=j:=by obtain⟨m,h⟩:=d7.mp a;obtain⟨l,d⟩:=d7.mp b;exact(List.getElem_inj c).mp (h.trans d.symm)
theorem Hw{M:Model}{A:aV}{E:ai->am->Prop}{i:Nat}{x:Str}{v:V}{u:ai}{Q:Unit->am->Prop}(I:Inv X f g H s)(hN:X.N.Nodup)(P:X.N[i]?=aa x)(D:Loc X.env.scope x)(r:RelV v u)(h:∀s',Inv X f (g.set i (aa v)) H s'->(∃a,k9 a s.heap s'.heap/\(a=X.env.locals\/X.env.cells.lookup x=aa a))->Q () s') (hf:X.fn x=ah\/X.env.scope.names.lookup x=aa .local:=by first|exact .inl rfl|exact .inr rfl|assumption):au M A (storeName X.env x u) Q E s:=by
 obtain⟨m,hn,hl⟩:=id I.loc;have oy:(X.env.scope.kind == .class||(X.env.scope.kind == .module&&X.env.locals != X.env.globals))=aj:=by rw[I.ok.kind];rfl
 have J:i<g.length:=by rw[I.len];exact(d7.mp P).1
 have cne:=I.cne;have t:∀{a:ag}{h':aB},(∃o,s.heap.get? a=aa o/\H a=ae)->k9 a s.heap h'->dz X.prog X.w H h':=λ{a h'} ha l b ob e=>by
  obtain⟨_,_,wq⟩:=ha;refine(I.hok b ob e).stay (λc T C q=>(l.2 c ?_).trans q) (λ_ q=>q) λ_ _ q=>q;rintro rfl;rcases C with rfl|C
  .rw[wq]at e;cases e
  .rw[wq]at C;cases C
 rcases D with G|G
 .refine wpAny_storeName_local G hn (λh' hn' l=>?_) oy;obtain⟨oL,_,_,ug,_⟩:=id hn;refine h _ ⟨I.ok,I.os,I.bare,⟨λb o e n N D=>?_,λb o e n N D=>?_,I.base.free,λb o e D=>?_,I.base.tups,I.base.frzs,I.base.tbls⟩,⟨_,hn',λj y Z B F e3=>?_⟩,λy c e=>?_,I.free,I.freeC,λp hp=>?_,t ⟨oL,ug,I.free⟩ l,by simpa using I.len⟩ ⟨_,l,.inl rfl⟩
  .exact(l.2 b (c8 (fY (bR e) I.ok.above))).trans (I.base.keep b o e n N D)
  .obtain⟨sl,B⟩:=I.base.slot b o e n N D;exact⟨sl,(l.2 b (c8 (fY (bR e) I.ok.above))).trans B⟩
  .obtain⟨o',B⟩:=I.base.there b o e D;exact⟨o',(l.2 b (c8 (fY (bR e) I.ok.above))).trans B⟩
  .by_cases K:j=i
   .subst K;rw[P]at B;cases B;rw[gF J]at F;cases F;exact⟨u,r,.inl ⟨G,by simp⟩⟩
   .rw[fe (ef K)]at F;obtain⟨u',r',q⟩:=hl j y Z B F e3;refine⟨u',r',?_⟩;rcases q with⟨k,e⟩|⟨k,c,e,z⟩
    .refine .inl ⟨k,?_⟩;have:y≠x:=λe=>K (Ao hN B (e ▸ P));simp[this,e]
    .exact .inr ⟨k,c,e,z.sameBut l (cne y c e)⟩
  .obtain⟨T,z⟩:=I.cell y c e;exact⟨T,z.sameBut l (cne y c e)⟩
  .obtain⟨e,n,W,nf,d⟩:=I.pin p hp;exact⟨(l.2 p.1 W).trans e,n,W,nf,d⟩
 .have L:X.fn x=ah:=by
   rcases hf with z|z
   .exact z
   .rw[z]at G;cases G
  obtain⟨c,C⟩:=I.ok.has x (.inl G);obtain⟨T,z⟩:=I.cell x c C;refine wpAny_storeName_cell I.ok.kind G C z (λh' fJ l=>?_);obtain⟨oc,rD,O⟩:=id z;refine h {s with heap:=h'} ⟨I.ok,I.os,I.bare,⟨λb o e n N D=>?_,λb o e n N D=>?_,I.base.free,λb o e D=>?_,I.base.tups,I.base.frzs,I.base.tbls⟩,⟨m,hn.sameBut l (ef (cne x c C)),λj y Z B F e3=>?_⟩,λy Y e=>?_,I.free,I.freeC,λp hp=>?_,t ⟨oc,rD,I.freeC x c C⟩ l,by simpa using I.len⟩ ⟨c,l,.inr C⟩
  .exact(l.2 b (c8 (fY (bR e) (I.ok.cab x c L C)))).trans (I.base.keep b o e n N D)
  .obtain⟨sl,B⟩:=I.base.slot b o e n N D;exact⟨sl,(l.2 b (c8 (fY (bR e) (I.ok.cab x c L C)))).trans B⟩
  .obtain⟨o',B⟩:=I.base.there b o e D;exact⟨o',(l.2 b (c8 (fY (bR e) (I.ok.cab x c L C)))).trans B⟩
  .by_cases K:j=i
   .subst K;rw[P]at B;cases B;rw[gF J]at F;cases F;exact⟨u,r,.inr ⟨.inl G,c,C,fJ⟩⟩
   .rw[fe (ef K)]at F;obtain⟨u',r',q⟩:=hl j y Z B F e3;refine⟨u',r',?_⟩;rcases q with q|⟨k,Y,e,z'⟩
    .exact .inl q
    .refine .inr ⟨k,Y,e,z'.sameBut l ?_⟩;rintro rfl;exact K (Ao hN B (I.ok.inj _ _ _ e C ▸ P))
  .by_cases S:Y=c
   .subst S;exact⟨_,fJ⟩
   .obtain⟨w2,z2⟩:=I.cell y Y e;exact⟨w2,z2.sameBut l S⟩
  .obtain⟨e,n,W,nf,d⟩:=I.pin p hp;refine⟨(l.2 p.1 ?_).trans e,n,W,nf,d⟩;intro q;rw[q,rD]at e;have q':oc=p.2:=dZ e;exact d T (by rw[<-q'];exact O)
theorem yB{M:Model}{A:aV}{E:ai->am->Prop}{i:Nat}{x:Str}{v:V}{u:ai}{Q:Unit->am->Prop}(I:Inv X f g H s)(d:X.N.Nodup)(b:X.N[i]?=aa x)(a:Loc X.env.scope x)(r:RelV v u)(h:∀s',Inv X f (g.set i (aa v)) H s'->Q () s') (c:X.fn x=ah\/X.env.scope.names.lookup x=aa .local:=by first|exact .inl rfl|exact .inr rfl|assumption):au M A (storeName X.env x u) Q E s :=Hw I d b a r (λs' j _=>h s' j) c
theorem Inv.call'{s':am}{ch:List ag}(I:Inv X f g H s)(i:s'.os=s.os)(u:Un (fR X.stack) ch H w s.heap s'.heap)(a:dz X.prog X.w w s'.heap)(j:nV s'.gens)(h:∀b∈ch,(b∈X.ex\/X.s₀.heap.objs.size<=b)/\b≠X.env.locals/\(∀x c,X.env.cells.lookup x=aa c->c≠b)/\∀p∈X.pn++f,p.1≠b):Inv X f g w s':=by obtain⟨h',g',d',t',d⟩:=s';have e:d=s.os:=i;subst e;exact I.call (g':=g') (t':=t') (d':=d') u a j h
end
abbrev XK:=ai->Option ag->Hp->Prop
abbrev St:=List (Option V)
abbrev VK:=V->Hp->Prop
abbrev TE:=St->Hp->VK->Prop
abbrev TT:=St->Hp->(Bool->Hp->Prop)->Prop
abbrev TA:=St->Hp->(List V->Hp->Prop)->Prop
structure lu where
 nx:St->Hp->Prop
 rt:VK
 bk:St->Hp->Prop:=λ_ _=>False
 ct:St->Hp->Prop:=λ_ _=>False
abbrev TS:=lu->St->Hp->Prop
def EP(X:Cx)(d:List (ag×Obj))(b:St)(Q:VK)(u:ai)(c:am):Prop:=∃v a,Inv X d b a c/\RelV v u/\Q v a
def TP(X:Cx)(f:List (ag×Obj))(c:St)(Q:Bool->Hp->Prop)(b:Bool)(d:am):Prop:=∃a,Inv X f c a d/\Q b a
def AP(X:Cx)(g:List (ag×Obj))(c:St)(Q:List V->Hp->Prop)(d:List ai)(f:am):Prop:=∃a b,Inv X g c b f/\bt a d/\Q a b
def SP(X:Cx)(c:List (ag×Obj))(D:lu)(f:Flow)(s':am):Prop :=
 match f with
 |.next=>∃a b,Inv X c a b s'/\D.nx a b
 |.brk=>∃a b,Inv X c a b s'/\D.bk a b
 |.cont=>∃a b,Inv X c a b s'/\D.ct a b
 |.ret u=>∃v a b,Inv X c a b s'/\RelV v u/\D.rt v b
def PE(X:Cx)(e:az)(t:TE):Prop :=
 ∀(b:List (ag×Obj)) (s:am) (a:St) (H:Hp) (Q:VK),Inv X b a H s->t a H Q->au (ax X.prog X.w) X.A (aL e X.env) (EP X b a Q) X.xe s
def PT(X:Cx)(e:az)(t:TT):Prop :=
 ∀(b:List (ag×Obj)) (s:am) (a:St) (H:Hp) (Q:Bool->Hp->Prop),Inv X b a H s->t a H Q->au (ax X.prog X.w) X.A (nW e X.env (aL e X.env)) (TP X b a Q) X.xe s
def PW(X:Cx)(e:az)(t:TT):Prop :=
 ∀(c:Sem ai) (b:List (ag×Obj)) (s:am) (a:St) (H:Hp) (Q:Bool->Hp->Prop),Inv X b a H s->t a H Q->au (ax X.prog X.w) X.A (nW e X.env c) (TP X b a Q) X.xe s
def PA(X:Cx)(d:List az)(t:TA):Prop :=
 ∀(b:Pos) (c:List (ag×Obj)) (s:am) (a:St) (H:Hp) (Q:List V->Hp->Prop),Inv X c a H s->t a H Q->au (ax X.prog X.w) X.A (spliced (c_ b (aN d X.env))) (AP X c a Q) X.xe s
def PS(X:Cx)(c:ba)(t:TS):Prop :=
 ∀(b:List (ag×Obj)) (s:am) (a:St) (H:Hp) (D:lu),Inv X b a H s->t D a H->au (ax X.prog X.w) X.A (exec c X.env) (SP X b D) X.xe s
def lF(X:Cx)(c:List ba)(t:TS):Prop :=
 ∀(b:List (ag×Obj)) (s:am) (a:St) (H:Hp) (D:lu),Inv X b a H s->t D a H->au (ax X.prog X.w) X.A (execs c X.env) (SP X b D) X.xe s
theorem aM{b:Type}{t:Sem b}{Q c:b->am->Prop}{M:Model}{A:aV}{E:ai->am->Prop}{s:am}(h:au M A t Q E s)(d:∀a s,Q a s->c a s):au M A t c E s:=eG h d λ_ _ x=>x
section
variable{X:Cx}
theorem SX{a b:az}{n o:TE}(C:PE X a n)(B:PE X b o){l:List (ag×Obj)}{s:am}{c:St}{H:Hp}{R:V->V->Hp->Prop}(I:Inv X l c H s)(h:n c H λx m=>o c m λy d=>R x y d){p:Type}{Q:p->am->Prop}{f:ai->ai->Sem p}(A:∀v u j x y d,Inv X l c d j->RelV x v->RelV y u->R x y d->au (ax X.prog X.w) X.A (f v u) Q X.xe j):au (ax X.prog X.w) X.A (aL a X.env) (λv i=>au (ax X.prog X.w) X.A (aL b X.env) (λu g=>au (ax X.prog X.w) X.A (f v u) Q X.xe g) X.xe i) X.xe s:=by refine aM (C l s c H _ I h) λv q ⟨x,m,E,t,z⟩=>?_;refine aM (B l q c m _ E z) λu j ζ=>?_;obtain⟨y,d,D,r,w⟩:=ζ;exact A v u j x y d D t r w
def y0(i:Nat):TE:=λa H Q=>∃v,a[i]?=aa (aa v)/\Q v H
def tC(v:V):TE:=λ_ H Q=>Q v H
theorem fE{i:Nat}{x:Str}{g:Pos}(p:X.N[i]?=aa x)(j:eD X.env.scope x)(d:(x==("__debug__":Str))=aj:=by decide)(q:(x==("__classdict__":Str))=aj:=by decide):PE X (.Name x g) (y0 i):=by
 intro t s f H Q I h;obtain⟨v,e,h⟩:=h;obtain⟨m,n,o⟩:=I.loc;obtain⟨u,r,l⟩:=o i x v p e j;have b:EP X t f Q u s:=⟨v,H,I,r,h⟩
 rcases l with⟨a,hm⟩|⟨a,c,hc,zS⟩
 .exact zo (IQ I.ok.kind a n hm b) d
 .rcases a with a|a
  .exact zo (wpAny_loadName_cell I.ok.kind a hc zS b) d
  .exact zo (wpAny_loadName_free I.ok.kind a hc zS b q) d
theorem Ig{i j g}:PE X (.Constant (.int i) j g) (tC (.int i)):=λ_ _ _ H _ I h=>wpAny_Constant_int ⟨.int i,H,I.tok _,⟨_,rfl⟩,h⟩
theorem P5{b j g}:PE X (.Constant (.bool b) j g) (tC (.bl b)):=λ_ _ _ H _ I h=>Constant_bool ⟨.bl b,H,I,rfl,h⟩
theorem Qm{j g}:PE X (.Constant .none j g) (tC .non):=λ_ _ _ H _ I h=>Constant_none ⟨.non,H,I,rfl,h⟩
theorem OF{x j g}:PE X (.Constant (.str x) j g) (tC (.str x)):=λ_ _ _ H _ I h=>Calls.Constant_str ⟨.str x,H,I.tok _,⟨_,rfl⟩,h⟩
def Gl(X:Cx)(x:Str):Prop:=X.env.kindOf x=aa .globalImplicit
theorem tE{E:ai->am->Prop}{f:List (ag×Obj)}{s:am}{a:St}{H:Hp}{x:Str}{u:ai}{g:Pos}{Q:ai->am->Prop}(I:Inv X f a H s)(c:Gl X x)(b:X.mg x=aa u)(h:Q u s)(d:(x==("__debug__":Str))=aj:=by decide):au (ax X.prog X.w) X.A (aL (.Name x g) X.env) Q E s :=IR I.ok.kind c (Calls.loadGlobal_global (by rw[I.ok.glob];exact I.mod.glob.keeps I.bk) b h) d
theorem tj{E:ai->am->Prop}{m:List (ag×Obj)}{s:am}{a:St}{H:Hp}{x:Str}{u:ai}{g:Pos}{Q:ai->am->Prop}(I:Inv X m a H s)(f:Gl X x)(d:X.mg x=ae)(b:eM x=aa u)(h:Q u s)(c:x≠"__name__":=by decide) (i:(x==("__debug__":Str))=aj:=by decide):au (ax X.prog X.w) X.A (aL (.Name x g) X.env) Q E s:=by obtain⟨n,l,j⟩:=I.mod.blt;exact IR I.ok.kind f (Calls.loadGlobal_builtin (by rw[I.ok.glob];exact I.mod.glob.keeps I.bk) d (by rw[I.ok.blt];exact l.keeps I.bk) ((j x c).trans b) h) i
theorem BE{x:Str}{v:V}{u:ai}{g:Pos}(b:Gl X x)(a:X.mg x=aa u)(r:RelV v u)(c:(x==("__debug__":Str))=aj:=by decide):PE X (.Name x g) (tC v) :=λ_ _ _ H _ I h=>tE I b a ⟨v,H,I,r,h⟩ c
theorem Oa{x:Str}{v:V}{u:ai}{g:Pos}(d:Gl X x)(c:X.mg x=ae)(a:eM x=aa u)(r:RelV v u)(b:x≠"__name__":=by decide)(f:(x==("__debug__":Str))=aj:=by decide):PE X (.Name x g) (tC v) :=λ_ _ _ H _ I h=>tj I d c a ⟨v,H,I,r,h⟩ b f
def Ri(n o:TE)(k:Int->Int->Hp->Prop):St->Hp->Prop:=λa H=>n a H λx c=>o a c λy b=>∃i j,x=.int i/\y=.int j/\k i j b
variable{a b:az}{n o:TE}{g:Pos}
def PC(X:Cx)(i:CmpOp)(a b:az)(t:TE):Prop :=
 ∀(h:List (ag×Obj)) (s:am) (f:St) (H:Hp) (Q:VK),Inv X h f H s->t f H Q ->
  au (ax X.prog X.w) X.A (aL a X.env) (λv d=>au (ax X.prog X.w) X.A (aL b X.env) (λu c=>au (ax X.prog X.w) X.A (eJ i v u) (EP X h f Q) X.xe c) X.xe d) X.xe s
theorem TK(b:az){c:CmpOp}(h:c≠.In)(d:c≠.NotIn):nX c b=aj:=by
 have i:(c == CmpOp.In)=aj:=by cases c <;> first|rfl|exact absurd rfl h
 have f:(c == CmpOp.NotIn)=aj:=by cases c <;> first|rfl|exact absurd rfl d
 cases b <;> simp[nX,i,f]
def Ez(p:Int->Int->Bool)(n o:TE):TE:=λc H Q=>Ri n o (λi j d=>Q (.bl (p i j)) d) c H
abbrev Lg:TE->TE->TE:=Ez λi j=>decide (j<i)
theorem QH{d:CmpOp}{p:Int->Int->Bool}(z:PE X a n)(w:PE X b o)(c:∀(i j:Int) (t u:Tok) (Q:ai->am->Prop) (s:am),Q (.bool (p i j)) s->au (ax X.prog X.w) X.A (eJ d (.int i t) (.int j u)) Q X.xe s):PC X d a b (Ez p n o):=by intro D s C H Q I h;refine SX z w I h λv u l x y B A r m q=>?_;obtain⟨i,j,rfl,rfl,q⟩:=q;obtain⟨t,rfl⟩:=r;obtain⟨f,rfl⟩:=m;exact c i j t f _ l ⟨.bl _,B,A,rfl,q⟩
theorem Ki(d:PE X a n)(c:PE X b o):PC X .Gt a b (Lg n o):=QH d c λ_ _ _ _ _ _ h=>gt_int h
def tB(t:TE):TT:=λd H Q=>t d H λx f=>∃c,x=.bl c/\Q c f
theorem yW{f:CmpOp}{t:TE}(h:PC X f a b t)(i:nX f b=aj:=by first|exact TK _ (by decide) (by decide)|rfl):PT X (.Compare a [f] [b] g) (tB t):=by
 intro w s j H Q I p;refine wpAny_isTrue_Compare1 (aM (h w s j H _ I p) λv C i=>aM i λu B r=>aM r λc A ⟨x,z,y,l,m⟩=>?_) i;obtain⟨d,rfl,q⟩:=m;cases l;exact nY ⟨z,y,q⟩
theorem RF{e:az}{t:TE}(h:PE X e t)(m:∀c,nW e X.env c=(do let v <-c;standAt e.pos;nZ [v] (truthy v)):=by intro _;rfl):PT X e (tB t):=by
 intro p s f H Q I l;refine isTrue_plain (aM (h p s f H _ I l) λv w ⟨x,u,r,i,j⟩=>?_) (m _);obtain⟨d,rfl,q⟩:=j;cases i;exact nY ⟨u,r,q⟩
variable{w z:TT}{rest:List az}
def Lk(t u:TT):TT:=λd H Q=>t d H λc f=>if c=ah then Q ah f else u d f Q
def S6(t:TT):TT:=λd H Q=>t d H λc f=>Q (!c) f
theorem Ol(f:PT X a w):PW X (.BoolOp .Or [a] g) w:=by
 intro j i s d H Q I h;refine isTrue_or (aM (f i s d H Q I h) λc l e=>?_);cases c with
 |false=>exact isTrue_or_nil e
 |true=>exact e
theorem Qg(r:PT X a w)(q:PW X (.BoolOp .Or (b::rest) g) z):PW X (.BoolOp .Or (a::b::rest) g) (Lk w z):=by
 intro m i s d H Q I h;refine isTrue_or (aM (r i s d H _ I h) λc p ζ=>?_);obtain⟨l,j,f⟩:=ζ;cases c with
 |true=>exact⟨l,j,f⟩
 |false=>exact q m i p d l Q j f
theorem Mm(f:PT X a w):PT X (.UnaryOp .Not a g) (S6 w):=by intro i s d H Q I h;exact isTrue_not (f i s d H (λc j=>Q (!c) j) I h)
def Md(n o:TE):TE:=λd H Q=>n d H λx f=>∃c,x=.bl c/\if c=ah then o d f Q else Q (.bl aj) f
def O7(n:TE):TE:=λd H Q=>n d H λx f=>∃c,x=.bl c/\Q (.bl (!c)) f
theorem Nj{op}{t:TE}(h:PE X a t):PE X (.BoolOp op [a] g) t:=λf s c H Q I d=>BoolOp_one (h f s c H Q I d)
theorem Ku(r:PE X a n)(q:PE X (.BoolOp .And (b::rest) g) o):PE X (.BoolOp .And (a::b::rest) g) (Md n o):=by
 intro i s f H Q I h;refine BoolOp_and (aM (r i s f H _ I h) λv m ζ=>?_);obtain⟨x,l,j,p,d⟩:=ζ;obtain⟨c,rfl,d⟩:=d;cases p;refine nY ?_;cases c with
 |true=>exact q i m f l Q j d
 |false=>exact⟨.bl aj,l,j,rfl,d⟩
theorem R8(j:PE X a n):PE X (.UnaryOp .Not a g) (O7 n):=by
 intro l s f H Q I h;refine UnaryOp_ (aM (j l s f H _ I h) λv q ζ=>?_);obtain⟨x,p,m,i,d⟩:=ζ;obtain⟨c,rfl,d⟩:=d;cases i;exact not_of (nY ⟨.bl (!c),p,m,rfl,d⟩)
def Ow(t:TT)(n o:TE):TE:=λd H Q=>t d H λc f=>if c=ah then n d f Q else o d f Q
theorem Oe{c:az}(q:PT X c w)(t:PE X a n)(r:PE X b o):PE X (.IfExp c a b g) (Ow w n o):=by
 intro i s f H Q I h;refine wpAny_IfExp (aM (q i s f H _ I h) λd j ζ=>?_);obtain⟨p,m,l⟩:=ζ;cases d with
 |true=>exact t i j f p Q m l
 |false=>exact r i j f p Q m l
end
def cC(K:ay)(H:Hp)(a:ag)(xs:List V):Prop :=
 Rd H a (.lst xs) \/
  ∃(o:Obj) (b:Array ai) (n:Nat),K.lookup a=aa o/\o.cls=.type "list"/\o.dict=ae/\o.data=.seq b n/\b.size<=bd/\bt xs b.toList
def cR(K:ay)(H:Hp)(a:ag)(xs:List V):Prop :=
 Rd H a (.tup xs) \/
  ∃(o:Obj) (b:Array ai) (n:Nat),K.lookup a=aa o/\o.cls=.type "tuple"/\o.data=.seq b n/\b.size<=bd/\bt xs b.toList
def Up:ai->Option V
 |.none=>aa .non
 |.bool b=>aa (.bl b)
 |.int i _=>aa (.int i)
 |.str x _=>aa (.str x)
 |.bytes b _=>aa (.byt b)
 |.float b _=>aa (.flt b)
 |.ref a=>aa (.ref a)
 |.type n=>aa (.ty n)
 |_=>ae
theorem RelV.abs{x:V}{u:ai}(r:RelV x u):Up u=aa x:=by
 cases x with
 |non=>cases r;rfl
 |bl _=>cases r;rfl
 |int _=>obtain⟨t,rfl⟩:=r;rfl
 |str _=>obtain⟨t,rfl⟩:=r;rfl
 |byt _=>obtain⟨t,rfl⟩:=r;rfl
 |flt _=>obtain⟨t,rfl⟩:=r;rfl
 |ref _=>cases r;rfl
 |ty _=>cases r;rfl
theorem RelV.inj{x y:V}{u:ai}(r:RelV x u)(q:RelV y u):x=y:=dZ (r.abs.symm.trans q.abs)
theorem bt.inj{xs a:List V}{b:List ai}(r:bt xs b)(s:bt a b):xs=a:=by
 unfold bt at r s
 induction r generalizing a with
 |nil=>cases s;rfl
 |cons r _ g=>
  cases s with
  |cons q t=>rw[r.inj q,g t]
section
variable{X:Cx}{g:List (ag×Obj)}{c:St}{H:Hp}{s:am}{a:ag}{b f:List V}
theorem cC.of{K:ay}(h:H a=aa (.lst b)):cC K H a b:=.inl (.inl h)
theorem cR.of{K:ay}(h:H a=aa (.tup b)):cR K H a b:=.inl (.inl h)
theorem Inv.list(I:Inv X g c H s)(h:cC X.K H a b):∃its:List ai,bt b its/\PlainL s.heap a its.toArray/\b.length<=bd:=by
 rcases h with h|⟨o,its,n,i,l,j,d,m,r⟩
 .obtain⟨z,its,n,r,e⟩:=h.ok I.hok;exact⟨its,r,⟨_,n,e,rfl,rfl,rfl⟩,z⟩
 .refine⟨its.toList,r,⟨o,n,I.kIn a o i,l,j,by simpa using d⟩,?_⟩;have e:=r.length;simp only[n5]at e;lia
theorem Inv.tuple(I:Inv X g c H s)(h:cR X.K H a b):∃d:List ai,bt b d/\IsTup s.heap a d.toArray/\b.length<=bd:=by
 rcases h with h|⟨o,d,n,j,l,i,m,r⟩
 .obtain⟨z,d,r,p,_⟩:=h.ok I.hok;exact⟨d,r,p,z⟩
 .refine⟨d.toList,r,⟨o,I.kIn a o j,l,n,by simpa using i⟩,?_⟩;have e:=r.length;simp only[n5]at e;lia
theorem Inv.list_inj(I:Inv X g c H s)(h:cC X.K H a b)(q:cC X.K H a f):b=f:=by
 obtain⟨j,r,⟨o,n,e,_,_,d⟩,_⟩:=I.list h;obtain⟨i,p,⟨t,u,l,_,_,m⟩,_⟩:=I.list q;rw[e]at l;cases l;rw[d]at m;injection m with d1 _;have:j=i:=by simpa using congrArg Array.toList d1
 subst this;exact r.inj p
theorem Inv.tuple_inj(I:Inv X g c H s)(h:cR X.K H a b)(q:cR X.K H a f):b=f:=by
 obtain⟨j,r,⟨o,e,_,n,d⟩,_⟩:=I.tuple h;obtain⟨i,p,⟨t,l,_,u,m⟩,_⟩:=I.tuple q;rw[e]at l;cases l;rw[d]at m;injection m with d1 _;have:j=i:=by simpa using congrArg Array.toList d1
 subst this;exact r.inj p
end
abbrev Cx.wish(X:Cx)(E:ai->am->Prop):Cx:={X with xe:=E}
abbrev Cx.nox(X:Cx):Cx:=X.wish λ_ _=>False
theorem Cx.Ok.wish{X:Cx}(ok:X.Ok)(E:ai->am->Prop):(X.wish E).Ok :=⟨ok.mod,ok.kind,ok.glob,ok.blt,ok.above,ok.inj,ok.has,ok.cab,ok.hd,ok.frames,ok.stk,ok.exf,ok.bs,ok.bsz,ok.noex,ok.exfs,ok.funs,ok.frf,ok.tab⟩
theorem Cx.Ok.unwish{X:Cx}{E:ai->am->Prop}(ok:(X.wish E).Ok):X.Ok :=⟨ok.mod,ok.kind,ok.glob,ok.blt,ok.above,ok.inj,ok.has,ok.cab,ok.hd,ok.frames,ok.stk,ok.exf,ok.bs,ok.bsz,ok.noex,ok.exfs,ok.funs,ok.frf,ok.tab⟩
section
variable{X:Cx}{a:List (ag×Obj)}{b:St}{H:Hp}{s:am}{E:ai->am->Prop}
theorem Inv.wish(I:Inv X a b H s)(E:ai->am->Prop):Inv (X.wish E) a b H s:=⟨I.ok.wish E,I.os,I.bare,I.base,I.loc,I.cell,I.free,I.freeC,I.pin,I.hok,I.len⟩
theorem Inv.unwish(I:Inv (X.wish E) a b H s):Inv X a b H s:=⟨I.ok.unwish,I.os,I.bare,I.base,I.loc,I.cell,I.free,I.freeC,I.pin,I.hok,I.len⟩
theorem SP.unwish{D:lu}{f:Flow}{g:am}(h:SP (X.wish E) a D f g):SP X a D f g:=by
 cases f with
 |next=>obtain⟨c,d,I,q⟩:=h;exact⟨c,d,I.unwish,q⟩
 |brk=>obtain⟨c,d,I,q⟩:=h;exact⟨c,d,I.unwish,q⟩
 |cont=>obtain⟨c,d,I,q⟩:=h;exact⟨c,d,I.unwish,q⟩
 |ret u=>obtain⟨v,c,d,I,r,q⟩:=h;exact⟨v,c,d,I.unwish,r,q⟩
end
section
variable{X:Cx}{j:ba}{rest:List ba}{t u:TS}{e:az}{i:TE}{g:Pos}
def NC:TS:=λD a H=>D.nx a H
def Mi(t u:TS):TS:=λD a H=>t {D with nx:=u D} a H
theorem LW:lF X [] NC:=λ_ _ a H _ I h=>CG ⟨a,H,I,h⟩
theorem KG(m:PS X j t)(l:lF X rest u):lF X (j::rest) (Mi t u):=by
 intro b s c H D I h;refine IS (aM (m b s c H {D with nx:=u D} I h) λf d q=>?_);cases f with
 |next=>obtain⟨a,o,n,q⟩:=q;exact l b d a o D n q
 |ret v=>exact q
 |brk=>exact q
 |cont=>exact q
theorem LQ(b:PS X j t):lF X [j] t:=by
 intro c s a H D I h;refine IS (aM (b c s a H D I h) λf d q=>?_);cases f with
 |next=>exact CG q
 |ret v=>exact q
 |brk=>exact q
 |cont=>exact q
theorem Inv.quiet{b:List (ag×Obj)}{a:St}{H:Hp}{s:am}(I:Inv X b a H s):interactive X.env=aj:=by simp[interactive,I.ok.kind]
def Pr(i:TE):TS:=λD a H=>i a H λ_ b=>D.nx a b
theorem By(d:PE X e i)(c:kD e ae g.line X.env=pure aj:=by rfl):PS X (.Expr e g) (Pr i):=by intro f s a H D I h;exact wpAny_Expr_any (aM (d f s a H _ I h) λv n ⟨x,m,l,o,b⟩=>⟨a,m,l,b⟩) I.quiet c
def OV(i:TE):TS:=λD a H=>i a H D.rt
theorem AD(d:PE X e i):PS X (.Return (aa e) g) (OV i):=by intro f s a H D I h;exact wpAny_Return_some (aM (d f s a H _ I h) λv n ⟨x,m,l,b,c⟩=>⟨x,a,m,l,b,c⟩)
def RM:TS:=λD _ H=>D.rt .non H
theorem TQ:PS X (.Return ae g) RM:=λ_ _ a H _ I h=>wpAny_Return_none ⟨.non,a,H,I,rfl,h⟩
def Tz(c:TT)(t u:TS):TS:=λD a H=>c a H λb d=>if b=ah then t D a d else u D a d
theorem Th{c:az}{a b:List ba}{m:TT}(r:PT X c m)(w:lF X a t)(v:lF X b u):PS X (.If c a b g) (Tz m t u):=by
 intro l s f H D I h;refine wpAny_If (aM (r l s f H _ I h) λd n ζ=>?_);obtain⟨q,p,o⟩:=ζ;cases d with
 |true=>exact w l n f q D p o
 |false=>exact v l n f q D p o
end
abbrev TG:=V->St->Hp->(St->Hp->Prop)->Prop
def PG(X:Cx)(a:az)(t:TG):Prop :=
 ∀(d:List (ag×Obj)) (s:am) (c:St) (H:Hp) (v:V) (u:ai) (Q:St->Hp->Prop),Inv X d c H s->RelV v u->t v c H Q ->
  au (ax X.prog X.w) X.A (qO a X.env u) (λ_ s'=>∃b f,Inv X d b f s'/\Q b f) X.xe s
abbrev BO:=V->V->V->Hp->(Hp->Prop)->Prop
def Hf(X:Cx)(t:BO):Prop :=
 ∀(c:List (ag×Obj)) (s:am) (a:St) (H:Hp) (o i v:V) (ov b u:ai) (Q:Hp->Prop),Inv X c a H s->RelV o ov->RelV i b->RelV v u->t o i v H Q ->
  au (ax X.prog X.w) X.A (setItem ov b u) (λ_ f=>∃d,Inv X c a d f/\Q d) X.xe s
section
variable{X:Cx}{a:Pos}
def Ep(i:Nat):TG:=λv b H Q=>Q (b.set i (aa v)) H
theorem IK{i:Nat}{x:Str}(f:X.N.Nodup)(c:X.N[i]?=aa x)(b:Loc X.env.scope x)(d:X.fn x=ah\/X.env.scope.names.lookup x=aa .local:=by first|exact .inl rfl|exact .inr rfl|assumption):PG X (.Name x a) (Ep i):=by intro m s j H v u Q I r h;exact wpAny_assign_Name (yB I f c b r (λl g=>⟨_,H,g,h⟩) d)
def Sq(to c:TE)(t:BO):TG:=λv b H Q=>to b H λo g=>c b g λi f=>t o i v f λd=>Q b d
theorem J9{o i:az}{to f:TE}{t:BO}(z:PE X o to)(A:PE X i f)(w:Hf X t)(B:∀v,qO (.Subscript o i a) X.env v=(do
   let ov <-nZ [v] (aL o X.env)
   let b <-nZ [v,ov] (aL i X.env)
   standAt a
   nZ [v,ov,b] (setItem ov b v)
   release [v,ov,b] []):=by intro _;rfl):PG X (.Subscript o i a) (Sq to f t):=by
 intro d s c H v u Q I r h;rw[B];refine ar (js (aM (z d s c H _ I h) λov j ζ=>?_));obtain⟨x,J,E,m,q⟩:=ζ;refine ar (js (aM (A d j c J _ E q) λb g ζ=>?_));obtain⟨y,G,D,l,p⟩:=ζ;refine ar (wpAny_standAt (ar (js (aM (w d g c G x y v ov b u _ D m l r p) λ_ K ζ=>?_))));obtain⟨F,C,n⟩:=ζ;exact wpAny_release ⟨c,F,C,n⟩
def E6(c:TE)(g:TG):TS:=λD b H=>c b H λx d=>g x b d D.nx
theorem Oc{b e:az}{d:TE}{g:TG}(p:PE X e d)(o:PG X b g)(n:swapsWithSole [b] e a.line X.env=pure aj:=by rfl)(m:swappedStores [b] e X.env=pure ae:=by rfl)(r:(assignEach [b] X.env).map (·.2)=[qO b X.env]:=by rfl):PS X (.Assign [b] e a) (E6 d g):=by intro f s c H D I h;refine wpAny_Assign_stores (aM (p f s c H _ I h) λv i ⟨x,u,t,j,l⟩=>?_) n m;rw[r];exact aM (o f i c u x v _ t j l) λ_ w q=>q
theorem Ib{i:Nat}{x:Str}{e:az}{c:TE}{b:Pos}(p:X.N.Nodup)(m:X.N[i]?=aa x)(j:Loc X.env.scope x)(o:PE X e c)(l:kD e (aa (.Name x b)) a.line X.env=pure aj:=by rfl)(n:X.fn x=ah\/X.env.scope.names.lookup x=aa .local:=by first|exact .inl rfl|exact .inr rfl|assumption):PS X (.Assign [.Name x b] e a) (E6 c (Ep i)):=by intro q s d H D I h;refine wpAny_Assign_Name (aM (o q s d H _ I h) λv z ⟨y,u,t,f,g⟩=>?_) l;exact yB t p m j f (λw r=>⟨_,u,r,g⟩) n
def ML(c:TT)(j:TS):TS:=λD d H=>∃W:Nat->St->Hp->Prop,(∃m,W m d H)/\∀m d H,W m d H ->
 c d H λb h=>if b=ah then ∃N:St->Hp->Prop,(∀f i,N f i->∃g,g<m/\W g f i)/\j {D with nx:=N,ct:=N,bk:=D.nx} d h else D.nx d h
theorem SD{c:az}{i:List ba}{y:TT}{z:TS}(A:CH (ax X.prog X.w) X.A X.env X.xe)(S:PT X c y)(T:lF X i z):PS X (.While c i [] a) (ML y z):=by
 intro w s J H D I h;obtain⟨W,⟨Q,L⟩,l⟩:=h;refine wpAny_While (codeAny_whileLoop (λn P=>∃j G,Inv X w j G P/\W n j G) ?_ Q ⟨J,H,I,L⟩);rintro n O ⟨g,F,Y,K⟩;refine tJ A (aM (S w O g F _ Y (l n g F K)) λb M ζ=>?_);obtain⟨E,C,p⟩:=ζ;cases b with
 |true=>
  obtain⟨N,B,p⟩:=p;rw[if_pos rfl];refine tJ A (aM (T w M g E _ C p) λf Z o=>?_);cases f with
  |next=>obtain⟨d,m,x,r⟩:=o;obtain⟨t,u,q⟩:=B d m r;exact⟨t,u,d,m,x,q⟩
  |cont=>obtain⟨d,m,x,r⟩:=o;obtain⟨t,u,q⟩:=B d m r;exact⟨t,u,d,m,x,q⟩
  |brk=>exact o
  |ret v=>exact o
 |false=>rw[if_neg fq];exact CG ⟨g,E,C,p⟩
end
structure It where
 go:Nat->Hp->Prop
 yld:Nat->Hp->V->Hp->Prop
 stop:Nat->Hp->Prop
def lI(X:Cx)(a:List (ag×Obj))(H:Hp)(b:ag):Prop :=
 H b=ae/\b≠X.env.locals/\b∉X.fs/\(b∈X.ex\/X.s₀.heap.objs.size<=b)/\(∀x c,X.env.cells.lookup x=aa c->c≠b)/\∀p∈X.pn++a,p.1≠b
theorem Inv.fpOk{X:Cx}{d:List (ag×Obj)}{g:St}{H f:Hp}{s:am}{b:ag}(I:Inv X d g H s)(a:s.heap.objs.size<=b)(i:f b=ae):lI X d f b:=by
 refine⟨i,mC (fY I.lt a),I.nofs a,.inr (cP I.sz a),λx c e z=>?_,λp h z=>?_⟩
 .obtain⟨v,q⟩:=I.cell x c e;exact absurd (fY q.lt (by rw[z];exact a)) (fG _)
 .exact absurd (fY (bR (I.pin p h).1) (by rw[z];exact a)) (fG _)
structure qj(P:aS)(w:aG)(K:ay)(tg:az)(J:It)(fp:List ag)(it:ag)(tn:Nat->aB->Prop):Prop where
 mem:it∈fp
 obj:∀i h,tn i h->∀b∈fp,∃o,h.get? b=aa o/\∀v,o.data≠.cell v
 keep:∀i h h',tn i h->(∀b∈fp,∀o,h.get? b=aa o->h'.get? b=aa o)->tn i h'
 item:∀(X:Cx),X.prog=P->X.w=w->X.K=K->X.calm=ah->∀(i:Nat) (af:List (ag×Obj)) (s:am) (σ:St) (H:Hp) (E:ai->am->Prop),Inv X af σ H s->(∀b∈fp,lI X af H b)->tn i s.heap->J.go i H ->
  au (ax P w) X.A (pyNext (.ref it)) (λr s1=>∃u,r=aa u /\ au (ax P w) X.A (CJ tg (.ref it) u) (λ_ s2=>∃x H',Inv X af σ H' s2/\RelV x u/\J.yld i H x H'/\tn (i+1) s2.heap/\∀b∈fp,H' b=ae) E s1) E s
 done:∀(X:Cx),X.prog=P->X.w=w->X.K=K->X.calm=ah->∀(i:Nat) (af:List (ag×Obj)) (s:am) (σ:St) (H:Hp) (E:ai->am->Prop),Inv X af σ H s->(∀b∈fp,lI X af H b)->tn i s.heap->J.stop i H ->
  au (ax P w) X.A (pyNext (.ref it)) (λr s1=>r=ae/\Inv X af σ H s1) E s
 self:∀(A:aV) (i:Nat) (s:am) (Q:ai->am->Prop) (E:ai->am->Prop),tn i s.heap->Q (.ref it) s->au (ax P w) A (mD (.ref it)) Q E s
abbrev TI:=St->Hp->(It->Hp->Prop)->Prop
def ux(X:Cx)(i:List (ag×Obj))(j:St)(l:az)(R:It->Hp->Prop)(a:ai)(f:am):Prop :=
 ∃(g:ag) (h:List ag) (d:Nat->aB->Prop) (J:It) (c:Hp),a=.ref g/\Inv X i j c f/\qj X.prog X.w X.K l J h g d/\d 0 f.heap/\(∀b∈h,lI X i c b)/\R J c
def PI(X:Cx)(f a:az)(d:TI):Prop :=
 ∀(c:List (ag×Obj)) (s:am) (b:St) (H:Hp) (R:It->Hp->Prop),Inv X c b H s->d b H R ->
  au (ax X.prog X.w) X.A (aL a X.env) (λv g=>au (ax X.prog X.w) X.A (mD v) (ux X c b f R) X.xe g) X.xe s
theorem r_{M:Model}{A:aV}{E:ai->am->Prop}{s:am}{c:az}{d:ag}{u:ai}{o:Obj}{n:String}{b:Array ai}{Q:Unit->am->Prop}(f:s.heap.get? d=aa o)(j:o.cls=.type n)(i:o.data=.fields b)(g:["enumerate","zip","dict_itemiterator","dict_reverseitemiterator","odict_iterator","itertools.zip_longest","itertools.pairwise"].contains n=aj) (a:Q () s):au M A (CJ c (.ref d) u) Q E s:=by
 unfold CJ;cases c <;> first
  |exact aI a
  | (cases u <;> first
    |exact aI a
    | (refine ar (wpAny_load f ?_)
       rw[j,i];show au M A (if(["enumerate","zip","dict_itemiterator","dict_reverseitemiterator","odict_iterator","itertools.zip_longest","itertools.pairwise"].contains n&&b[0]? == aa (ez _))=ah then _ else _) Q E s;rw[if_neg (by intro h;rw[g,Bool.false_and]at h;cases h)];exact aI a))
def At(K:ay)(a:ag):It :=⟨λi H=>∃xs x,cC K H a xs/\xs[i]?=aa x,λi H x b=>b=H/\∀xs,cC K H a xs->xs[i]?=aa x,λi H=>∃xs,cC K H a xs/\xs.length<=i⟩
def BL(K:ay)(a:ag):It :=⟨λi H=>∃xs x,cR K H a xs/\xs[i]?=aa x,λi H x b=>b=H/\∀xs,cR K H a xs->xs[i]?=aa x,λi H=>∃xs,cR K H a xs/\xs.length<=i⟩
def yi(a:Int)(n:Nat):It:=⟨λi _=>i<n,λi H x b=>b=H/\x=.int (a+i),λi _=>n<=i⟩
theorem Pg{P:aS}{w:aG}{K:ay}{O:az}(a g:ag):qj P w K O (At K a) [g] g (λi h=>h.IsListIter g a i) where
 mem:=by simp
 obj:=λi h f b j=>by
  have e:b=g:=by simpa using j
  subst e;obtain⟨o,e,c,d⟩:=f;exact⟨o,e,λv z=>by rw[d]at z;cases z⟩
 keep:=λi h n f k=>f.at λo e=>k g (by simp) o e
 item:=by intro X B y C L i M s J H E I m f A;subst B y C;obtain⟨xs,x,l,t⟩:=A;obtain⟨r,q,p,S⟩:=I.list l;obtain⟨u,W,Q⟩:=q.get t;obtain⟨G,F,f2,f3,f4,D⟩:=m g (by simp);refine wpAny_pyNext_list_item f p.isList (x:=u) (by simpa using W) λn N sb=>?_;have Z:Inv X M J H {s with heap:=n}:=I.turned (t':=s.toks) (λb o j e=>(sb.2 b j).trans e) G F f3 f4 D;obtain⟨o,e,c,d⟩:=id N;exact⟨u,rfl,r_ (s:={s with heap:=n}) e c d (by decide) ⟨x,H,Z,Q,⟨rfl,λys T=>by rw[I.list_inj T l];exact t⟩,N,λb j=>(m b j).1⟩⟩
 done:=by intro X B y C L i M s J H E I m f A;subst B y C;obtain⟨xs,l,t⟩:=A;obtain⟨r,q,p,S⟩:=I.list l;obtain⟨G,F,f2,f3,f4,D⟩:=m g (by simp);have hl:=q.length;exact wpAny_pyNext_list_end (I.ok.hd L) f p.isList (by simp;lia) λn Y=>⟨rfl,I.turned (t':=s.toks) (λb o j e=>Y b o j e) G F f3 f4 D⟩
 self:=λ_ _ _ _ _ f h=>wpAny_pyIter_listiter f h
theorem Se{P:aS}{w:aG}{K:ay}{O:az}(a j:ag):qj P w K O (BL K a) [j] j (λi h=>h.IsTupleIter j a i) where
 mem:=by simp
 obj:=λi h f b l=>by
  have e:b=j:=by simpa using l
  subst e;obtain⟨o,e,c,d⟩:=f;exact⟨o,e,λv z=>by rw[d]at z;cases z⟩
 keep:=λi h q f k=>f.at λo e=>k j (by simp) o e
 item:=by intro X B y C L i M s J H E I n f A;subst B y C;obtain⟨xs,x,m,t⟩:=A;obtain⟨g,r,p,S⟩:=I.tuple m;obtain⟨u,W,Q⟩:=r.get t;obtain⟨G,F,f2,f3,f4,D⟩:=n j (by simp);refine wpAny_pyNext_tuple_item f (show s.heap.IsTuple a g.toArray from p) (x:=u) (by simpa using W) λq N sb=>?_;have Z:Inv X M J H {s with heap:=q}:=I.turned (t':=s.toks) (λb o l e=>(sb.2 b l).trans e) G F f3 f4 D;obtain⟨o,e,c,d⟩:=id N;exact⟨u,rfl,r_ (s:={s with heap:=q}) e c d (by decide) ⟨x,H,Z,Q,⟨rfl,λys T=>by rw[I.tuple_inj T m];exact t⟩,N,λb l=>(n b l).1⟩⟩
 done:=by intro X B y C L i M s J H E I n f A;subst B y C;obtain⟨xs,m,t⟩:=A;obtain⟨g,r,p,S⟩:=I.tuple m;obtain⟨G,F,f2,f3,f4,D⟩:=n j (by simp);have hl:=r.length;exact wpAny_pyNext_tuple_end (I.ok.hd L) f (show s.heap.IsTuple a g.toArray from p) (by simp;lia) λq Y=>⟨rfl,I.turned (t':=s.toks) (λb o l e=>Y b o l e) G F f3 f4 D⟩
 self:=λ_ _ _ _ _ f h=>wpAny_pyIter_tupleiter f h
theorem N5{P:aS}{w:aG}{K:ay}{G:az}(c:ag)(f:Int)(n:Nat):qj P w K G (yi f n) [c] c (λi h=>CL h c (f+(i:Nat)*1) ((n:Int)-(i:Nat)) 1) where
 mem:=by simp
 obj:=λi h a b d=>by
  have e:b=c:=by simpa using d
  subst e;exact⟨_,a,λv z=>by
   have F:Data.fields _=Data.cell v:=z;cases F⟩
 keep:=λi h j a k=>k c (by simp) _ a
 item:=by intro X q l r p i C s A H E I g a m;subst q l r;obtain⟨y,x,f2,f3,f4,u⟩:=g c (by simp);have W:=Walks.range (prog:=X.prog) (w:=X.w) (I.ok.hd p) c f 1 n;refine W.item i s _ _ m a λv j B L D J=>?_;obtain⟨t,rfl⟩:=L;have N:Inv X C A H {s with heap:=j,toks:=B}:=I.turned (λb o d e=>J b o (by simpa using d) e) y x f3 f4 u;refine⟨_,rfl,r_ (s:={s with heap:=j,toks:=B}) (n:="range_iterator") D rfl rfl (by decide) ⟨.int (f+i),H,N,⟨t,?_⟩,⟨rfl,rfl⟩,D,λb d=>(g b d).1⟩⟩;rw[Int.mul_one]
 done:=by intro X q l r p i C s A H E I g a m;subst q l r;obtain⟨y,x,f2,f3,f4,u⟩:=g c (by simp);exact wpAny_pyNext_range_end (I.ok.hd p) a (by have:n<=i:=m;lia) λj M=>⟨rfl,I.turned (t':=s.toks) (λb o d e=>M b o d e) y x f3 f4 u⟩
 self:=λ_ _ _ _ _ a h=>wpAny_pyIter_rangeiter a h
section
variable{X:Cx}{c:az}
theorem KH{h:List (ag×Obj)}{f:St}{H:Hp}{s:am}{R:It->Hp->Prop}{E:ai->am->Prop}{a d:Int}{t u v:Tok}{g:Nat}(I:Inv X h f H s)(p:-(2^62)<=a)(n:a<2^62)(m:-(2^62)<=d)(l:d<2^62)(q:R (yi a (d-a).toNat) H):au (ax X.prog X.w) X.A (mD (.ref s.heap.objs.size)) (ux X h f c R) E {s with heap:=s.heap.push {cls:=.type "range",data:=.fields #[.int a t,.int d u,.int 1 v]},toks:=g}:=by
 refine wpAny_pyIter_range (IsRange.new ..) (small_one p n m l) ?_;have i:Inv X h f H {s with heap:=s.heap.push {cls:=.type "range",data:=.fields #[.int a t,.int d u,.int 1 v]},toks:=g}:=I.kept λb o e=>bu _ e;refine⟨(s.heap.push {cls:=.type "range",data:=.fields #[.int a t,.int d u,.int 1 v]}).objs.size,[(s.heap.push {cls:=.type "range",data:=.fields #[.int a t,.int d u,.int 1 v]}).objs.size],_,_,H,rfl,i.kept (t':=g) λb o e=>bu _ e,N5 _ a (d-a).toNat,?_,λb j=>?_,q⟩
 .have w:a+((0:Nat):Int)*1=a:=by simp
  have r:(((d-a).toNat:Nat):Int)-((0:Nat):Int)=CM a d 1:=by rw[rangeSize_one];split <;> lia
  show CL _ _ (a+((0:Nat):Int)*1) ((((d-a).toNat:Nat):Int)-((0:Nat):Int)) 1;rw[w,r];exact cI _ rfl
 .have e:b=(s.heap.push {cls:=.type "range",data:=.fields #[.int a t,.int d u,.int 1 v]}).objs.size:=by simpa using j
  subst e;exact i.fpOk (a9 _) (i.hok.fresh (a9 _))
def La(d:TA):TI:=λa H R=>d a H λb f=>∃j:Int,b=[.int j]/\-(2^62)<=j/\j<2^62/\R (yi 0 j.toNat) f
theorem TV{a:az}{f:TA}{p b:Pos}(u:Gl X "range")(o:X.mg "range"=ae)(v:PA X [a] f)(n:aN [a] X.env=[(aj,aL a X.env)]:=by rfl):PI X c (.Call (.Name "range" p) [a] [] b) (La f):=by
 intro w s g H R I h;refine Call_ (tj I u o boot_range (IT (aM (v b w s g H _ I h) λz A ⟨y,B,x,l,d⟩=>?_) n rfl));obtain⟨j,e,d,m,q⟩:=d;subst e;cases l with
 |cons r i=>
  cases i;obtain⟨t,rfl⟩:=r;exact call_range_1 (KH x ∅ ∅ d m (by simpa using q))
def RO(j:TI)(g:TG)(l:TS):TS:=λD a H=>j a H λJ o=>∃W:Nat->Nat->St->Hp->Prop,(∃m,W 0 m a o)/\∀i m a H,W i m a H ->
 (J.stop i H/\D.nx a H)\/(J.go i H/\∃N:St->Hp->Prop,(∀b d,N b d->∃h,h<m/\W (i+1) h b d)/\∀x d,J.yld i H x d->g x a d λf n=>l {D with nx:=N,ct:=N,bk:=D.nx} f n)
def vo(a:List ag)(h:aB):List (ag×Obj):=a.filterMap λb=>(h.get? b).map λo=>(b,o)
theorem yI{a:List ag}{h:aB}{b:ag}{o:Obj}(d:b∈a)(e:h.get? b=aa o):(b,o)∈vo a h:=List.mem_filterMap.mpr ⟨b,d,by rw[e];rfl⟩
theorem Of{a:List ag}{h:aB}{p:ag×Obj}(d:p∈vo a h):p.1∈a/\h.get? p.1=aa p.2:=by
 obtain⟨b,f,e⟩:=List.mem_filterMap.mp d;cases q:h.get? b with
 |none=>rw[q]at e;cases e
 |some o=>rw[q]at e;have g:(b,o)=p:=dZ e;subst g;exact⟨f,q⟩
theorem Inv.pinned{f:List (ag×Obj)}{g:St}{H:Hp}{s:am}{a:List ag}(I:Inv X f g H s)(m:∀b∈a,lI X f H b)(l:∀b∈a,∃o,s.heap.get? b=aa o/\∀v,o.data≠.cell v):Inv X (f++vo a s.heap) g H s :=
 I.pins_of λp j=>(jr.mp j).elim (λz=>I.pin p (iW _ z)) λz=>by
  obtain⟨h,e⟩:=Of z;obtain⟨q,n,f2,_⟩:=m p.1 h;obtain⟨o,i,d⟩:=l p.1 h;rw[e]at i;cases i;exact⟨e,q,n,f2,d⟩
theorem Inv.unpinned{b d:List (ag×Obj)}{a:St}{H:Hp}{s:am}(I:Inv X (b++d) a H s):Inv X b a H s:=I.pins_of λp f=>I.pin p (iW _ (qN _ f))
theorem OU{q:az}{C:List ba}{wi:TI}{g:TG}{tb:TS}{S:Pos}(K:CH (ax X.prog X.w) X.A X.env X.xe)(hc:X.calm=ah)(hi:PI X c q wi)(hg:PG X c g)(t:lF X C tb)(hs:∀x,n6 q X.env x=pure x:=by intro _;rfl):PS X (.For c q C [] S) (RO wi g tb):=by
 intro E s σ H D I h;refine wpAny_For (aM (hi E s σ H _ I h) λv s1 h1=>aM h1 λitv s2 h2=>?_) hs;obtain⟨it,M,tn,J,H2,e,I2,T,bf,f2,W,⟨m0,w0⟩,F⟩:=h2;subst e;have p:∀{A:Hp},(∀b∈M,A b=ae)->∀b∈M,lI X E A b:=λhn b t=>⟨hn b t,(f2 b t).2⟩
 refine codeAny_forLoop_any (λn s'=>∃i l A,Inv X E l A s'/\tn i s'.heap/\(∀b∈M,A b=ae)/\W i n l A) ?_ m0 ⟨0,σ,H2,I2,bf,λb t=>(f2 b t).1,w0⟩;rintro n s3 ⟨i,j,O,I3,bL,L,w3⟩;rcases F i n j O w3 with⟨stop,qn⟩|⟨go,N,hN,step⟩
 .refine tJ K (aM (T.done X rfl rfl rfl hc i E s3 j O X.xe I3 (p L) bL stop) λr s4 ζ=>?_);obtain⟨Y,I4⟩:=ζ;subst Y;exact CG ⟨j,O,I4,qn⟩
 .refine tJ K (aM (T.item X rfl rfl rfl hc i E s3 j O X.xe I3 (p L) bL go) λr s4 ζ=>?_);obtain⟨u,Y,h4⟩:=ζ;subst Y;refine tJ K (aM h4 λ_ s5 ζ=>?_);obtain⟨x,H5,I5,r5,y5,cy,Z⟩:=ζ;have I5':=I5.pinned (p Z) (T.obj _ _ cy);refine tJ K (aM (hg _ s5 j H5 x u _ I5' r5 (step x H5 y5)) λ_ s6 ζ=>?_);obtain⟨P,H6,I6,q6⟩:=ζ;refine tJ K (aM (t _ s6 P H6 _ I6 q6) λf Q B=>?_);have w:∀{a:St}{z:Hp},Inv X (E++vo M s5.heap) a z Q->N a z->∃m,m<n/\∃i l A,Inv X E l A Q/\tn i Q.heap/\(∀b∈M,A b=ae)/\W i m l A:=λ{a z} y G=>by obtain⟨m',hm,w7⟩:=hN a z G;refine⟨m',hm,i+1,a,z,y.unpinned,T.keep _ _ _ cy λb t o e=>(y.pin (b,o) (iW _ (iW _ (yI t e)))).1,λb t=>?_,w7⟩;obtain⟨o,e,d⟩:=T.obj _ _ cy b t;exact(y.pin (b,o) (iW _ (iW _ (yI t e)))).2.1
  cases f with
  |next=>obtain⟨a,z,y,G⟩:=B;exact w y G
  |cont=>obtain⟨a,z,y,G⟩:=B;exact w y G
  |brk=>obtain⟨a,z,y,B⟩:=B;exact⟨a,z,y.unpinned,B⟩
  |ret v=>obtain⟨x7,a,z,y,r7,B⟩:=B;exact⟨x7,a,z,y.unpinned,r7,B⟩
end
abbrev R2:=V->V->Hp->VK->Prop
def cb(X:Cx)(f:ai->ai->Sem ai)(r:R2):Prop :=
 ∀(b:List (ag×Obj)) (s:am) (a:St) (H:Hp) (x y:V) (v u:ai) (Q:VK),Inv X b a H s->RelV x v->RelV y u->r x y H Q ->
  au (ax X.prog X.w) X.A (f v u) (EP X b a Q) X.xe s
def zk(X:Cx)(f:ai->Sem ai)(r:V->Hp->VK->Prop):Prop :=
 ∀(b:List (ag×Obj)) (s:am) (a:St) (H:Hp) (x:V) (v:ai) (Q:VK),Inv X b a H s->RelV x v->r x H Q ->
  au (ax X.prog X.w) X.A (f v) (EP X b a Q) X.xe s
def eC(X:Cx)(f:ai)(r:List V->Hp->VK->Prop):Prop :=
 ∀(c:List (ag×Obj)) (s:am) (a:St) (H:Hp) (xs:List V) (b:List ai) (Q:VK),Inv X c a H s->bt xs b->r xs H Q ->
  au (ax X.prog X.w) X.A (call f b) (EP X c a Q) X.xe s
def xK(r:R2)(c b:TE):TE:=λa H Q=>c a H λx f=>b a f λy d=>r x y d Q
def Ru(r:V->Hp->VK->Prop)(b:TE):TE:=λa H Q=>b a H λx c=>r x c Q
def rI(C:Int->Int->Prop)(g:Int->Int->V):R2:=λx y H Q=>∃i j,x=.int i/\y=.int j/\C i j/\Q (g i j) H
def l8(g:Int->Int->V):R2:=λx y H Q=>∃i j,x=.int i/\y=.int j/\Q (g i j) H
def rU(g:Int->V):V->Hp->VK->Prop:=λx H Q=>∃i,x=.int i/\Q (g i) H
section
variable{X:Cx}{a b c:az}{d m n:TE}{l:Pos}
theorem Cd(E:PE X a d)(D:PE X b m){q:List (ag×Obj)}{s:am}{g:St}{H:Hp}{R:V->V->Hp->Prop}(I:Inv X q g H s)(h:d g H λx r=>m g r λy i=>R x y i) {Q:ai->am->Prop}{f:ai->ai->Sem ai}(C:∀v u p x y i,Inv X q g i p->RelV x v->RelV y u->R x y i->au (ax X.prog X.w) X.A (f v u) Q X.xe p):au (ax X.prog X.w) X.A (aL a X.env) (λv o=>au (ax X.prog X.w) X.A (aL b X.env) (λu j=>au (ax X.prog X.w) X.A (f v u) Q X.xe j) X.xe o) X.xe s:=by refine aM (E q s g H _ I h) λv t ⟨x,r,G,z,B⟩=>?_;refine aM (D q t g r _ G B) λu p ζ=>?_;obtain⟨y,i,F,w,A⟩:=ζ;exact C v u p x y i F z w A
theorem Kg{f:Operator}{r:R2}(p:cb X (iX f) r)(w:PE X a d)(t:PE X b m):PE X (.BinOp a f b l) (xK r d m):=by intro z s g H Q I h;exact wpAny_BinOp (Cd w t I h λv u i x y B A o j q=>p z i g B x y v u Q A o j q)
theorem RU{g:UnaryOp}{r:V->Hp->VK->Prop}(q:zk X (unaryOp g) r)(t:PE X a d):PE X (.UnaryOp g a l) (Ru r d):=by intro i s f H Q I h;exact UnaryOp_ (aM (t i s f H _ I h) λv j ⟨x,w,u,o,p⟩=>q i j f w x v Q u o p)
theorem BM{f:ai->ai->Sem ai}{C:Int->Int->Prop}{g:Int->Int->Int}(o:∀(i j:Int) (t u:Tok) (s:am) (Q:ai->am->Prop) (E:ai->am->Prop),C i j->Q (.int (g i j) s.toks) {s with toks:=s.toks+1}->au (ax X.prog X.w) X.A (f (.int i t) (.int j u)) Q E s):cb X f (rI C λi j=>.int (g i j)):=by intro B s A H x y v u Q I w r h;obtain⟨i,j,rfl,rfl,z,q⟩:=h;obtain⟨t,rfl⟩:=w;obtain⟨p,rfl⟩:=r;exact o i j t p s _ _ z ⟨.int (g i j),H,I.tok _,⟨_,rfl⟩,q⟩
theorem GH{f:ai->ai->Sem ai}{g:Int->Int->Int}(o:∀(i j:Int) (t u:Tok) (s:am) (Q:ai->am->Prop) (E:ai->am->Prop),Q (.int (g i j) s.toks) {s with toks:=s.toks+1}->au (ax X.prog X.w) X.A (f (.int i t) (.int j u)) Q E s):cb X f (l8 λi j=>.int (g i j)):=by intro A s z H x y v u Q I w r h;obtain⟨i,j,rfl,rfl,q⟩:=h;obtain⟨t,rfl⟩:=w;obtain⟨p,rfl⟩:=r;exact o i j t p s _ _ ⟨.int (g i j),H,I.tok _,⟨_,rfl⟩,q⟩
theorem CD{f:ai->ai->Sem ai}{g:Int->Int->Bool}(o:∀(i j:Int) (t u:Tok) (s:am) (Q:ai->am->Prop) (E:ai->am->Prop),Q (.bool (g i j)) s->au (ax X.prog X.w) X.A (f (.int i t) (.int j u)) Q E s):cb X f (l8 λi j=>.bl (g i j)):=by intro A s z H x y v u Q I w r h;obtain⟨i,j,rfl,rfl,q⟩:=h;obtain⟨t,rfl⟩:=w;obtain⟨p,rfl⟩:=r;exact o i j t p s _ _ ⟨.bl (g i j),H,I,rfl,q⟩
def FS(i j:Int):Prop:=0<=j/\j<=1000000/\i.natAbs<2^64
def BH(i j:Int):Prop:=(-(2^64)<i/\i<2^64)\/(-(2^64)<j/\j<2^64)
theorem BH.ok{i j:Int}(h:BH i j):IntMulOk i j:=by
 rcases h with⟨h1,h2⟩|⟨h1,h2⟩
 .exact .of_left (intBits_le_64 h1 h2)
 .exact .of_right (intBits_le_64 h1 h2)
theorem U7:cb X (iX .Add) (l8 λi j=>.int (i+j)):=GH λ_ _ _ _ _ _ _ q=>add_int q
theorem r9:cb X (iX .Sub) (l8 λi j=>.int (i-j)):=GH λ_ _ _ _ _ _ _ q=>sub_int q
theorem UU:cb X (iX .Mult) (rI BH λi j=>.int (i*j)):=BM λ_ _ _ _ _ _ _ f q=>mul_int q f.ok
theorem se:cb X (iX .Mod) (rI (λ_ j=>0<j) λi j=>.int (i % j)):=BM λi j _ _ _ _ _ f q=>by have g:(0:Int)<j:=f;exact mod_int' ∅ (by rw[Int.fmod_eq_emod_of_nonneg i ∅];exact q)
theorem RW:cb X (iX .Pow) (rI FS λi j=>.int (i^j.toNat)):=BM λ_ _ _ _ _ _ _ f q=>pow_int_small f.1 f.2.1 f.2.2 q
theorem KP{f:ai->Sem ai}{g:Int->Int}(j:∀(i:Int) (t:Tok) (s:am) (Q:ai->am->Prop) (E:ai->am->Prop),Q (.int (g i) s.toks) {s with toks:=s.toks+1}->au (ax X.prog X.w) X.A (f (.int i t)) Q E s):zk X f (rU λi=>.int (g i)):=by intro r s p H x v Q I o h;obtain⟨i,rfl,q⟩:=h;obtain⟨t,rfl⟩:=o;exact j i t s _ _ ⟨.int (g i),H,I.tok _,⟨_,rfl⟩,q⟩
theorem mi:zk X (unaryOp .USub) (rU λi=>.int (-i)):=KP λ_ _ _ _ _ q=>neg_int q
end
def vf:V->V->Bool
 |.non,.non=>ah|.non,.int _=>ah|.int _,.non=>ah|.non,.bl _=>ah|.bl _,.non=>ah|.non,.str _=>ah|.str _,.non=>ah
 |.int _,.int _=>ah|.bl _,.bl _=>ah|.str _,.str _=>ah|.byt _,.byt _=>ah
 |.int _,.str _=>ah|.str _,.int _=>ah|.bl _,.str _=>ah|.str _,.bl _=>ah
 |_,_=>aj
def G0:R2:=λx y H Q=>vf x y=ah/\Q (.bl (decide (x=y))) H
def F6:R2:=λx y H Q=>vf x y=ah/\Q (.bl (!decide (x=y))) H
theorem GL{i j:Int}:decide (V.int i=V.int j)=(i == j):=by rw[lM];simp
theorem Gc{i j:Bool}:decide (V.bl i=V.bl j)=(i == j):=by rw[lM];simp
theorem Fg{i j:Str}:decide (V.str i=V.str j)=(i == j):=by rw[lM];simp
theorem Iz{i j:Array UInt8}:decide (V.byt i=V.byt j)=(i.toList == j.toList):=by
 rw[lM];cases i;cases j;simp
section
variable{X:Cx}{a b c:az}{l g o:TE}{m:Pos}
theorem dW{h:List (ag×Obj)}{d:St}{H:Hp}{s:am}{Q:VK}{k f:Bool}(I:Inv X h d H s)(q:Q (.bl k) H)(e:k=f):EP X h d Q (.bool f) s:=by subst e;exact⟨.bl k,H,I,rfl,q⟩
theorem U3:cb X (eJ .Eq) G0:=by
 intro w s r H x y v u Q I p d h;obtain⟨n,q⟩:=h;cases x with
 |non=>
  cases p;cases y with
  |non=>cases d;exact PySem.EqNone.eq_none_none (dW I q (by simp))
  |bl j=>cases d;exact PySem.EqNone.eq_none_bool (dW I q (by simp))
  |int j=>obtain⟨f,rfl⟩:=d;exact PySem.EqNone.eq_none_int (dW I q (by simp))
  |str j=>obtain⟨f,rfl⟩:=d;exact PySem.EqNone.eq_none_str (dW I q (by simp))
  |_=>exact absurd (show aj=ah from n) fq
 |bl i=>
  cases p;cases y with
  |non=>cases d;exact PySem.EqNone.eq_bool_none (dW I q (by simp))
  |bl j=>cases d;exact eq_bool (dW I q Gc)
  |str j=>obtain⟨f,rfl⟩:=d;exact PySem.EqMixed.eq_bool_str (dW I q (by simp))
  |_=>exact absurd (show aj=ah from n) fq
 |int i=>
  obtain⟨t,rfl⟩:=p;cases y with
  |non=>cases d;exact PySem.EqNone.eq_int_none (dW I q (by simp))
  |int j=>obtain⟨f,rfl⟩:=d;exact eq_int (dW I q GL)
  |str j=>obtain⟨f,rfl⟩:=d;exact PySem.EqMixed.eq_int_str (dW I q (by simp))
  |_=>exact absurd (show aj=ah from n) fq
 |str i=>
  obtain⟨t,rfl⟩:=p;cases y with
  |non=>cases d;exact PySem.EqNone.eq_str_none (dW I q (by simp))
  |bl j=>cases d;exact PySem.EqMixed.eq_str_bool (dW I q (by simp))
  |int j=>obtain⟨f,rfl⟩:=d;exact PySem.EqMixed.eq_str_int (dW I q (by simp))
  |str j=>obtain⟨f,rfl⟩:=d;exact eq_str (dW I q Fg)
  |_=>exact absurd (show aj=ah from n) fq
 |byt i=>
  obtain⟨t,rfl⟩:=p;cases y with
  |byt j=>obtain⟨f,rfl⟩:=d;exact PySem.W.eq_bytes (dW I q Iz)
  |_=>exact absurd (show aj=ah from n) fq
 |_=>cases y <;> exact absurd (show aj=ah from n) fq
theorem Vf:cb X (eJ .NotEq) F6:=by
 intro w s r H x y v u Q I p d h;obtain⟨n,q⟩:=h;cases x with
 |non=>
  cases p;cases y with
  |non=>cases d;exact PySem.EqNone.ne_none_none (dW I q (by simp))
  |bl j=>cases d;exact PySem.EqNone.ne_none_bool (dW I q (by simp))
  |int j=>obtain⟨f,rfl⟩:=d;exact PySem.EqNone.ne_none_int (dW I q (by simp))
  |str j=>obtain⟨f,rfl⟩:=d;exact PySem.EqNone.ne_none_str (dW I q (by simp))
  |_=>exact absurd (show aj=ah from n) fq
 |bl i=>
  cases p;cases y with
  |non=>cases d;exact PySem.EqNone.ne_bool_none (dW I q (by simp))
  |bl j=>cases d;exact ne_bool (dW I q (congrArg not Gc))
  |str j=>obtain⟨f,rfl⟩:=d;exact PySem.EqMixed.ne_bool_str (dW I q (by simp))
  |_=>exact absurd (show aj=ah from n) fq
 |int i=>
  obtain⟨t,rfl⟩:=p;cases y with
  |non=>cases d;exact PySem.EqNone.ne_int_none (dW I q (by simp))
  |int j=>obtain⟨f,rfl⟩:=d;exact ne_int (dW I q (congrArg not GL))
  |str j=>obtain⟨f,rfl⟩:=d;exact PySem.EqMixed.ne_int_str (dW I q (by simp))
  |_=>exact absurd (show aj=ah from n) fq
 |str i=>
  obtain⟨t,rfl⟩:=p;cases y with
  |non=>cases d;exact PySem.EqNone.ne_str_none (dW I q (by simp))
  |bl j=>cases d;exact PySem.EqMixed.ne_str_bool (dW I q (by simp))
  |int j=>obtain⟨f,rfl⟩:=d;exact PySem.EqMixed.ne_str_int (dW I q (by simp))
  |str j=>obtain⟨f,rfl⟩:=d;exact ne_str (dW I q (congrArg not Fg))
  |_=>exact absurd (show aj=ah from n) fq
 |byt i=>
  obtain⟨t,rfl⟩:=p;cases y with
  |byt j=>obtain⟨f,rfl⟩:=d;exact PySem.W.ne_bytes (dW I q (congrArg not Iz))
  |_=>exact absurd (show aj=ah from n) fq
 |_=>cases y <;> exact absurd (show aj=ah from n) fq
theorem HH:cb X (eJ .Lt) (l8 λi j=>.bl (decide (i<j))):=CD λ_ _ _ _ _ _ _ q=>lt_int q
theorem pQ:cb X (eJ .LtE) (l8 λi j=>.bl (decide (i<=j))):=CD λ_ _ _ _ _ _ _ q=>le_int q
theorem F9:cb X (eJ .Gt) (l8 λi j=>.bl (decide (j<i))):=CD λ_ _ _ _ _ _ _ q=>gt_int q
theorem UY:cb X (eJ .In) (λx y H Q=>∃i j,x=.str i/\y=.str j/\Q (.bl (!(CN j i 0 j.length 1).isEmpty)) H):=by intro r s n H x y v u Q I f d h;obtain⟨i,j,rfl,rfl,q⟩:=h;obtain⟨t,rfl⟩:=f;obtain⟨p,rfl⟩:=d;exact in_str (dW I q rfl)
theorem cb.or{f:ai->ai->Sem ai}{r n:R2}(h:cb X f r)(t:cb X f n):cb X f (λx y H Q=>r x y H Q\/n x y H Q):=by
 intro p s d H x y v u Q I j i q;rcases q with q|q
 .exact h p s d H x y v u Q I j i q
 .exact t p s d H x y v u Q I j i q
theorem Rp{d:CmpOp}{r:R2}(p:cb X (eJ d) r)(z:PE X a l)(w:PE X b g)(t:nX d b=aj):PE X (.Compare a [d] [b] m) (xK r l g):=by intro A s f H Q I h;exact wpAny_Compare1 (Cd z w I h λv u i x y C B n j q=>p A i f C x y v u Q B n j q) t
def Gh(t:TE):TT:=λd H Q=>t d H λx f=>∃k,x=.bl k/\Q k f
theorem Nw{f:CmpOp}{r:R2}(C:cb X (eJ f) r)(F:PE X a l)(E:PE X b g)(D:nX f b=aj):PT X (.Compare a [f] [b] m) (Gh (xK r l g)):=by
 intro i s d H Q I h;refine wpAny_isTrue_Compare1 (aM (F i s d H _ I h) λv n ⟨x,N,K,t,B⟩=>aM (E i n d N _ K B) λu j ⟨y,M,J,q,A⟩=>aM (C i j d M x y v u _ J t q A) λc O ⟨z,L,G,p,k,e,w⟩=>?_) D;subst e;cases p;exact nY ⟨L,G,w⟩
def Ay(r i:R2)(l g o:TE):TE:=λd H Q=>l d H λx p=>g d p λy n=>r x y n λz f=>∃k,z=.bl k /\
 (if k=ah then o d f λh j=>i y h j Q else Q (.bl aj) f)
theorem Qh{n f:CmpOp}{r q:R2}(S:cb X (eJ n) r)(P:cb X (eJ f) q)(Z:PE X a l)(Y:PE X b g)(W:PE X c o)(T:lastMarks [n,f] [b,c]=aj:=by with_unfolding_all rfl):PE X (.Compare a [n,f] [b,c] m) (Ay r q l g o):=by
 intro j s i H Q I h;refine Compare_chain (aM (Z j s i H _ I h) λv G ⟨x,H1,I1,L,O⟩=>chain_link (aM (Y j G i H1 _ I1 O) λu F ⟨y,H2,I2,p,N⟩=>aM (S j F i H2 x y v u _ I2 L p N) λd E ⟨z,A,w,K,k,e,t⟩=>?_)) T;subst e;cases K;refine nY ?_;cases k with
 |false=>exact ite_ff ⟨.bl aj,A,w,rfl,t⟩
 |true=>exact ite_tt (chain_last (aM (W j E i A _ w t) λC D ⟨B,H4,I4,J,M⟩=>P j D i H4 y B u C Q I4 p J M))
theorem QQ{n f:CmpOp}{r q:R2}(Y:cb X (eJ n) r)(W:cb X (eJ f) q)(ha:PE X a l)(hb:PE X b g)(hc:PE X c o)(Z:lastMarks [n,f] [b,c]=aj:=by with_unfolding_all rfl):PT X (.Compare a [n,f] [b,c] m) (Gh (Ay r q l g o)):=by
 intro j s i H Q I h;refine isTrue_chain (aM (ha j s i H _ I h) λv G ⟨x,H1,I1,M,S⟩=>test_link (aM (hb j G i H1 _ I1 S) λu F ⟨y,H2,I2,p,P⟩=>aM (Y j F i H2 x y v u _ I2 M p P) λd E ⟨z,A,w,L,k,e,t⟩=>?_)) Z;subst e;cases L;refine nY ?_;cases k with
 |false=>
  obtain⟨k',e',T⟩:=t;cases e';exact ite_ff ⟨A,w,T⟩
 |true=>
  refine ite_tt (test_last (aM (hc j E i A _ w t) λC D ⟨B,H4,I4,K,O⟩=>aM (W j D i H4 y B u C _ I4 p K O) λd' s5 ζ=>?_));obtain⟨z2,H5,I5,J,k2,e2,N⟩:=ζ;subst e2;cases J;exact nY ⟨H5,I5,N⟩
theorem qm:(bd:Nat)<2^63:=by rw[k_];decide
theorem MX:cb X (iX .Add) (λx y H Q=>∃i j,x=.str i/\y=.str j/\i.length+j.length<=bd/\Q (.str (i++j)) H):=by intro z s r H x y v u Q I n f h;obtain⟨i,j,rfl,rfl,p,q⟩:=h;obtain⟨t,rfl⟩:=n;obtain⟨d,rfl⟩:=f;exact add_str (λd w=>⟨.str (i++j),H,I.tok _,⟨_,rfl⟩,q⟩) p
theorem vals1{x:V}{d:List ai}(r:bt [x] d):∃u,d=[u]/\RelV x u:=by
 cases r with
 |cons h f=>cases f;exact⟨_,rfl,h⟩
theorem vals2{x y:V}{f:List ai}(r:bt [x,y] f):∃u d,f=[u,d]/\RelV x u/\RelV y d:=by
 cases r with
 |cons n j=>
  cases j with
  |cons i h=>cases h;exact⟨_,_,rfl,n,i⟩
theorem Ph(f:X.calm=ah):eC X (.builtin "max") (λxs H Q=>∃i j,xs=[.int i,.int j]/\Q (.int (if j > i then j else i)) H):=by
 intro z s n H xs v Q I r h;obtain⟨i,j,rfl,q⟩:=h;obtain⟨u,p,rfl,⟨t,rfl⟩,⟨x,rfl⟩⟩:=vals2 r;refine max_two_ints (I.ok.hd f) λy w k=>⟨_,H,I.kept k,?_,q⟩
 by_cases d:j > i
 .rw[if_pos d,if_pos d];exact⟨_,rfl⟩
 .rw[if_neg d,if_neg d];exact⟨_,rfl⟩
def Fe(K:ay)(x:V)(H:Hp)(n:Nat):Prop :=
 match x with
 |.str y=>y.length<=bd/\n=y.length
 |.byt y=>y.size<=bd/\n=y.size
 |.ref p=>(∃xs,cC K H p xs/\n=xs.length)\/∃xs,cR K H p xs/\n=xs.length
 |_=>False
theorem ir:eC X (.builtin "len") (λxs H Q=>∃x n,xs=[x]/\Fe X.K x H n/\Q (.int n) H):=by
 intro F s B H xs C Q I r h;obtain⟨x,n,rfl,e,q⟩:=h;obtain⟨u,rfl,f⟩:=vals1 r;have E:=qm;have D:bd=16777216:=k_;cases x with
 |str y=>obtain⟨t,rfl⟩:=f;obtain⟨A,d⟩:y.length<=bd/\n=y.length:=e;subst d;exact len_str ∅ ⟨.int _,H,I.tok _,⟨_,rfl⟩,q⟩
 |byt y=>obtain⟨t,rfl⟩:=f;obtain⟨A,d⟩:y.size<=bd/\n=y.size:=e;subst d;exact PySem.W.len_bytes ∅ ⟨.int _,H,I.tok _,⟨_,rfl⟩,q⟩
 |ref p=>
  cases f;have d:(∃xs,cC X.K H p xs/\n=xs.length)\/∃xs,cR X.K H p xs/\n=xs.length:=e;rcases d with⟨xs,hx,d⟩|⟨xs,hx,d⟩
  .subst d;obtain⟨v,i,j,z⟩:=I.list hx;have w:=i.length;exact Calls.call_len_list j.isList (by simp only[cr];lia) ⟨.int xs.length,H,I.tok _,⟨_,by simp only[cr];rw[w]⟩,q⟩
  .subst d;obtain⟨v,i,j,z⟩:=I.tuple hx;have w:=i.length;exact len_tuple j (by simp only[cr];lia) ⟨.int xs.length,H,I.tok _,⟨_,by simp only[cr];rw[w]⟩,q⟩
 |_=>exact(show False from e).elim
end
structure Iu(h:aB)(x dx C:ag)(mA:Str->Option ai):Prop where
 obj:h.get? x=aa (PySem.W.instObj C dx)
 ns:h.Ns1 dx mA
 ne:dx≠x
theorem Q_{h:aB}{g:ag}{d:Str->Option ai}(n:h.Ns1 g d):∃c,h.get? g=aa c/\∀b,PySem.W.lookIn b c=aa (d b):=by
 obtain⟨o,f,u,j,p,m,_,l⟩:=n;refine⟨o,j,λb=>?_⟩;have e:=l b;unfold nsFind findBy at e;rw[<-Array.find?_toList]at e;unfold PySem.W.lookIn;rw[p];dsimp only;split
 .rename_i y q;rw[q]at e;exact congrArg aa e
 .rename_i q;rw[q]at e;have a:f.toList.any (·.refKey)=aj:=by rw[IU];intro y i;obtain⟨z,t,r⟩:=m y (Array.mem_toList_iff.mp i);simp[DictEntry.refKey,r]
  have s:¬f.toList.any (·.refKey)=ah:=by rw[a];exact fq
  rw[if_neg s];exact congrArg aa e
theorem Iu.look{h:aB}{x d C:ag}{c:Str->Option ai}(I:Iu h x d C c):∃b,vR h x (PySem.W.instObj C d) C (aa b)/\∀a,PySem.W.lookIn a b=aa (c a) :=
 let ⟨b,ho,hl⟩:=Q_ I.ns
 ⟨b,⟨I.obj,rfl,rfl,ho⟩,hl⟩
theorem nQ.some_of{v:V}{o:Option ai}(r:nQ (aa v) o):∃u,o=aa u/\RelV v u:=by
 cases o with
 |none=>exact(show False from r).elim
 |some u=>exact⟨u,rfl,r⟩
section
variable{P:aS}{w:aG}{H i:Hp}{h g:aB}{a C b:ag}{fs c:List (Str×V)}
theorem OM(l:dz P w H h)(e:H a=aa (.ins C b fs)):∃j,Iu h a b C j/\(∀f,nQ (fs.lookup f) (j f))/\PySem.Within j (fs.map (·.1))/\fs.length<=1000/\H b=aa (.own a):=by
 obtain⟨d,z,o,m,j,n,r,q⟩:=(show cz P w H h a (.ins C b fs)from l a _ e)
 exact⟨j,⟨m,n,o⟩,r,q,z,d⟩
end
structure GW(K:ay)(C:ag):Prop where
 pg:PySem.W.plainGet K C ff=ah
 hd:PySem.W.hasDictIn K C=ah
 po:PySem.W.plainOver K C=ah
 sa:qP K (.ref C) "__setattr__"=aa (aa (.builtin "object.__setattr__"))
theorem GW.get{K:ay}{C:ag}(c:GW K C)(f:Str):PySem.W.plainGet K C f=ah:=c.pg
section
variable{X:Cx}{f:List (ag×Obj)}{d:St}{H:Hp}{s:am}{A:aV}{E:ai->am->Prop}{Q:ai->am->Prop}{c:ai}{b:Bool}
inductive jo(K:ay)(H:Hp):V->ai->Prop where
 |non:jo K H .non (.type "NoneType")
 |bl (x:Bool):jo K H (.bl x) (.type "bool")
 |int (i:Int):jo K H (.int i) (.type "int")
 |str (x:Str):jo K H (.str x) (.type "str")
 |flt (x:UInt64):jo K H (.flt x) (.type "float")
 |lst {a:ag}{xs:List V} (e:H a=aa (.lst xs)):jo K H (.ref a) (.type "list")
 |frz {a:ag}{o:Obj}{xs:List V} (e:H a=aa (.frz o (.lst xs))):jo K H (.ref a) (.type "list")
 |tup {a:ag}{xs:List V} (e:H a=aa (.tup xs)):jo K H (.ref a) (.type "tuple")
 |dK {a:ag}{kvs:List (aD×V)} (e:H a=aa (.dK kvs)):jo K H (.ref a) (.type "dict")
 |dT {a:ag}{kvs:List (List aD×V)} (e:H a=aa (.dT kvs)):jo K H (.ref a) (.type "dict")
 |ins {a C dx:ag}{fs:List (Str×V)} (e:H a=aa (.ins C dx fs)) (cl:GW K C) (ha:qP K (.ref C) "__class__"=aa (aa (.builtin "object.__class__")))
   (hn:IV K (.builtin "object.__class__") "__get__"=aa (aa (.builtin "getset_descriptor.__get__"))) (wB:PySem.W.takesIn K (.builtin "object.__class__")=aa ah)
   (hm:zp K C (.type "object")=aa ah):jo K H (.ref a) (.ref C)
theorem NB{x:V}{u t:ai}(I:Inv X f d H s)(g:RelV x u)(ty:jo X.K H x t)(e:eV X.K t c=aa b)(h:∀m,Q (.bool b) {s with toks:=m}):au (ax X.prog X.w) A (call (.builtin "isinstance") [u,c]) Q E s:=by
 cases ty with
 |non=>cases (show u=Value.none from g);exact lN PySem.W.kitx_none I.kIn True.intro e (λz=>nomatch z) h
 |bl y=>cases (show u=Value.bool y from g);exact lN PySem.W.kitx_bool I.kIn True.intro e (λz=>nomatch z) h
 |int i=>obtain⟨t,q⟩:=(show ∃t,u=Value.int i t from g);cases q;exact lN PySem.W.kitx_int I.kIn True.intro e (λz=>nomatch z) h
 |str y=>obtain⟨t,q⟩:=(show ∃t,u=Value.str y t from g);cases q;exact lN PySem.W.kitx_str I.kIn True.intro e (λz=>nomatch z) h
 |flt y=>obtain⟨t,q⟩:=(show ∃t,u=Value.float y t from g);cases q;exact lN PySem.W.kitx_float I.kIn True.intro e (λz=>nomatch z) h
 |@lst a xs ea=>
  cases (show u=Value.ref a from g);obtain⟨_,_,n,_,j⟩:=(show cz X.prog X.w H s.heap a (.lst xs)from I.hok a _ ea)
  exact lN PySem.W.kitx_list I.kIn ⟨_,j,rfl⟩ e (λz=>nomatch z) h
 |@frz a ob xs ea=>
  cases (show u=Value.ref a from g);obtain⟨_,_,_,n,_,j⟩:=(show cz X.prog X.w H s.heap a (.frz ob (.lst xs))from I.hok a _ ea)
  exact lN PySem.W.kitx_list I.kIn ⟨_,j,rfl⟩ e (λz=>nomatch z) h
 |@tup a xs ea=>
  cases (show u=Value.ref a from g);obtain⟨_,_,_,p,_⟩:=(show cz X.prog X.w H s.heap a (.tup xs)from I.hok a _ ea)
  obtain⟨o,j,l,_⟩:=p;exact lN PySem.W.kitx_tuple I.kIn ⟨o,j,l⟩ e (λz=>nomatch z) h
 |@dK a kvs ea=>
  cases (show u=Value.ref a from g);obtain⟨_,_,w,_,p⟩:=(show cz X.prog X.w H s.heap a (.dK kvs)from I.hok a _ ea)
  obtain⟨o,r,v,j,l,_⟩:=p;exact lN PySem.W.kitx_dict I.kIn ⟨o,j,l.1⟩ e (λz=>nomatch z) h
 |@dT a kvs ea=>
  cases (show u=Value.ref a from g);obtain⟨_,_,xs,_,o,r,v,j,l,_⟩:=(show cz X.prog X.w H s.heap a (.dT kvs)from I.hok a _ ea)
  exact lN PySem.W.kitx_dict I.kIn ⟨o,j,l.1⟩ e (λz=>nomatch z) h
 |@ins a C dx fs ea cl ha hn wB hm=>
  cases (show u=Value.ref a from g);obtain⟨D,O,_⟩:=OM I.hok ea;obtain⟨B,J,_⟩:=O.look;exact lN (PySem.W.kitx_own (cl.get _) cl.hd ha hn wB hm) I.kIn J e (λz=>nomatch z) h
end
structure Room(k:Nat)(A:aV):Prop where
 hd:A.handled=ae
 dp:A.depth+3*k+5<vS
 un:A.units+16*k+200<cLine
theorem Room.mono{j k:Nat}{A:aV}(r:Room k A)(h:j<=k):Room j A:=⟨r.hd,by have:=r.dp;lia,by have:=r.un;lia⟩
theorem Room.deeper{k:Nat}{A:aV}(r:Room (k+1) A)(a:Env):Room k (A.deeper a) :=⟨r.hd,by have:=r.dp;show A.depth+1+3*k+5<_;lia,by have:=r.un;show A.units+3+16*k+200<_;lia⟩
theorem Room.depth{k:Nat}{A:aV}(r:Room k A):A.depth<vS:=by have:=r.dp;lia
theorem Room.units{k:Nat}{A:aV}(r:Room k A):A.units+64<cLine:=by have:=r.un;lia
def Nl:TA:=λ_ H Q=>Q [] H
def M8(c:TE)(b:TA):TA:=λa H Q=>c a H λx f=>b a f λxs d=>Q (x::xs) d
section
variable{X:Cx}{e:az}{es:List az}{c:TE}{t:TA}{a:Pos}
theorem j6:PA X [] Nl:=λ_ _ _ _ H Q I h=>zq ⟨[],H,I,.nil,h⟩
theorem iQ(o:PE X e c)(n:PA X es t)(m:aN (e::es) X.env=(aj,aL e X.env)::aN es X.env:=by rfl):PA X (e::es) (M8 c t):=by intro a d s b H Q I h;rw[m];show au _ _ (spliced ((aj,aL e X.env)::c_ a (aN es X.env))) _ _ s;refine tK (aM (o d s b H _ I h) λu f ζ=>?_);obtain⟨x,v,q,i,l⟩:=ζ;exact aM (n a d f b v _ q l) λw y ⟨xs,r,p,g,j⟩=>⟨x::xs,r,p,.cons i g,j⟩
def O0(t:TA):TE:=λd H Q=>t d H λxs b=>xs.length<=bd/\∀p,b p=ae->Q (.ref p) (upd b p (.tup xs))
def K6(t:TA):TE:=λd H Q=>t d H λxs b=>xs.length<=bd/\∀p,b p=ae->Q (.ref p) (upd b p (.lst xs))
theorem Mc{x1}(h:PA X es t):PE X (.Tuple es x1 a) (O0 t):=by intro n s i H Q I l;refine wpAny_Tuple_spliced (aM (h a n s i H _ I l) λj d ⟨xs,g,f,r,z,q⟩=>⟨by rw[<-r.length];exact z,?_⟩);have m:g d.heap.objs.size=ae:=f.hok.fresh (a9 _);refine⟨.ref d.heap.objs.size,upd g d.heap.objs.size (.tup xs),f.laid (t':=d.toks) (λb u e=>bu _ e) (a9 _) ?_,rfl,q _ m⟩;exact⟨z,j,r,⟨⟨_,cI _ rfl,rfl,_,rfl⟩,_,cI _ rfl,rfl⟩⟩
theorem S7(h:PA X es t):PE X (.List es a) (K6 t):=by intro n s i H Q I l;refine wpAny_List_spliced (aM (h a n s i H _ I l) λj d ⟨xs,g,f,r,z,q⟩=>⟨by rw[<-r.length];exact z,?_⟩);have m:g d.heap.objs.size=ae:=f.hok.fresh (a9 _);refine⟨.ref d.heap.objs.size,upd g d.heap.objs.size (.lst xs),f.laid (t':=d.toks) (λb u e=>bu _ e) (a9 _) ?_,rfl,q _ m⟩;exact⟨z,j,0,r,cI _ rfl⟩
end
abbrev Sp:=List V->Hp->VK->XK->Prop
abbrev gz:=List Env->Hp->am->XK->ai->am->Prop
structure sC(P:aS)(w:aG)(K:ay)(mg:Str->Option ai)(base:aB)(A:aV)(outer:List Env)(s:am)(H:Hp):Prop where
 frames:A.frames=aa outer
 mod:Mod K mg base
 bs:∀b o,base.get? b=aa o->s.heap.get? b=aa o/\H b=ae
 bsz:base.objs.size<=s.heap.objs.size
 funs:s.heap.FunFrames base outer
 frf:∀b∈fR outer,H b=ae
 hok:dz P w H s.heap
 bare:nV s.gens
 tab:xu K H
def CE(a:List Env)(P:aS)(w:aG)(H:Hp)(s:am)(Q:VK)(u:ai)(b:am):Prop :=
 ∃v c,b.os=s.os/\nV b.gens/\Un (fR a) [] H c s.heap b.heap/\dz P w c b.heap/\RelV v u/\Q v c
def CR(c:gz)(a:List Env)(P:aS)(w:aG)(H:Hp)(s:am)(Q:VK)(E:XK)(r:Result)(b:am):Prop :=
 match r with
 |.ok (.ret u)=>CE a P w H s Q u b
 |.ok _=>False
 |.error e=>c a H s E e b
structure lq(P:aS)(w:aG)(K:ay)(mg:Str->Option ai)(base:aB)(CX:gz)(k:Nat)(f:ag)(fd:iD)(ps:List Str)(sp:Sp):Prop where
 len:∀vs H Q E,sp vs H Q E->vs.length=ps.length
 run:∀(A:aV) (outer:List Env) (s:am) (H:Hp) (args:Args) (us:List ai) (vs:List V) (Q:VK) (E:XK),Room k A->sC P w K mg base A outer s H->BindsTo s fd args (ps.zip us)->bt vs us->sp vs H Q E ->
  lO (ax P w) A (.call (.ref f) args) (CR CX outer P w H s Q E) s
section
variable{X:Cx}{f:List (ag×Obj)}{a:St}{H:Hp}{s c:am}
theorem Inv.env0(I:Inv X f a H s):sC X.prog X.w X.K X.mg X.base X.A X.stack s H :=⟨I.ok.frames,I.ok.mod,I.bs,cP I.ok.bsz I.sz,I.stack,I.stkFree,I.hok,I.bare,I.tab⟩
theorem Inv.after{Q:VK}{u:ai}(I:Inv X f a H s)(h:CE X.stack X.prog X.w H s Q u c):EP X f a Q u c:=by obtain⟨v,o,m,i,un,l,r,q⟩:=h;obtain⟨n,g,d,t,j⟩:=c;obtain rfl:j=s.os:=m;exact⟨v,o,I.call (h':=n) (g':=g) (d':=d) (t':=t) (ch:=[]) un l i (λb z=>absurd z (by simp)),r,q⟩
end
def Mz(d:Sp)(a:List V)(E:XK)(t:TA):TE:=λb H Q=>t b H λc f=>d (c++a) f Q E
def Binds(K:ay)(d:iD)(b:List Str)(c:List ai):Prop :=
 ∀(s:am) (a:List ai),K.In s.heap->(a++c).length=b.length->BindsTo s d ⟨a,[]⟩ (b.zip (a++c))
theorem Binds.all{K:ay}{d:iD}{b:List Str}(h:∀a:List ai,a.length=b.length->fZ d ⟨a,[]⟩=pure (b.zip a)):Binds K d b []:=λs a _ c=>by rw[f8]at c ⊢;exact .of_eq (h a c)
def sN(c:gz)(X:Cx)(E:XK):Prop:=∀(b:List (ag×Obj)) (a:St) (H:Hp) (s:am) (e:ai) (s':am),Inv X b a H s->c X.stack H s E e s'->X.xe e s'
section
variable{X:Cx}{l:gz}{k:Nat}{f C:ag}{j:iD}{d:List Str}{i:Sp}{a:List V}{c:List ai}{E:XK}{x m:Str}{p b n:Pos}{e o:az}{g:List az}{v:TE}{t:TA}
theorem Uk{A:List (ag×Obj)}{z:St}{H:Hp}{s:am}{Q:VK}{q:List ai}{y:List V}(F:lq X.prog X.w X.K X.mg X.base l k f j d i)(J:Room k X.A)(M:Binds X.K j d c)(L:bt a c)(G:sN l X E)(I:Inv X A z H s) (r:bt y q) (h:i (y++a) H Q E):au (ax X.prog X.w) X.A (call (.ref f) q) (EP X A z Q) X.xe s:=by
 have B:bt (y++a) (q++c):=r.append L;have K:(q++c).length=d.length:=by rw[<-B.length];exact F.len _ _ _ _ h
 refine tL (n8 (F.run X.A X.stack s H ⟨q,[]⟩ (q++c) (y++a) Q E J I.env0 (M s q I.kIn K) B h) λr D w=>?_);cases r with
 |error e=>exact G A z H s e D I w
 |ok N=>
  cases N with
  |ret u=>exact I.after w
  |next=>exact iE w
  |brk=>exact iE w
  |cont=>exact iE w
theorem Fm(F:lq X.prog X.w X.K X.mg X.base l k f j d i)(A:Room k X.A)(G:Gl X x)(B:X.mg x=aa (.ref f))(D:qQ X.K (.ref f)=ah)(L:Binds X.K j d c)(K:bt a c)(z:sN l X E)(M:PA X (e::g) t) (y:(x==("__debug__":Str))=aj:=by decide) (J:aN (e::g) X.env=(aj,aL e X.env)::aN g X.env:=by rfl) (N:(c_ b (aN g X.env)).any (·.1)=aj:=by rfl):PE X (.Call (.Name x p) (e::g) [] b) (Mz i a E t):=by intro O s w H Q I h;refine tN (tE I G B ?_ y);refine IW (h₀:=X.base) I.ok.mod.kin D (aM (M b O s w H _ I h) λS T ⟨P,W,u,r,q⟩=>⟨u.kIn,?_⟩) J N;exact Uk F A L K z u r q
end
structure b8(N P:List Str)(sc:dH):Prop where
 kind:sc.kind=.function
 co:sc.isCoroutine=aj
 gen:sc.isGenerator=aj
 nd:N.Nodup
 pre:N.take P.length=P
 par:∀x∈P,sc.names.lookup x=aa .local\/sc.names.lookup x=aa .cell
 nofree:∀y∈sc.names,y.2≠.free
theorem G1{a:Str->Option g9}{x:Str}:∀{binds:List (Str×ai)}{m:Str->Option ai},(∀v,(x,v)∉binds)->bindL a binds m x=m x
 |[],_,_=>rfl
 | (n,v)::r,m,h=>by
  unfold bindL;rw[G1 λw b=>h w (k8 _ b)];split
  .have:x≠n:=by rintro rfl;exact h v lL
   simp[this]
  .rfl
theorem IA{a:Str->Option g9}{x:Str}:∀{binds:List (Str×ai)}{m:Str->Option ai},(∀v,(x,v)∉binds)->bindC a binds m x=m x
 |[],_,_=>rfl
 | (n,v)::r,m,h=>by
  unfold bindC;rw[IA λw b=>h w (k8 _ b)];split
  .rfl
  .have:x≠n:=by rintro rfl;exact h v lL
   simp[this]
theorem Fc{a:Str->Option g9}{x:Str}{v:ai}:∀{P:List Str}{b:List ai}{i:Nat}{m:Str->Option ai},P.Nodup->P[i]?=aa x->b[i]?=aa v->a x=aa .local -> bindL a (P.zip b) m x=aa v
 |[],_,_,_,_,h,_,_=>by simp at h
 |_::_,[],_,_,_,_,h,_=>by simp at h
 |p::P,w::b,0,m,nd,h1,h2,hk=>by simp at h1 h2;subst h1;subst h2;show bindL a ((p,w)::P.zip b) m p=_;unfold bindL;rw[G1 λv c=>(kE.mp nd).1 (CO c).1,if_pos hk];simp
 |p::P,w::b,i+1,m,nd,h1,h2,hk=>by show bindL a ((p,w)::P.zip b) m x=_;unfold bindL;exact Fc (i:=i) (kE.mp nd).2 (by simpa using h1) (by simpa using h2) hk
theorem Iq{a:Str->Option g9}{x:Str}{v:ai}:∀{P:List Str}{b:List ai}{i:Nat}{m:Str->Option ai},P.Nodup->P[i]?=aa x->b[i]?=aa v->a x≠aa .local -> bindC a (P.zip b) m x=aa v
 |[],_,_,_,_,h,_,_=>by simp at h
 |_::_,[],_,_,_,_,h,_=>by simp at h
 |p::P,w::b,0,m,nd,h1,h2,hk=>by simp at h1 h2;subst h1;subst h2;show bindC a ((p,w)::P.zip b) m p=_;unfold bindC;rw[IA λv c=>(kE.mp nd).1 (CO c).1,if_neg hk];simp
 |p::P,w::b,i+1,m,nd,h1,h2,hk=>by show bindC a ((p,w)::P.zip b) m x=_;unfold bindC;exact Iq (i:=i) (kE.mp nd).2 (by simpa using h1) (by simpa using h2) hk
def start(N:List Str)(a:List V):St:=a.map aa++bK (N.length-a.length) ae
def iO(g:gz)(P:aS)(w:aG)(K:ay)(mg:Str->Option ai)(base:aB)(N:List Str)(b:Str)(a:dH)(f:ag)(d:ai)(A:aV)(outer:List Env)(s:am)(H:Hp)(E:XK):Cx where
 prog:=P
 w:=w
 K:=K
 mg:=mg
 base:=base
 A:=A.deeper (jt b a s.heap.objs.size f d)
 N:=N
 s₀:=s
 H₀:=H
 env:=jt b a s.heap.objs.size f d
 outer:=outer
 stack:=jt b a s.heap.objs.size f d::outer
 ex:=[]
 calm:=ah
 fn:=λ_=>ah
 pn:=[]
 xe:=λe s'=>au (ax P w) (A.deeper (jt b a s.heap.objs.size f d)) (leaving (jt b a s.heap.objs.size f d) e) (λ_ c=>g outer H s E e c) (λh c=>g outer H s E h c) s'
theorem EY{a:dH}{n:Nat}{x:Str}(h:a.names.lookup x=aa .cell):∃c,(f9 n a.names []).lookup x=aa c:=by have q:=IX a.names n [] (.inl h);exact CP.mp q
theorem Gs{X:gz}{P:aS}{w:aG}{K:ay}{O:Str->Option ai}{o:aB}{N B:List Str}{j:Str}{d:dH}{f:ag}{L:ai}{A:aV}{g:List Env}{s Q:am}{H:Hp}{E:XK}{M:List ai}{t:List V}(S:b8 N B d) (Z:A.handled=ae) (m:sC P w K O o A g s H) (hl:t.length=B.length) (r:bt t M)(x:InCallC s s.heap.objs.size (bindL (jt j d s.heap.objs.size f L).kindOf (B.zip M) λ_=>ae) (f9 (s.heap.objs.size+1) d.names []) (bindC (jt j d s.heap.objs.size f L).kindOf (B.zip M) λ_=>ae) Q):Inv (iO X P w K O o N j d f L A g s H E) [] (start N t) H Q:=by
 have dS:B.length<=N.length:=by have:=congrArg jL S.pre;rw[lc]at this;lia
 obtain⟨J,tk,rfl,W⟩:=x.done;have C:∀b:ag,b∉(iO X P w K O o N j d f L A g s H E).ex:=λb z=>absurd (show b∈([]:List ag)from z) (by simp);refine⟨⟨m.mod,S.kind,rfl,rfl,a9 _,λy z c J l=>?_,λy D=>?_,λy c _ h=>?_,λ_=>Z,Around.frames_deeper m.frames,.inr ⟨rfl,rfl⟩,λb z=>absurd z (C b),m.bs,m.bsz,λb _ _=>C b,λb z=>absurd z (C b),m.funs,m.frf,m.tab⟩,rfl,m.bare,Un.kept W,⟨_,x.toInCall.ns,λi y v J l h3=>?_⟩,λy c h=>⟨_,x.cell y c h⟩,m.hok.fresh (a9 _),λy c h=>?_,λp G=>absurd (show p∈([]:List (ag×Obj))from G) (by simp),m.hok.kept W,?_⟩
 .exact name_of_addr x.apart (lP J) (lP l)
 .have D:d.names.lookup y=aa .cell\/d.names.lookup y=aa .free:=D;rcases D with D|D
  .exact EY D
  .exact absurd rfl (S.nofree _ (lP D))
 .exact lK (x.above y c (lP h))
 .have I:i<t.length:=by
   unfold start at l;by_cases I:i<t.length
   .exact I
   .rw[qR (by simpa using I)]at l;rw[List.getElem?_replicate]at l;split at l <;> cases l
  have ha:t[i]?=aa v:=by
   unfold start at l;rw[jM (by simpa using I),kF]at l;cases e:t[i]? with
   |none=>rw[e]at l;cases l
   |some a=>rw[e]at l;cases l;rfl
  obtain⟨u,T,Y⟩:=r.get ha;have G:B[i]?=aa y:=by rw[<-S.pre,List.getElem?_take_of_lt ∅];exact J
  have F:B.Nodup:=by rw[<-S.pre];exact S.nd.sublist (List.take_sublist _ _)
  refine⟨u,Y,?_⟩;rcases S.par y (zr G)with k|k
  .exact .inl ⟨k,Fc F G T k⟩
  .obtain⟨c,e⟩:=EY (n:=s.heap.objs.size+1) k;refine .inr ⟨.inl k,c,e,?_⟩;have q:=x.cell y c e;rw[Iq F G T (by show d.names.lookup y≠_;rw[k];decide)]at q;exact q
 .exact m.hok.fresh (lK (x.above y c (lP h)))
 .unfold start;show _=N.length;rw[cQ,cn,List.length_replicate];lia
theorem Kw{M:gz}{P:aS}{w:aG}{K:ay}{L:Str->Option ai}{h:aB}{k:Nat}{f:ag}{m d:Str}{g:qS}{i:List ba}{a:dH}{dV kV F pm z ct oc:ai}{an od:Option ag}{X:Array (Option ai)}{N G:List Str}{O:Sp} (lk:K.lookup f=aa ⟨oc,od,.func (iY m d g i a dV kV F pm an z ct),X⟩) (bv:vT K z d=ah) (S:b8 N G a)(len:∀l H Q E,O l H Q E->l.length=G.length)(ii:∀(A:aV) (c:List Env) (s:am) (H:Hp) (l:List V) (Q:VK) (E:XK),Room k (A.deeper (jt d a s.heap.objs.size f z))->O l H Q E -> ∃t,lF (iO M P w K L h N d a f z A c s H E) i t/\t {nx:=λ_ p=>Q .non p,rt:=Q} (start N l) H):lq P w K L h M (k+1) f (iY m d g i a dV kV F pm an z ct) G O:=by
 refine⟨len,λA c s H args us l Q E Z D hb r iH=>?_⟩;have hl:=len _ _ _ _ iH;have KX:K.In s.heap:=D.mod.kin.keeps λb o e=>(D.bs b o e).1;have Y:s.heap.NoLimit:=D.mod.nolimit.keeps λb o e=>(D.bs b o e).1;have Dv:∀y∈G.zip us,a.names.lookup y.1=aa .local\/(a.names.lookup y.1=aa .cell/\((f9 (s.heap.objs.size+1) a.names []).lookup y.1).isSome=ah):=λ⟨n,v⟩ hy=>by
  rcases S.par n (CO hy).1 with q|q
  .exact .inl q
  .exact .inr ⟨q,IX _ _ _ (.inl q)⟩
 refine codeAny_call_function Z.depth (KX _ _ lk) rfl S.co S.gen rfl (PySem.W.codeRec_of KX bv) (hb _ _ _ _ ?_);refine wpAny_newFunctionEnv_cells S.kind Dv λenv he s1 x=>?_;subst he;refine⟨Y.keeps x.toInCall.keep,codeAny_func ?_⟩;obtain⟨t,ht,hq⟩:=ii A c s H l Q E (Z.deeper _) iH;have I:Inv (iO M P w K L h N d a f z A c s H E) [] (start N l) H s1:=Gs S Z.hd D hl r x;refine eG (ht [] s1 (start N l) H _ I hq) (λfl T B=>?_) λe T B=>B;have C:∀{j:St}{p:Hp}{v:V}{u:ai},Inv (iO M P w K L h N d a f z A c s H E) [] j p T->RelV v u->Q v p->CE c P w H s Q u T :=λ{j p v u} J W q=>⟨v,p,J.os,J.bare,J.base,J.hok,W,q⟩
 cases fl with
 |ret u=>obtain⟨v,j,p,J,W,q⟩:=B;exact C J W q
 |next=>obtain⟨j,p,J,q⟩:=B;exact C (v:=V.non) (u:=Value.none) J rfl q
 |brk=>obtain⟨_,_,_,q⟩:=B;exact iE q
 |cont=>obtain⟨_,_,_,q⟩:=B;exact iE q
section
variable{X:Cx}{x:Str}{p a:Pos}{e:az}{b:List az}{t:TA}{c T:String}{r:List V->Hp->VK->Prop}
def HB(r:List V->Hp->VK->Prop)(t:TA):TE:=λd H Q=>t d H λf g=>r f g Q
theorem pe(y:eC X (.builtin c) r)(v:Gl X x)(u:X.mg x=ae)(o:eM x=aa (.builtin c))(z:PA X (e::b) t)(q:x≠"__name__":=by decide)(n:(x==("__debug__":Str))=aj:=by decide)(w:aN (e::b) X.env=(aj,aL e X.env)::aN b X.env:=by rfl) (A:(c_ a (aN b X.env)).any (·.1)=aj:=by rfl):PE X (.Call (.Name x p) (e::b) [] a) (HB r t):=by intro f s d H Q I h;refine tN (tj I v u o ?_ q n);exact Ur (aM (z a f s d H _ I h) λi j ⟨g,C,B,l,m⟩=>y f j d C g i Q B l m) w A
theorem yK(y:eC X (.type T) r)(v:Gl X x)(u:X.mg x=ae)(o:eM x=aa (.type T))(z:PA X (e::b) t)(q:x≠"__name__":=by decide)(n:(x==("__debug__":Str))=aj:=by decide)(w:aN (e::b) X.env=(aj,aL e X.env)::aN b X.env:=by rfl) (A:(c_ a (aN b X.env)).any (·.1)=aj:=by rfl):PE X (.Call (.Name x p) (e::b) [] a) (HB r t):=by intro f s d H Q I h;refine tN (tj I v u o ?_ q n);exact IT (aM (z a f s d H _ I h) λi j ⟨g,C,B,l,m⟩=>y f j d C g i Q B l m) w A
end
end L2
namespace HT
section
open PySem.SeqAt
open PySem.AutoSeq1 (wpAny_loadPart')
open PySem.MeetsSeq PySem.MeetsSeq2 PySem.MeetsSeq3
end
section
variable{a:aS}{w:aG}{A:aV}{E:ai->am->Prop}{s:am}
theorem cat_tup{t b:ag}{d c:List ai}{Q:ai->am->Prop}(B:IsTup s.heap t d.toArray)(C:IsTup s.heap b c.toArray)(u:d≠[])(F:c=[]->Q (.ref t) s) (D:c≠[]->Q (.ref s.heap.objs.size) {s with heap:=s.heap.push {cls:=.type "tuple",data:=.seq (d++c).toArray}})(l:d.length+c.length<=bd):au (ax a w) A (iX .Add (.ref t) (.ref b)) Q E s:=by
 obtain⟨⟨cls,y,data,o⟩,j,x,n,v⟩:=id B;obtain⟨⟨z,g,m,f⟩,h,r,p,q⟩:=id C;simp only at x v r q;subst x v r q;have e:d.toArray++c.toArray=(d++c).toArray:=by simp
 by_cases i:c=[]
 .exact concat_meets ⟨_,j,rfl⟩ ⟨_,h,rfl⟩ IY seq_tuple_add IZ I_ (Ja _ _)
   (tuple_addW1 t b d.toArray c.toArray n p y g o f (by simpa using u) (by simp[i])) ⟨j,h,F i⟩
 .refine concat_meets ⟨_,j,rfl⟩ ⟨_,h,rfl⟩ IY seq_tuple_add IZ I_ (Ja _ _)
   (tuple_addW2 t b d.toArray c.toArray n p y g o f (by simpa using u) (by simpa using i) (by rw[cr,cr];exact l)) ⟨j,h,?_⟩
  rw[e];exact D i
def sIx(n d:Nat):Option Int->Nat
 |none=>d
 |some v=>if v<0 then(v+(n:Int)).toNat else min v.toNat n
theorem sIx_nat(n d k:Nat):sIx n d (aa (k:Int))=min k n:=by show(if(k:Int)<0 then((k:Int)+(n:Int)).toNat else min (k:Int).toNat n)=min k n;rw[if_neg ∅,pr]
theorem sIx_le(n d:Nat)(c:d<=n)(o:Option Int):sIx n d o<=n:=by
 cases o with
 |none=>exact c
 |some v=>
  show(if v<0 then(v+(n:Int)).toNat else min v.toNat n)<=n;by_cases b:v<0
  .rw[if_pos b];lia
  .rw[if_neg b];exact Nat.min_le_right _ _
theorem EI(v:Int)(n d:Nat):(if v<0 then max (v+(n:Int)) 0 else min v (n:Int))=((sIx n d (aa v):Nat):Int):=by
 show(if v<0 then max (v+(n:Int)) 0 else min v (n:Int))=(((if v<0 then(v+(n:Int)).toNat else min v.toNat n):Nat):Int)
 by_cases b:v<0
 .simp only[if_pos b];lia
 .simp only[if_neg b];lia
theorem Ni(b c:Option Int)(n:Nat):Jb b c 1 (n:Int)=(((sIx n 0 b:Nat):Int),((sIx n n c:Nat):Int)):=by
 have d:¬((1:Int)<0):=∅
 unfold Jb;simp only[d,if_false];refine Prod.ext ?_ ?_
 .cases b with
  |none=>rfl
  |some v=>exact EI v n 0
 .cases c with
  |none=>rfl
  |some v=>exact EI v n n
theorem QK(i j:Nat):CQ (i:Int) (j:Int) 1=j-i:=by
 unfold CQ;have b:(1:Int) > 0:=∅
 simp only[b,if_true,Int.ediv_one];split <;> lia
theorem HX{v:ai}{o:Option Int}{Q:Option Int->am->Prop}(p:n9 v o)(h:Q o s):au (ax a w) A (Builtin.Slice.slicePartIndex v) Q E s:=by
 cases p with
 |none=>exact slicePart_none h
 |int i t=>exact slicePart_int h
theorem RJ{j:ag}{g f:ai}{b c:Option Int}{n:Nat}{Q:Int×Int×Nat->am->Prop}(o:s.heap.IsSliceOf j g f .none)(m:n9 g b)(l:n9 f c)(h:Q (((sIx n 0 b:Nat):Int),1,sIx n n c-sIx n 0 b) s):au (ax a w) A (Builtin.Slice.sliceApplied (.ref j) (pure (n:Int))) Q E s:=by
 obtain⟨q,i,p,d⟩:=id o;unfold Builtin.Slice.sliceApplied Builtin.Slice.sliceFields;refine ar (ar (qT i d (x:=g) rfl (ar (qT i d (x:=f) rfl (ar (qT i d (x:=.none) rfl (aI ?_)))))));refine ar (slicePart_none ?_);show au _ _ (if((1:Int) == 0)=ah then _ else _) _ _ s;rw[if_neg (by decide)];refine ar (HX m (ar (HX l (ar (aI ?_)))));show au _ _ (match Jb b c 1 (n:Int)with | (b,c)=>pure (b,(1:Int),CQ b c 1)) _ _ s;rw[Ni b c n];show au _ _ (pure (((sIx n 0 b:Nat):Int),(1:Int),CQ ((sIx n 0 b:Nat):Int) ((sIx n n c:Nat):Int) 1)) _ _ s;rw[QK];exact aI h
theorem PD(xs:Array ai)(i k:Nat):((dy k).filterMap λ(m:Nat)=>xs[((i:Int)+(m:Int)*1).toNat]?).toArray=((xs.toList.drop i).take k).toArray:=by
 have e:(λ(m:Nat)=>xs[((i:Int)+(m:Int)*1).toNat]?)=λm=>xs[i+m]?:=by
  funext m;have:((i:Int)+(m:Int)*1).toNat=i+m:=∅
  rw[this]
 rw[e];have:=pick_run xs i k;rw[List.filterMap_map]at this;have b:((λx=>xs[x]?) ∘ λx=>i+x)=λm=>xs[i+m]?:=rfl;rw[b]at this;rw[this]
theorem getItem_tuple_cut{t i:ag}{b:Array ai}{o n:ai}{c d:Option Int}{Q:ai->am->Prop}(g:IsTup s.heap t b)(p:s.heap.IsSliceOf i o n .none)(v:n9 o c)(u:n9 n d)(z:¬(sIx b.size 0 c=0/\sIx b.size b.size d=b.size))(h:Q (.ref s.heap.objs.size) {s with heap:=s.heap.push {cls:=.type "tuple",data:=.seq ((b.toList.drop (sIx b.size 0 c)).take (sIx b.size b.size d-sIx b.size 0 c)).toArray}})(B:b.size<=bd):au (ax a w) A (qU (.ref t) (.ref i)) Q E s:=by
 have f:sizeOk (.seq ((b.toList.drop (sIx b.size 0 c)).take (sIx b.size b.size d-sIx b.size 0 c)).toArray):=by show((b.toList.drop (sIx b.size 0 c)).take (sIx b.size b.size d-sIx b.size 0 c)).toArray.size<=bd;rw[cr,lc,mE,n5];lia
 have G:sIx b.size b.size d<=b.size:=sIx_le _ _ (a9 _) d;obtain⟨y,x,r,C⟩:=id p;have l:s.TypeIs (.ref i) "slice":=⟨y,x,r⟩
 unfold qU
 try with_reducible refine js ?_
 first|refine ar (aI ?_)|skip
 refine ar (wpAny_sequenceKey g.typeIs (by decide) ?_);refine ar (wpAny_callSpecial?_slot (name:=vU "__getitem__") g.typeIs Us (vV Us g.typeIs entry_tuple_getitem ?_ (args_tuple_getitem _ _)));show au _ _ (Builtin.Tuple.tupleItemsOf (.ref t) >>= _) _ _ s;refine ar (tupleItemsOf_ g ?_);refine ar (wpAny_typeOf l ?_);rw[if_pos (by decide)];refine ar (RJ p v u ?_);have j:¬((((sIx b.size 0 c:Nat):Int) == 0&&(1:Int) == 1&&(sIx b.size b.size d-sIx b.size 0 c) == b.size)=ah):=by intro q;rw[gn,gn]at q;have F:((sIx b.size 0 c:Nat):Int)=0:=eq_of_beq q.1.1;have D:sIx b.size b.size d-sIx b.size 0 c=b.size:=eq_of_beq q.2;exact z ⟨∅,∅⟩
 show au _ _ (if(((sIx b.size 0 c:Nat):Int) == 0&&(1:Int) == 1&&(sIx b.size b.size d-sIx b.size 0 c) == b.size)=ah then _ else _) _ _ s;rw[if_neg j,PD]
 first
  |exact ar (m:=CS _) (n_ (aI ⟨_,rfl,aI h⟩) f)
  |exact ar (m:=CS _) (n_ (ar (aI (aI ⟨_,rfl,aI h⟩))) f)
  |exact ar (ar (m:=CS _) (n_ (aI (aI ⟨_,rfl,aI h⟩)) f))
  |exact ar (ar (m:=CS _) (n_ (aI ⟨_,rfl,aI h⟩) f))
end
end HT
namespace L2
abbrev TO:=St->Hp->(Option Int->Hp->Prop)->Prop
def PO(X:Cx)(e:Option az)(t:TO):Prop :=
 ∀(b:List (ag×Obj)) (s:am) (a:St) (H:Hp) (Q:Option Int->Hp->Prop),Inv X b a H s->t a H Q ->
  au (ax X.prog X.w) X.A (evalPart e X.env) (λu d=>∃o c,Inv X b a c d/\n9 u o/\Q o c) X.xe s
def Sg:TO:=λ_ H Q=>Q ae H
def MI(t:TE):TO:=λa H Q=>t a H λx b=>∃i,x=.int i/\Q (aa i) b
section
variable{X:Cx}{e:az}{f:TE}{c d:Option az}{g j:TO}{n m:Pos}
theorem NX:PO X ae Sg:=by intro b s a H Q I h;rw[evalPart_none];exact aI ⟨ae,H,I,.none,h⟩
theorem PR(h:PE X e f):PO X (aa e) (MI f):=by intro p s a H Q I o;rw[evalPart_some];refine aM (h p s a H _ I o) λu w ζ=>?_;obtain⟨x,v,r,b,l⟩:=ζ;obtain⟨i,rfl,q⟩:=l;obtain⟨t,rfl⟩:=b;exact⟨aa i,v,r,.int i t,q⟩
def nu(X:Cx)(r:V->Option Int->Option Int->Hp->VK->Prop):Prop :=
 ∀(l:List (ag×Obj)) (s:am) (a:St) (H:Hp) (x:V) (v h b:ai) (c d:Option Int) (i:ag) (Q:VK),Inv X l a H s->RelV x v->s.heap.IsSliceOf i h b .none->n9 h c->n9 b d->r x c d H Q ->
  ∃T o,typeLookup (.type T) "__getitem__"=pure (aa (.builtin o))/\s.TypeIs v T/\au (ax X.prog X.w) X.A (qU v (.ref i)) (EP X l a Q) X.xe s
theorem nu.or{r p:V->Option Int->Option Int->Hp->VK->Prop}(h:nu X r)(z:nu X p):nu X (λx c d H Q=>r x c d H Q\/p x c d H Q):=by
 intro y s a H x v i b c d l Q I o w u t q;rcases q with q|q
 .exact h y s a H x v i b c d l Q I o w u t q
 .exact z y s a H x v i b c d l Q I o w u t q
def Q6(r:V->Option Int->Option Int->Hp->VK->Prop)(f:TE)(g j:TO):TE:=λa H Q=>f a H λx i=>g a i λl h=>j a h λu b=>r x l u b Q
theorem OP{r:V->Option Int->Option Int->Hp->VK->Prop}(K:nu X r)(N:PE X e f)(L:PO X c g)(G:PO X d j):PE X (.Subscript e (.Slice c d ae m) n) (Q6 r f g j):=by intro o s i H Q I h;refine Subscript_ (aM (N o s i H _ I h) λv z ζ=>?_);obtain⟨x,H1,Y,A,D⟩:=ζ;refine wpAny_Slice (aM (L o z i H1 _ Y D) λt y ⟨l,Z,W,F,C⟩=>aM (G o y i Z _ W C) λp a ζ=>?_);obtain⟨u,w,S,E,B⟩:=ζ;rw[evalPart_none];refine aI ?_;have P:Inv X o i w {a with heap:=a.heap.push {cls:=.type "slice",data:=.fields #[t,p,.none]}}:=S.kept (t':=a.toks) λb ob q=>bu _ q;obtain⟨T,id,O,J,M⟩:=K o {a with heap:=a.heap.push {cls:=.type "slice",data:=.fields #[t,p,.none]}} i w x v t p l u a.heap.objs.size Q P A (Heap.IsSliceOf.new ..) F E B;show au (ax X.prog X.w) X.A (subscriptTail e (.Slice c d ae m) v (.ref a.heap.objs.size)) (EP X o i Q) X.xe {a with heap:=a.heap.push {cls:=.type "slice",data:=.fields #[t,p,.none]}};exact tail_any (ops:=[.ref a.heap.objs.size,v]) J O M (by with_unfolding_all rfl)
def oU(xs:List V)(c d:Option Int):List V:=(xs.drop (HT.sIx xs.length 0 c)).take (HT.sIx xs.length xs.length d-HT.sIx xs.length 0 c)
theorem EF(xs:List V)(c d:Option Int):(oU xs c d).length<=xs.length:=by unfold oU;rw[lc,mE];lia
def Hm(K:ay):V->Option Int->Option Int->Hp->VK->Prop:=λx c d H Q=>∃a xs,x=.ref a/\cR K H a xs /\
 ¬(HT.sIx xs.length 0 c=0/\HT.sIx xs.length xs.length d=xs.length)/\∀p,H p=ae->Q (.ref p) (upd H p (.tup (oU xs c d)))
theorem Nt:nu X (Hm X.K):=by
 intro J s C H x v E D c d F Q I u B y w h;obtain⟨a,xs,rfl,z,A,q⟩:=h;cases u;obtain⟨i,r,t,p⟩:=I.tuple z;have l:i.toArray.size=xs.length:=by rw[cr];exact r.length.symm
 refine⟨"tuple",_,PyProof.Rows.slot_tuple_getitem.lookup,t.typeIs,?_⟩;refine HT.getItem_tuple_cut t B y w (by rw[l];exact A) ?_ (by rw[l];exact p);rw[l];refine⟨.ref s.heap.objs.size,_,I.laid (t':=s.toks) (o:=.tup (oU xs c d)) (λb G q=>bu _ q) (a9 _) ?_,rfl,q _ (I.hok.fresh (a9 _))⟩;exact⟨cP (EF xs c d) p,_,(r.drop (HT.sIx xs.length 0 c)).take (HT.sIx xs.length xs.length d-HT.sIx xs.length 0 c),IL.new _ _⟩
def Fs(K:ay):R2:=λx y H Q=>∃a b xs h,x=.ref a/\y=.ref b/\cR K H a xs/\cR K H b h/\xs≠[]/\xs.length+h.length<=bd /\
 (h=[]->Q (.ref a) H)/\(h≠[]->∀p,H p=ae->Q (.ref p) (upd H p (.tup (xs++h))))
theorem bt.nil_iff{xs:List V}{a:List ai}(r:bt xs a):a=[]↔xs=[]:=by
 cases r with
 |nil=>simp
 |cons _ _=>simp
theorem U1:cb X (iX .Add) (Fs X.K):=by
 intro N s L H x y v u Q I B A h;obtain⟨a,b,xs,t,rfl,rfl,K,J,G,r,D,C⟩:=h;cases B;cases A;obtain⟨F,l,E,_⟩:=I.tuple K;obtain⟨p,i,m,_⟩:=I.tuple J;refine HT.cat_tup E m (λz=>G (l.nil_iff.mp z)) (λz=>⟨.ref a,H,I,rfl,D (i.nil_iff.mp z)⟩) (λz=>?_) (by rw[<-l.length,<-i.length];exact r);refine⟨.ref s.heap.objs.size,_,I.laid (t':=s.toks) (o:=.tup (xs++t)) (λb M q=>bu _ q) (a9 _) ?_,rfl,C (λw=>z (i.nil_iff.mpr w)) _ (I.hok.fresh (a9 _))⟩;exact⟨by rw[cQ];exact r,_,l.append i,IL.new _ _⟩
end
def kQ(n:Nat)(i:Int):Option Nat:=if 0<=i then(if i<n then aa i.toNat else ae)else if -(n:Int)<=i then aa (i+n).toNat else ae
def gB{a:Type}(xs:List a)(i:Int):Option a:=(kQ xs.length i).bind λj=>xs[j]?
theorem Fq{n:Nat}{i:Int}{j:Nat}(h:kQ n i=aa j):seqIndex? i n=aa j/\j<n/\-(n:Int)<=i/\i<n:=by
 unfold kQ at h;by_cases b:0<=i
 .rw[if_pos b]at h;by_cases a:i<n
  .rw[if_pos a]at h;have e:i.toNat=j:=dZ h;exact⟨by rw[seqIndex_of b a,e],∅,∅,a⟩
  .rw[if_neg a]at h;cases h
 .rw[if_neg b]at h;by_cases a:-(n:Int)<=i
  .rw[if_pos a]at h;have e:(i+n).toNat=j:=dZ h;exact⟨by rw[seqIndex_neg ∅ a,e],∅,a,∅⟩
  .rw[if_neg a]at h;cases h
theorem As{a:Type}{xs:List a}{i:Int}{v:a}(h:gB xs i=aa v):∃j,seqIndex? i xs.length=aa j/\xs[j]?=aa v/\j<xs.length/\-(xs.length:Int)<=i/\i<xs.length:=by
 unfold gB at h;cases e:kQ xs.length i with
 |none=>rw[e]at h;cases h
 |some j=>rw[e]at h;obtain⟨f,d,c,b⟩:=Fq e;exact⟨j,f,h,d,c,b⟩
theorem Rk{a:Type}{xs:List a}{j:Nat}{v:a}(h:xs[j]?=aa v):gB xs (j:Int)=aa v:=by
 have b:j<xs.length:=(d7.mp h).1;have e:kQ xs.length (j:Int)=aa j:=by unfold kQ;rw[if_pos ∅,if_pos ∅];simp
 unfold gB;rw[e];exact h
def GZ(b:az):Prop:=∀o i,CT b aj o i=operate [o,i] (qU o i)
def mY(X:Cx)(r:R2):Prop :=
 ∀(b a:az) (d:List (ag×Obj)) (s:am) (c:St) (H:Hp) (x y:V) (v u:ai) (Q:VK),Inv X d c H s->RelV x v->RelV y u->r x y H Q ->
  CT a aj v u=operate [v,u] (qU v u)->au (ax X.prog X.w) X.A (subscriptTail b a v u) (EP X d c Q) X.xe s
def nR(X:Cx)(d:String)(r:V->List V->Hp->VK->Prop):Prop :=
 ∀(c:List (ag×Obj)) (s:am) (a:St) (H:Hp) (x:V) (xs:List V) (v:ai) (b:List ai) (Q:VK),Inv X c a H s->RelV x v->bt xs b->r x xs H Q ->
  au (ax X.prog X.w) X.A (call (.builtin d) (v::b)) (EP X c a Q) X.xe s
section
variable{X:Cx}{a b:az}{F E:TE}{D:Pos}
theorem mY.or{r j:R2}(h:mY X r)(n:mY X j):mY X (λx y H Q=>r x y H Q\/j x y H Q):=by
 intro c d m s f H x y v u Q I i g q l;rcases q with q|q
 .exact h c d m s f H x y v u Q I i g q l
 .exact n c d m s f H x y v u Q I i g q l
theorem N6{r:R2}(j:mY X r)(m:PE X a F)(l:PE X b E)(i:GZ b):PE X (.Subscript a b D) (xK r F E):=by intro n s c H Q I h;exact Subscript_ (Cd m l I h λv u d x y p o g f q=>j a b n d c p x y v u Q o g f q (i _ _))
def G_(K:ay):R2:=λx y H Q=>∃p xs i v,x=.ref p/\y=.int i/\cC K H p xs/\gB xs i=aa v/\Q v H
def D6(K:ay):R2:=λx y H Q=>∃p xs i v,x=.ref p/\y=.int i/\cR K H p xs/\gB xs i=aa v/\Q v H
def Ek:R2:=λx y H Q=>∃z i c,x=.str z/\y=.int i/\z.length<=bd/\gB z.cps.toList i=aa c/\Q (.str ⟨#[c]⟩) H
theorem U4:mY X (G_ X.K):=by
 intro f g J s A H x y v u Q I M L h B;obtain⟨p,xs,i,z,rfl,rfl,N,P,q⟩:=h;cases M;obtain⟨t,rfl⟩:=L;obtain⟨n,r,m,Y⟩:=I.list N;obtain⟨j,d,W,h3,T,S⟩:=As P;obtain⟨w,G,l⟩:=r.get W;have O:=r.length;have Z:=qm;have c:EP X J A Q w s:=⟨z,H,I,l,q⟩
 by_cases C:0<=i
 .have o:i.toNat=j:=by
   rw[seqIndex_of C S]at d;exact dZ d
  exact item_listR m.isList C ∅ (by rw[o];simpa using G) c B
 .have o:(i+(n.toArray.size:Int)).toNat=j:=by
   rw[seqIndex_neg ∅ T]at d;rw[cr,<-O];exact dZ d
  exact subscriptTail_builtinR (x:=w) m.isList.typeIs slot_list_getitem.lookup
   (wpAny_getItem_list_neg (Q:=λr K=>r=w/\EP X J A Q r K) m.isList ∅ (by rw[cr] <;> lia) ∅ (by rw[o];simpa using G) ⟨rfl,c⟩) B
theorem U9:mY X (D6 X.K):=by
 intro c d n s l H x y v u Q I B A h G;obtain⟨p,xs,i,z,rfl,rfl,J,L,q⟩:=h;cases B;obtain⟨t,rfl⟩:=A;obtain⟨C,r,m,P⟩:=I.tuple J;obtain⟨j,N,M,Y,W,T⟩:=As L;obtain⟨w,O,f⟩:=r.get M;have K:=r.length;have S:=qm;have g:EP X n l Q w s:=⟨z,H,I,f,q⟩
 exact subscriptTail_builtinR (x:=w) m.typeIs slot_tuple_getitem.lookup
  (getItem_tuple (j:=j) (Q:=λr o=>r=w/\EP X n l Q r o) m ∅ ∅ (by rw[cr,<-K];exact N) (by simpa using O) ⟨rfl,g⟩) G
theorem OJ:mY X Ek:=by
 intro d f N s G H x y v u Q I m l h n;obtain⟨z,i,c,rfl,rfl,K,p,q⟩:=h;obtain⟨t,rfl⟩:=m;obtain⟨J,rfl⟩:=l;obtain⟨j,g,A,M,w,r⟩:=As p;have o:z.cps.toList.length=z.length:=by simp[pt]
 rw[o]at g w r;have L:=qm;exact tail_any (typeIs_str s z t) slot_str_getitem.lookup (getItem_str (c:=c) (by have C:decide (i < -(2^63:Int))=aj:=decide_eq_false ∅;have B:decide (i ≥ 2^63)=aj:=decide_eq_false ∅;rw[C,B,Bool.or_false]) (by rw[g];simpa using A) ⟨.str ⟨#[c]⟩,H,I.tok _,⟨_,rfl⟩,q⟩) n
def HI(K:ay):R2:=λx y H Q=>G_ K x y H Q\/D6 K x y H Q\/Ek x y H Q
theorem gZ:mY X (HI X.K):=U4.or (U9.or OJ)
theorem Mr(c:List ai)(n j:Nat)(u:ai):iF (·.setIfInBounds j u) {cls:=.type "list",data:=.seq c.toArray n}={cls:=.type "list",data:=.seq (c.set j u).toArray n}:=by simp[iF]
theorem Inv.lst{d:List (ag×Obj)}{c:St}{H:Hp}{s:am}{p:ag}{xs:List V}(I:Inv X d c H s)(h:H p=aa (.lst xs)):∃(its:List ai) (n:Nat),bt xs its/\s.heap.get? p=aa {cls:=.type "list",data:=.seq its.toArray n}/\xs.length<=bd:=by obtain⟨z,its,n,r,e⟩:=I.hok p _ h;exact⟨its,n,r,e,z⟩
theorem Inv.lstUpd{m:List (ag×Obj)}{j:St}{H:Hp}{s:am}{p:ag}{xs g:List V}{d c:List ai}{n i:Nat}{f:Obj->Obj}(I:Inv X m j H s)(h:H p=aa (.lst xs))(v:s.heap.get? p=aa {cls:=.type "list",data:=.seq d.toArray n}) (l:f {cls:=.type "list",data:=.seq d.toArray n}={cls:=.type "list",data:=.seq c.toArray i}) (r:bt g c) (o:g.length<=bd) (t:Nat):Inv X m j (upd H p (.lst g)) {s with heap:=s.heap.update p f,toks:=t}:=by
 have e:(s.heap.update p f).get? p=aa {cls:=.type "list",data:=.seq c.toArray i}:=by rw[pA f v (by rw[l] <;> rfl),l]
 refine I.write (x:=p) (e:=p) (by rw[h];trivial) (.inl rfl) (λb u w q=>(pB _ _ (ef w)).trans q) ⟨_,e⟩ ?_;exact⟨o,c,i,r,e⟩
def Lo:V->V->V->Hp->(Hp->Prop)->Prop:=λo i v H Q=>∃p xs k j,o=.ref p/\i=.int k/\H p=aa (.lst xs)/\kQ xs.length k=aa j/\Q (upd H p (.lst (xs.set j v)))
theorem Tq:Hf X Lo:=by
 intro L s A H o i v ov M u Q I C G B h;obtain⟨p,xs,k,j,rfl,rfl,m,K,q⟩:=h;cases C;obtain⟨t,rfl⟩:=G;obtain⟨c,n,r,f,J⟩:=I.lst m;obtain⟨d,O,x,w⟩:=Fq K;have g:=r.length;have N:=qm;have z:Inv X L A (upd H p (.lst (xs.set j v))) {s with heap:=s.heap.update p (iF (·.setIfInBounds j u))} :=I.lstUpd m f (Mr c n j u) (r.set B j) (by rw[g_];exact J) s.toks;by_cases y:0<=k
 .have l:k.toNat=j:=by
   rw[seqIndex_of y w]at d;exact dZ d
  exact PySem.W.ki_setAt f y ∅ (by rw[cr,<-g];exact w) (by rw[l];exact⟨_,z,q⟩)
 .have l:(k+(c.toArray.size:Int)).toNat=j:=by
   rw[seqIndex_neg ∅ x]at d;rw[cr,<-g];exact dZ d
  exact PySem.W.ki_setBack f ∅ (by rw[cr,<-g];exact x) ∅ (by rw[l];exact⟨_,z,q⟩)
theorem P7(c d:Option Int)(n:Nat):(tO c d ae n).1=((HT.sIx n 0 c:Nat):Int)/\(tO c d ae n).2.1=((HT.sIx n n d:Nat):Int)/\(tO c d ae n).2.2=1:=by
 refine⟨?_,?_,rfl⟩
 .cases c with
  |none=>simp[tO,HT.sIx]
  |some i=>
   simp only[tO,HT.sIx,Jc,show(1:Int) > 0 by decide,if_true];by_cases h:i<0
   .simp only[h,if_true] <;> lia
   .simp only[h,if_false] <;> lia
 .cases d with
  |none=>simp[tO,HT.sIx]
  |some i=>
   simp only[tO,HT.sIx,Jc,show(1:Int) > 0 by decide,if_true];by_cases h:i<0
   .simp only[h,if_true] <;> lia
   .simp only[h,if_false] <;> lia
theorem Lq(c:List ai)(d f:Option Int):slicePick c.toArray d f ae=((c.drop (HT.sIx c.length 0 d)).take (HT.sIx c.length c.length f-HT.sIx c.length 0 d)).toArray:=by obtain⟨i,h,g⟩:=P7 d f c.toArray.size;unfold slicePick;rw[i,h,g];simp only[sliceRange_one,pick_run,cr] <;> rfl
def F_(K:ay):V->Option Int->Option Int->Hp->VK->Prop:=λx c d H Q=>∃a xs,x=.ref a/\cC K H a xs/\∀p,H p=ae->Q (.ref p) (upd H p (.lst (oU xs c d)))
theorem UW:nu X (F_ X.K):=by
 intro B s u H x v y w c d z Q I g p j i h;obtain⟨a,xs,rfl,n,q⟩:=h;cases g;obtain⟨l,r,f,m⟩:=I.list n;have t:=r.length;refine⟨"list",_,slot_list_getitem.lookup,f.isList.typeIs,?_⟩;refine wpAny_getItem_list_slice f.isList p j i .none (by simp) ?_ (by rw[cr] <;> lia);rw[Lq,<-t];refine⟨.ref s.heap.objs.size,_,I.laid (t':=s.toks) (o:=.lst (oU xs c d)) (λb A q=>bu _ q) (a9 _) ?_,rfl,q _ (I.hok.fresh (a9 _))⟩;exact⟨cP (EF xs c d) m,_,0,(r.drop (HT.sIx xs.length 0 c)).take (HT.sIx xs.length xs.length d-HT.sIx xs.length 0 c),cI _ rfl⟩
def gk:V->Bool
 |.non=>ah
 |.bl _=>ah
 |.int _=>ah
 |.str _=>ah
 |_=>aj
def dU:V->V->Bool
 |.non,.non=>ah
 |.bl a,.bl b=>a == b
 |.bl a,.int b=>(if a then 1 else 0) == b
 |.int a,.bl b=>a == (if b then 1 else 0)
 |.int a,.int b=>a == b
 |.str a,.str b=>a == b
 |_,_=>aj
theorem Gb{A:aV}{s:am}{y x:V}{u v:ai}(f:RelV y u)(c:RelV x v)(h:gk y=ah)(g:gk x=ah):vW A s u v (dU y x):=by
 cases y with
 |non=>
  cases f;cases x with
  |non=>cases c;exact SeqAt.EqAt.same _
  |bl b=>cases c;exact SeqAt.EqAt.none_bool b
  |int b=>obtain⟨t,rfl⟩:=c;exact SeqAt.EqAt.none_int b t
  |str b=>obtain⟨t,rfl⟩:=c;exact SeqAt.EqAt.none_str b t
  |_=>exact absurd (show aj=ah from g) fq
 |bl a=>
  cases f;cases x with
  |non=>cases c;exact SeqAt.EqAt.bool_none a
  |bl b=>cases c;exact SeqAt.EqAt.bool_bool a b
  |int b=>obtain⟨t,rfl⟩:=c;exact SeqAt.EqAt.bool_int a b t
  |str b=>obtain⟨t,rfl⟩:=c;exact SeqAt.EqAt.bool_str a b t
  |_=>exact absurd (show aj=ah from g) fq
 |int a=>
  obtain⟨d,rfl⟩:=f;cases x with
  |non=>cases c;exact SeqAt.EqAt.int_none a d
  |bl b=>cases c;exact SeqAt.EqAt.int_bool a d b
  |int b=>obtain⟨t,rfl⟩:=c;exact SeqAt.EqAt.int_int a d b t
  |str b=>obtain⟨t,rfl⟩:=c;exact SeqAt.EqAt.int_str a d b t
  |_=>exact absurd (show aj=ah from g) fq
 |str a=>
  obtain⟨d,rfl⟩:=f;cases x with
  |non=>cases c;exact SeqAt.EqAt.str_none a d
  |bl b=>cases c;exact SeqAt.EqAt.str_bool a d b
  |int b=>obtain⟨t,rfl⟩:=c;exact SeqAt.EqAt.str_int a d b t
  |str b=>obtain⟨t,rfl⟩:=c;exact Jd a d b t
  |_=>exact absurd (show aj=ah from g) fq
 |_=>exact absurd (show aj=ah from h) fq
def jH(x:V)(u:ai):Bool:=match u with
 |.none=>dU .non x
 |.bool b=>dU (.bl b) x
 |.int i _=>dU (.int i) x
 |.str z _=>dU (.str z) x
 |_=>aj
theorem uI{x y:V}{u:ai}(r:RelV y u)(f:gk y=ah):jH x u=dU y x:=by
 cases y with
 |non=>cases r;rfl
 |bl b=>cases r;rfl
 |int i=>obtain⟨t,rfl⟩:=r;rfl
 |str z=>obtain⟨t,rfl⟩:=r;rfl
 |_=>exact absurd (show aj=ah from f) fq
theorem Gx{x:V}{xs:List V}{c:List ai}(r:bt xs c)(f:xs.all gk=ah):c.any (jH x)=xs.any λy=>dU y x:=by
 unfold bt at r
 induction r with
 |nil=>rfl
 |cons r _ g=>rw[tP,gn]at f;rw[qV,qV,uI r f.1,g f.2]
theorem uB{A:aV}{s:am}{x:V}{v:ai}(i:RelV x v)(j:gk x=ah){xs:List V}{d:List ai}(r:bt xs d)(f:xs.all gk=ah):∀u∈d,vW A s u v (jH x u):=by
 unfold bt at r
 induction r with
 |nil=>exact λu c=>by cases c
 |cons r _ g=>
  intro h c;rw[tP,gn]at f;rcases bC.mp c with rfl|c
  .rw[uI r f.1];exact Gb r i f.1 j
  .exact g f.2 h c
def uW(x:V)(xs:List V):Bool:=xs.any λy=>dU y x
def Bg(K:ay)(c:Bool):R2:=λx y H Q=>∃p xs,y=.ref p/\(cC K H p xs\/cR K H p xs)/\gk x=ah/\xs.all gk=ah/\Q (.bl (if c then !uW x xs else uW x xs)) H
theorem Sk:cb X (eJ .In) (Bg X.K aj):=by
 intro o s n H x y v u Q I i l h;obtain⟨p,xs,rfl,d,j,fs,q⟩:=h;cases l;rcases d with d|d
 .obtain⟨c,r,f,m⟩:=I.list d;refine SeqAt.in_listAt (jH x) f.isList (λw g=>uB i j r fs w (by simpa using g)) ⟨.bl _,H,I,rfl,?_⟩;rw[show c.toArray.any (jH x)=c.any (jH x) by simp,Gx r fs];exact q
 .obtain⟨c,r,f,m⟩:=I.tuple d;refine SeqAt.in_tupleAt (jH x) f (λw g=>uB i j r fs w (by simpa using g)) ⟨.bl _,H,I,rfl,?_⟩;rw[show c.toArray.any (jH x)=c.any (jH x) by simp,Gx r fs];exact q
theorem eC.or{f:ai}{r i:List V->Hp->VK->Prop}(h:eC X f r)(l:eC X f i):eC X f (λxs H Q=>r xs H Q\/i xs H Q):=by
 intro j s c H xs d Q I g q;rcases q with q|q
 .exact h j s c H xs d Q I g q
 .exact l j s c H xs d Q I g q
theorem Ix:eC X (.type "list") (λxs H Q=>∃p f,xs=[.ref p]/\(cC X.K H p f\/cR X.K H p f)/\∀l,H l=ae->Q (.ref l) (upd H l (.lst f))):=by
 intro J s B H xs K Q I r h;obtain⟨p,f,rfl,t,q⟩:=h;obtain⟨u,rfl,C⟩:=vals1 r;cases C;have v:∀(c:List ai),bt f c->f.length<=bd->∀(d:aB) (i:Nat),(∀b A,s.heap.get? b=aa A->d.get? b=aa A) ->
   d.get? s.heap.objs.size=aa {cls:=.type "list",dict:=ae,data:=.seq c.toArray i,slots:=#[]}->EP X J B Q (.ref s.heap.objs.size) {s with heap:=d}:=λc g m d i j e=>
  ⟨.ref s.heap.objs.size,_,I.laid (t':=s.toks) j (a9 _) (show cz X.prog X.w _ d _ (.lst f)from⟨m,c,i,g,e⟩),rfl,q _ (I.hok.fresh (a9 _))⟩
 rcases t with t|t
 .obtain⟨c,g,w,m⟩:=I.list t;have G:=g.length;obtain⟨o,x,z,n,y⟩:=w.isList;exact call_list_seq p (.inl rfl) x z y (λd i j e=>v c g m d i j e) (by simp only[cr] <;> lia)
 .obtain⟨c,g,w,m⟩:=I.tuple t;have G:=g.length;obtain⟨o,x,z,n,y⟩:=w;exact call_list_seq p (.inr rfl) x z y (λd i j e=>v c g m d i j e) (by simp only[cr] <;> lia)
theorem yQ:eC X (.type "tuple") (λxs H Q=>∃p d,xs=[.ref p]/\((cC X.K H p d/\∀l,H l=ae->Q (.ref l) (upd H l (.tup d)))\/(cR X.K H p d/\Q (.ref p) H))):=by
 intro n s j H xs y Q I r h;obtain⟨p,d,rfl,h⟩:=h;obtain⟨u,rfl,v⟩:=vals1 r;cases v;rcases h with⟨hq,q⟩|⟨hq,q⟩
 .obtain⟨c,g,i,m⟩:=I.list hq;have z:=g.length;refine call_tuple_list i.isList (λf w=>?_) (by simp only[cr] <;> lia);have t:Inv X n j H {s with heap:=f}:=I.kept (t':=s.toks) w;have x:Inv X n j (upd H f.objs.size (.tup d)) {s with heap:=f.push {cls:=.type "tuple",data:=.seq c.toArray}} :=t.laid (t':=s.toks) (λb o e=>bu _ e) (a9 _) (show cz X.prog X.w _ _ _ (.tup d)from⟨m,c,g,IL.new _ _⟩);exact⟨.ref f.objs.size,_,x,rfl,q _ (t.hok.fresh (a9 _))⟩
 .obtain⟨c,g,i,m⟩:=I.tuple hq;exact call_tuple_same i ⟨.ref p,H,I,rfl,q⟩
def Cs(K:ay)(T:String)(x:V)(H:Hp):Prop:=match x with
 |.str _=>T = "str"
 |.int _=>T = "int"
 |.ref p=>(T = "list"/\∃xs,cC K H p xs)\/(T = "tuple"/\∃o,K.lookup p=aa o/\o.cls=.type "tuple"/\o.dict=ae) \/
   (T = "dict"/\((∃c,H p=aa (.dK c))\/∃c,H p=aa (.dT c)))\/(T = "set"/\∃S n,H p=aa (.set S n))
 |_=>False
theorem Fw{q:List (ag×Obj)}{l:St}{H:Hp}{s:am}{T:String}{x:V}{v:ai}(I:Inv X q l H s)(r:RelV x v)(ty:Cs X.K T x H):s.TypeIs v T/\∀a,v=.ref a->∃j,s.heap.get? a=aa j/\j.dict=ae:=by
 cases x with
 |str z=>
  obtain⟨t,rfl⟩:=r;cases (show T = "str" from ty);exact⟨typeIs_str s z t,λ_ e=>nomatch e⟩
 |int i=>
  obtain⟨t,rfl⟩:=r;cases (show T = "int" from ty);exact⟨typeIs_int s i t,λ_ e=>nomatch e⟩
 |ref p=>
  cases r;rcases ty with⟨rfl,xs,hq⟩|⟨rfl,o,hk,hc,f⟩|⟨rfl,hk⟩|⟨rfl,S,n,hk⟩
  .obtain⟨m,_,h,_⟩:=I.list hq;refine⟨h.isList.typeIs,λa e=>?_⟩;cases e;obtain⟨o,n,e,c,f,_⟩:=h;exact⟨o,e,f⟩
  .refine⟨⟨o,I.kIn p o hk,hc⟩,λa e=>?_⟩;cases e;exact⟨o,I.kIn _ o hk,f⟩
  .have z:∃o,s.heap.get? p=aa o/\o.ExactDict:=by
    rcases hk with⟨kvs,hk⟩|⟨kvs,hk⟩
    .obtain⟨_,_,_,_,o,_,_,e,d,_⟩:=I.hok p _ hk;exact⟨o,e,d⟩
    .obtain⟨_,_,_,_,o,_,_,e,d,_⟩:=I.hok p _ hk;exact⟨o,e,d⟩
   obtain⟨o,e,d⟩:=z;refine⟨⟨o,e,d.1⟩,λa g=>?_⟩;cases g;exact⟨o,e,d.2.1⟩
  .obtain⟨o,_,_,_,e,d,_⟩:=I.hok p _ hk;refine⟨⟨o,e,d.1⟩,λa g=>?_⟩;cases g;exact⟨o,e,d.2.1⟩
 |_=>exact iE ty
def Rj(K:ay)(T:String)(r:V->List V->Hp->VK->Prop)(to:TE):TE:=λd H Q=>to d H λx c=>Cs K T x c/\r x [] c Q
def MC(K:ay)(T:String)(r:V->List V->Hp->VK->Prop)(to:TE)(t:TA):TE:=λc H Q=>to c H λx d=>Cs K T x d/\t c d λxs f=>r x xs f Q
variable{o e:az}{es:List az}{to:TE}{t:TA}{m:Str}{B d:Pos}{T C:String}{r:V->List V->Hp->VK->Prop}
theorem Fi(p:PlainAttrs T)(c:Slot T m C)(q:typeOf (.builtin C)=pure (.type "method_descriptor"))(z:nR X C r)(y:PE X o to)(w:j9 o m X.env (aL o X.env)=aL o X.env:=by rfl) (u:(B.endLine == d.line)=ah:=by rfl):PE X (.Call (.Attribute o m B) [] [] d) (Rj X.K T r to):=by intro i s f H Q I h;refine wpAny_Call_method0_late w u (aM (y i s f H _ I h) λv l ζ=>?_);obtain⟨x,J,j,g,ty,n⟩:=ζ;obtain⟨G,A⟩:=Fw j g ty;exact⟨T,C,p,c,q,G,A,CU rfl (PySem.evalArgs_none (z i l f J x [] v [] Q j g .nil n))⟩
theorem vx(J:PlainAttrs T)(c:Slot T m C)(K:typeOf (.builtin C)=pure (.type "method_descriptor"))(P:nR X C r)(O:PE X o to)(S:PA X (e::es) t)(M:j9 o m X.env (aL o X.env)=aL o X.env:=by rfl)(u:((c_ d (aN (e::es) X.env)).all (λx=>!x.1)&&(qW d (qX [] X.env)).all (λx=>x.1.isSome)&&decide ((e::es).length+([]:List jN).length+(if([]:List jN).isEmpty then 0 else 1)<30))=ah:=by rfl)(L:(B.endLine == d.line)=ah:=by rfl) (N:aN (e::es) X.env=(aj,aL e X.env)::aN es X.env:=by rfl) (n:(c_ d (aN es X.env)).any (·.1)=aj:=by rfl):PE X (.Call (.Attribute o m B) (e::es) [] d) (MC X.K T r to t):=by intro g s f H Q I h;refine wpAny_Call_method_late M u L rfl (aM (O g s f H _ I h) λv y ζ=>?_);obtain⟨x,H1,l,i,ty,G⟩:=ζ;obtain⟨Y,W⟩:=Fw l i ty;refine⟨T,C,J,c,K,Y,W,?_⟩;have j:=S d g y f H1 _ l G;rw[N]at j ⊢;refine CU (by show(aj||(c_ d (aN es X.env)).any (·.1))=aj;rw[n] <;> rfl) (CV ?_);exact aM j λq w ⟨p,H2,Z,z,A⟩=>P g w f H2 x p v q Q Z i z A
end
def vM(X:Cx)(d:String)(r:V->List V->Hp->VK->Prop):Prop :=
 ∀(c:List (ag×Obj)) (s:am) (a:St) (H:Hp) (x:V) (xs:List V) (v:ai) (b:List ai) (Q:VK),Inv X c a H s->RelV x v->bt xs b->r x xs H Q ->
  au (ax X.prog X.w) X.A (call (.builtin d) (v::b)) (EP X c a Q) X.xe s
theorem bt.one{x:V}{a:List ai}(h:bt [x] a):∃u,a=[u]/\RelV x u:=by
 cases h with
 |cons r t=>cases t;exact⟨_,rfl,r⟩
theorem bt.zero:∀{a:List ai},bt [] a->a=[]
 |_,.nil=>rfl
theorem bt.rep{xs:List V}{a:List ai}(h:bt xs a):∀k:Nat,bt (bK k xs).flatten (bK k a).flatten
 |0=>.nil
 |k+1=>by rw[pC,pC,tQ,tQ];exact bt.append h (bt.rep h k)
theorem foldl_rep(a:List ai):∀(k:Nat) (b:List ai), List.foldl (λd c=>d++c) b.toArray (bK k a.toArray)=(b++(bK k a).flatten).toArray
 |0,b=>by simp
 |k+1,b=>by
  have e:b.toArray++a.toArray=(b++a).toArray:=by simp
  have f:(b++a)++(bK k a).flatten=b++(bK (k+1) a).flatten:=by rw[pC,tQ,eN]
  rw[<-f,<-foldl_rep a k (b++a),<-e,pC,lf]
section
variable{X:Cx}{d:List (ag×Obj)}{a:St}{H:Hp}{s:am}{l b:ag}{g c i:List V}
theorem Inv.lset{h its':List ai}{n:Nat}{f:Array ai->Array ai}{j:Nat}(I:Inv X d a H s)(v:H l=aa (.lst g))(e:s.heap.get? l=aa {cls:=.type "list",data:=.seq h.toArray n}) (r:f h.toArray=its'.toArray) (o:bt c its') (m:c.length<=bd):Inv X d a (upd H l (.lst c)) {s with heap:=s.heap.update l (iF f),toks:=j}:=by have q:=PySem.IsL.update e f;rw[r]at q;refine I.write (x:=l) (e:=l) (by rw[v];exact trivial) (.inl rfl) (λw u t p=>(pB s.heap (iF f) (ef t)).trans p) ⟨_,q⟩ ?_;exact⟨m,its',_,o,q⟩
theorem Inv.lnew{its:List ai}{t':Nat}(I:Inv X d a H s)(h:bt c its)(f:c.length<=bd):Inv X d a (upd H s.heap.objs.size (.lst c)) {s with heap:=s.heap.push {cls:=.type "list",data:=.seq its.toArray},toks:=t'} :=I.laid (λ_ _ q=>bu _ q) (a9 _) ⟨f,its,0,h,cI _ rfl⟩
theorem Inv.fresh(I:Inv X d a H s):H s.heap.objs.size=ae:=I.hok.fresh (a9 _)
theorem Inv.lstM(I:Inv X d a H s)(h:H l=aa (.lst g)):g.length<=bd/\∃(f:List ai) (n:Nat),bt g f/\g.length=f.length/\s.heap.get? l=aa {cls:=.type "list",data:=.seq f.toArray n}:=by obtain⟨z,f,n,r,e⟩:=I.hok l _ h;exact⟨z,f,n,r,r.length,e⟩
theorem RA{n:Nat}(h:n<=bd):Je n=aj:=by unfold Je;exact decide_eq_false ∅
end
section
variable{X:Cx}
def Pw:V->List V->Hp->VK->Prop:=λx a H Q=>∃l xs y,x=.ref l/\a=[y]/\H l=aa (.lst xs)/\xs.length<bd/\Q .non (upd H l (.lst (xs++[y])))
theorem GT:vM X "list.append" Pw:=by
 intro o s f H x g v i Q I b c h;obtain⟨l,xs,y,rfl,rfl,a,j,q⟩:=h;cases b;obtain⟨u,rfl,d⟩:=c.one;obtain⟨z,its,n,r,m,e⟩:=I.lstM a;refine tR F.slot_list_append ⟨_,e,rfl⟩ F.entry_list_append (F.args_list_append_2 _ _) (PySem.list_append l its.toArray n u (by rw[cr];lia)) ⟨e,?_⟩;refine⟨.non,_,I.lset (its':=its++[u]) a e (by simp) (r.append (.cons d .nil)) ?_,rfl,q⟩;rw[cQ,pD];lia
theorem Bm{a:Type}(xs:List a)(k:Nat):(bK k xs).flatten.length=k*xs.length:=by
 induction k with
 |zero=>simp
 |succ k b=>rw[pC,tQ,cQ,b,CW,Nat.add_comm]
end
section
variable{κ:Type}[DecidableEq κ]
def fV(a:List (κ×V))(k:κ):Option V:=(a.find? λb=>decide (b.1=k)).map (·.2)
def iy(a:List (κ×V))(k:κ)(v:V):List (κ×V) :=if(a.any λb=>decide (b.1=k))=ah then a.map (λb=>if b.1=k then(b.1,v)else b)else a++[(k,v)]
theorem sU{p:κ×V}{r:List (κ×V)}{k:κ}(e:p.1=k):fV (p::r) k=aa p.2:=by simp[fV,iZ,e]
theorem sI{p:κ×V}{r:List (κ×V)}{k:κ}(e:¬p.1=k):fV (p::r) k=fV r k:=by simp[fV,iZ,e]
theorem Ff(k:κ):∀a:List (κ×V),(a.any λb=>decide (b.1=k))=(fV a k).isSome
 |[]=>rfl
 |p::r=>by
  rw[qV];by_cases e:p.1=k
  .simp only[sU e,decide_eq_true e,Bool.true_or,Option.isSome_some]
  .rw[sI e,decide_eq_false e,Bool.false_or];exact Ff k r
theorem Cq(a:List (κ×V))(k:κ)(v:V):(iy a k v).length<=a.length+1:=by
 unfold iy;split
 .rw[cn];lia
 .rw[cQ,eh,j_];lia
theorem nQ.isSome_eq{o:Option V}{u:Option ai}(r:nQ o u):o.isSome=u.isSome:=by
 cases o with
 |none=>cases u with
  |none=>rfl
  |some _=>exact(show False from r).elim
 |some _=>cases u with
  |none=>exact(show False from r).elim
  |some _=>rfl
theorem nQ.getD{o:Option V}{u:Option ai}{d:V}{a:ai}(r:nQ o u)(rd:RelV d a):RelV (o.getD d) (u.getD a):=by
 cases o with
 |none=>cases u with
  |none=>exact rd
  |some _=>exact(show False from r).elim
 |some _=>cases u with
  |none=>exact(show False from r).elim
  |some _=>exact r
theorem KV.val{a:List (κ×V)}{d:List (κ×ai)}(r:KV a d)(k:κ):nQ (fV a k) (tT d k):=by
 unfold KV at r
 induction r with
 |nil=>exact True.intro
 |@cons p q ps qs h t ih=>
  obtain⟨f,g⟩:=h;by_cases e:p.1=k
  .have c:q.1=k:=f.symm.trans e;have b:tT (q::qs) k=aa q.2:=by simp[tT,iZ,c]
   rw[sU e,b];exact g
  .have c:¬q.1=k:=λz=>e (f.trans z);have b:tT (q::qs) k=tT qs k:=by simp[tT,iZ,c]
   rw[sI e,b];exact ih
theorem KV.any{a:List (κ×V)}{c:List (κ×ai)}(r:KV a c)(k:κ):(a.any λb=>decide (b.1=k))=c.any λb=>decide (b.1=k):=by
 unfold KV at r
 induction r with
 |nil=>rfl
 |cons h t d=>rw[qV,qV,d,h.1]
theorem KV.repl{b:List (κ×V)}{d:List (κ×ai)}(r:KV b d)(k:κ){y:V}{u:ai}(f:RelV y u):KV (b.map λa=>if a.1=k then(a.1,y)else a) (d.map λa=>if a.1=k then(a.1,u)else a):=by
 unfold KV at r ⊢
 induction r with
 |nil=>exact .nil
 |@cons p q ps qs h t ih=>
  rw[cu,cu];refine .cons ?_ ih;obtain⟨c,g⟩:=h;by_cases e:p.1=k
  .rw[if_pos e,if_pos (c.symm.trans e)];exact⟨c,f⟩
  .rw[if_neg e,if_neg (λz=>e (c.trans z))];exact⟨c,g⟩
theorem KV.put{a:List (κ×V)}{b:List (κ×ai)}(r:KV a b)(k:κ){y:V}{u:ai}(c:RelV y u):KV (iy a k y) (stored b k u):=by
 unfold iy stored;rw[r.any k];by_cases e:(b.any λd=>decide (d.1=k))=ah
 .rw[if_pos e,if_pos e];exact r.repl k c
 .rw[if_neg e,if_neg e];exact zu r ⟨rfl,c⟩
theorem KV.length{a:List (κ×V)}{vs:List (κ×ai)}(r:KV a vs):a.length=vs.length:=CF r
end
theorem qL{P:aS}{w:aG}{k:aD}{u:ai}(r:RelV (kV k) u):(gU P w).is k u=ah:=by
 cases k with
 |inl i=>obtain⟨t,e⟩:=(show ∃t,u=Value.int i t from r);subst e;exact KC P w i t
 |inr x=>obtain⟨t,e⟩:=(show ∃t,u=Value.str x t from r);subst e;exact MU P w x t
theorem E8{P:aS}{w:aG}:∀{ks:List aD}{a:List ai},bt (ks.map kV) a->ItemsAre (gU P w) ks a
 |[],_,r=>by rw[vX]at r;cases r;exact .nil
 |k::ks,_,r=>by
  rw[cu]at r;cases r with
  |cons h t=>exact .cons (qL h) (E8 t)
abbrev KT(H:Hp):List (List aD×V)->List (List aD×ag×ai)->Prop:=kC λp q=>p.1=q.1/\H q.2.1=aa (.tup (p.1.map kV))/\RelV p.2 q.2.2
theorem KT.val{H:Hp}{a:List (List aD×V)}{xs:List (List aD×ag×ai)}(r:KT H a xs)(k:List aD):nQ (fV a k) ((atKey xs k).map (·.2)):=by
 induction r with
 |nil=>exact True.intro
 |@cons p q ps qs h t ih=>
  obtain⟨d,_,f⟩:=h;by_cases e:p.1=k
  .have c:q.1=k:=d.symm.trans e;have b:atKey (q::qs) k=aa q.2:=by simp[atKey,iZ,c]
   rw[sU e,b];exact f
  .have c:¬q.1=k:=λz=>e (d.trans z);have b:atKey (q::qs) k=atKey qs k:=by simp[atKey,iZ,c]
   rw[sI e,b];exact ih
theorem KT.repl{H:Hp}{a:List (List aD×V)}{xs:List (List aD×ag×ai)}(r:KT H a xs)(k:List aD){y:V}{u:ai}(f:RelV y u):KT H (a.map λc=>if c.1=k then(c.1,y)else c) (xs.map (putAt k u)):=by
 induction r with
 |nil=>exact .nil
 |@cons p q ps qs h t ih=>
  rw[cu,cu];refine .cons ?_ ih;obtain⟨b,d,g⟩:=h;unfold putAt;by_cases e:p.1=k
  .rw[if_pos e,if_pos (b.symm.trans e)];exact⟨b,d,f⟩
  .rw[if_neg e,if_neg (λz=>e (b.trans z))];exact⟨b,d,g⟩
theorem KT.put{H:Hp}{a:List (List aD×V)}{xs:List (List aD×ag×ai)}(r:KT H a xs)(k:List aD){b:ag}{y:V}{u:ai}(f:H b=aa (.tup (k.map kV)))(c:RelV y u):KT H (iy a k y) (storedH xs k b u):=by
 have e:(a.any λd=>decide (d.1=k))=(atKey xs k).isSome:=by rw[Ff,(r.val k).isSome_eq,vY]
 unfold iy storedH;rw[e];by_cases q:(atKey xs k).isSome=ah
 .rw[if_pos q,if_pos q];exact r.repl k c
 .rw[if_neg q,if_neg q];exact zu r ⟨rfl,f,c⟩
theorem KT.keeps{H d:Hp}{a:List (List aD×V)}{xs:List (List aD×ag×ai)}(r:KT H a xs)(f:∀b c,H b=aa (.tup c)->d b=aa (.tup c)):KT d a xs :=Paired.mapP r λ_ _ z=>⟨z.1,f _ _ z.2.1,z.2.2⟩
section
variable{P:aS}{w:aG}{H:Hp}{h:aB}{a:ag}
theorem Hu{u:HO}(ok:dz P w H h)(e:Rd H a u):cz P w H h a u:=e.ok ok
theorem ph{b:List (aD×V)}(ok:dz P w H h)(e:Rd H a (.dK b)):b.length<=bd/\(a == j8)=aj/\∃c,KV b c/\h.DictOf (gU P w) a c :=show cz P w H h a (.dK b)from Hu ok e
theorem yy{b:List (aD×V)}(ok:dz P w H h)(e:H a=aa (.dK b)):b.length<=bd/\(a == j8)=aj/\∃c,KV b c/\h.DictOf (gU P w) a c:=ph ok (.inl e)
theorem sV{ks:List aD}(ok:dz P w H h)(e:H a=aa (.tup (ks.map kV))):(vN (gU P w)).is h ks a:=by
 obtain⟨_,b,r,⟨o,f,d,n,c⟩,_⟩:=(show cz P w H h a (.tup (ks.map kV))from ok a _ e)
 exact⟨o,b.toArray,n,f,d,c,by simpa using E8 r⟩
theorem qH{b:List (List aD×V)}(ok:dz P w H h)(e:Rd H a (.dT b)):b.length<=bd/\(a == j8)=aj /\ ∃xs,KT H b xs/\h.DictOfH (vN (gU P w)) a xs:=by
 obtain⟨z,y,xs,r,o,n,s,j,i,g,f,d⟩:=(show cz P w H h a (.dT b)from Hu ok e)
 refine⟨z,y,xs,r,o,n,s,j,i,g,f,λx c=>?_,d⟩;have all:∀{l:List (List aD×V)}{m:List (List aD×ag×ai)},KT H l m->∀x∈m,(vN (gU P w)).is h x.1 x.2.1:=by
  intro l m q
  induction q with
  |nil=>intro x c;exact nomatch c
  |@cons p q ps qs hq t ih=>
   intro x c;rcases bC.mp c with e|c
   .subst e;exact sV ok (by rw[<-hq.1];exact hq.2.1)
   .exact ih x c
 exact all r x c
theorem Lc{b:List (List aD×V)}(ok:dz P w H h)(e:H a=aa (.dT b)):b.length<=bd/\(a == j8)=aj /\ ∃xs,KT H b xs/\h.DictOfH (vN (gU P w)) a xs:=qH ok (.inl e)
end
def lp(H:Hp)(a:ag)(y:V)(r:Option V):Prop :=(∃c k,Rd H a (.dK c)/\y=kV k/\r=fV c k)\/∃c k b,Rd H a (.dT c)/\y=.ref b/\H b=aa (.tup (k.map kV))/\r=fV c k
def CB(H:Hp)(a:ag)(y v:V)(d:Hp):Prop :=
 (∃c k,H a=aa (.dK c)/\y=kV k/\c.length<bd/\d=upd H a (.dK (iy c k v))) \/
 ∃c k b,H a=aa (.dT c)/\y=.ref b/\H b=aa (.tup (k.map kV))/\c.length<bd/\d=upd H a (.dT (iy c k v))
theorem lp.k{H:Hp}{a:ag}{b:List (aD×V)}{k:aD}(e:H a=aa (.dK b)):lp H a (kV k) (fV b k):=.inl ⟨b,k,.inl e,rfl,rfl⟩
theorem CB.k{H:Hp}{a:ag}{b:List (aD×V)}{k:aD}{v:V}(e:H a=aa (.dK b))(c:b.length<bd):CB H a (kV k) v (upd H a (.dK (iy b k v))):=.inl ⟨b,k,e,rfl,c,rfl⟩
section
variable{X:Cx}{f:List (ag×Obj)}{d:St}{H:Hp}{s:am}{a:ag}{y v:V}{u r:ai}{o:Option V}{A:aV}{E:ai->am->Prop}
theorem Inv.big(I:Inv X f d H s):j8<s.heap.objs.size:=by have h:bU<s.heap.objs.size:=(I.mod.glob.keeps I.bk).lt;exact CY (by decide) h
theorem OC{Q:ai->am->Prop}(x:A.units+1<cLine)(I:Inv X f d H s)(g:lp H a y (aa v))(t:RelV y u)(h:∀j q,Inv X f d H q->RelV v j->Q j q):au (ax X.prog X.w) A (qU (.ref a) u) Q E s:=by
 rcases g with⟨kvs,k,e,ey,l⟩|⟨kvs,k,b,e,ey,eb,l⟩
 .subst ey;obtain⟨z,C,w,i,n⟩:=ph I.hok e;obtain⟨j,m,c⟩:=nQ.some_of (v:=v) (o:=tT w k) (by rw[l];exact i.val k);exact wpAny_getItem_of (qL t) n.mapOf m (h j _ (I.tok _) c)
 .subst ey;cases (show u=Value.ref b from t);obtain⟨z,C,xs,i,n⟩:=qH I.hok e;obtain⟨j,m,c⟩:=nQ.some_of (v:=v) (o:=(atKey xs k).map (·.2)) (by rw[l];exact i.val k);obtain⟨p,B,D⟩:=mF.mp m;refine wpAny_getItem_heap (zv x) (sV I.hok eb) n B ?_;rw[D];exact h j _ (I.tok _) c
theorem TW{Q:ai->am->Prop}(p:A.units+1<cLine)(I:Inv X f d H s)(g:lp H a y o)(n:RelV y u)(h:∀m,Inv X f d H m->Q (.bool o.isSome) m):au (ax X.prog X.w) A (eJ .In u (.ref a)) Q E s:=by
 rcases g with⟨kvs,k,e,ey,l⟩|⟨kvs,k,b,e,ey,eb,l⟩
 .subst ey;obtain⟨z,i,t,c,j⟩:=ph I.hok e;refine wpAny_in_of (qL n) i j.mapOf ?_;rw[<-(c.val k).isSome_eq,<-l];exact h _ (I.tok _)
 .subst ey;cases (show u=Value.ref b from n);obtain⟨z,i,xs,c,j⟩:=qH I.hok e;refine wpAny_in_heap (zv p) (sV I.hok eb) i j ?_;have q:=(c.val k).isSome_eq;rw[vY]at q;rw[<-q,<-l];exact h _ (I.tok _)
theorem Rx{Q:ai->am->Prop}(p:A.units+1<cLine)(I:Inv X f d H s)(g:lp H a y o)(n:RelV y u)(h:∀m,Inv X f d H m->Q (.bool (!o.isSome)) m):au (ax X.prog X.w) A (eJ .NotIn u (.ref a)) Q E s:=by
 rcases g with⟨kvs,k,e,ey,l⟩|⟨kvs,k,b,e,ey,eb,l⟩
 .subst ey;obtain⟨z,i,t,c,j⟩:=ph I.hok e;refine wpAny_notIn_of (qL n) i j.mapOf ?_;rw[<-(c.val k).isSome_eq,<-l];exact h _ (I.tok _)
 .subst ey;cases (show u=Value.ref b from n);obtain⟨z,i,xs,c,j⟩:=qH I.hok e;refine wpAny_notIn_heap (zv p) (sV I.hok eb) i j ?_;have q:=(c.val k).isSome_eq;rw[vY]at q;rw[<-q,<-l];exact h _ (I.tok _)
theorem xD{h':aB}{t':Nat}{ob:HO}(I:Inv X f d H s)(c:uQ (H a))(g:k9 a s.heap h')(h:∃q,h'.get? a=aa q)(new:cz X.prog X.w (upd H a ob) h' a ob):Inv X f d (upd H a ob) {s with heap:=h',toks:=t'} :=I.write (x:=a) (e:=a) c (.inl rfl) (λb q i z=>(g.2 b i).trans z) h new
theorem Et{P:aS}{w:aG}{j:Hp}{h':aB}{b:List (aD×V)}{c:List (aD×ai)}(z:b.length<=bd)(h:(a == j8)=aj)(g:KV b c)(i:h'.DictOf (gU P w) a c):cz P w j h' a (.dK b):=⟨z,h,c,g,i⟩
theorem M7{J:Hp}{Q:Unit->am->Prop}(L:A.units+1<cLine)(I:Inv X f d H s)(g:CB H a y v J)(C:RelV y u)(D:RelV v r)(h:∀B,Inv X f d J B->Q () B):au (ax X.prog X.w) A (setItem (.ref a) u r) Q E s:=by
 rcases g with⟨kvs,k,e,ey,l,eH⟩|⟨kvs,k,b,e,ey,eb,l,eH⟩
 .subst ey eH;obtain⟨z,w,K,i,x⟩:=yy I.hok e;have n:K.length<=bd:=by rw[<-i.length];exact z
  have t:(iy kvs k v).length<=bd:=by have:=Cq kvs k v;lia
  refine wpAny_setItem_pairs (hsz:=n) (qL C) x λF j p=>h _ ?_;have M:∃q,F.get? a=aa q:=let ⟨q,_,_,m,_⟩:=j;⟨q,m⟩
  exact xD I (by rw[e];exact True.intro) p M (Et t w (i.put k D) j)
 .subst ey eH;cases (show u=Value.ref b from C);obtain⟨z,w,xs,i,x⟩:=Lc I.hok e;have n:xs.length<=bd:=by rw[<-CF i];exact z
  have t:(iy kvs k v).length<=bd:=by have:=Cq kvs k v;lia
  refine wpAny_setItem_heap (hsz:=n) (zv L) (sV I.hok eb) x λF j p=>h _ ?_;obtain⟨q,T,W,m,S,P,O,_,N⟩:=j;refine xD I (by rw[e];exact True.intro) p ⟨q,m⟩ ⟨t,w,_,(i.put k eb D).keeps λc Y G=>?_,q,T,W,m,S,P,O,N⟩;rw[br (Em G e (λz=>nomatch z))];exact G
end
section
variable{X:Cx}{d:List (ag×Obj)}{c:St}{H:Hp}{s:am}{a:ag}{b:List (aD×V)}{k:aD}{u:ai}{A:aV}{E:ai->am->Prop}
theorem Sm{Q:ai->am->Prop}(I:Inv X d c H s)(e:Rd H a (.dK b))(h:∀t g,Inv X d c H g->Q (.int b.length t) g):au (ax X.prog X.w) A (call (.builtin "len") [.ref a]) Q E s:=by obtain⟨z,i,l,f,j⟩:=ph I.hok e;refine call_len_dict i j (by rw[<-f.length];rw[k_]at z;lia) ?_;rw[<-f.length];exact h _ _ (I.tok _)
end
def u5(i:az):Prop:=∀ov a,CT i aj ov a=operate [ov,a] (qU ov a)
theorem Ie{a:aS}{w:aG}{A:aV}{E:ai->am->Prop}{s:am}{m:Env}{c b:az}{q:Pos}{T u:String}{Q:ai->am->Prop}(y:typeLookup (.type T) "__getitem__"=pure (aa (.builtin u))) (v:u5 b)(h:au (ax a w) A (aL c m) (λo j=>au (ax a w) A (aL b m) (λi d=>d.TypeIs o T/\au (ax a w) A (qU o i) Q E d) E j) E s):au (ax a w) A (aL (.Subscript c b q) m) Q E s:=by
 refine Subscript_ (eG h (λo j p=>eG p (λi d f=>?_) λ_ _ x=>x) λ_ _ x=>x);obtain⟨t,f⟩:=f;unfold subscriptTail;refine ar ?_;rw[getitemInPython_of_ne t.not_modules];refine ar (zw t y ?_);have l:au (ax a w) A (CT b aj o i) (λr g=>au (ax a w) A (letTemporaryGo c o r >>= λ_=>pure r) Q E g) E d:=by rw[v o i];exact wpAny_operating (eG f (λr g n=>ar (wpAny_letTemporaryGo (aI n))) λ_ _ x=>x)
 first
  |exact aI (ar l)
  |exact ar (aI (ar l))
  |exact ar l
theorem Op{X:Cx}{f:List (ag×Obj)}{d:St}{H:Hp}{s:am}{a:ag}{y:V}{o:Option V}(I:Inv X f d H s)(g:lp H a y o):s.TypeIs (.ref a) "dict":=by
 rcases g with⟨kvs,k,e,_,_⟩|⟨kvs,k,b,e,_,_,_⟩
 .obtain⟨_,_,h,_,c⟩:=ph I.hok e;exact c.typeIs
 .obtain⟨_,_,xs,_,c⟩:=qH I.hok e;exact c.typeIs
def MD(d ty:TE):TE:=λb H Q=>d b H λx f=>ty b f λy c=>∃a v,x=.ref a/\lp c a y (aa v)/\Q v c
def Tf(ty d:TE):TE:=λb H Q=>ty b H λy f=>d b f λx c=>∃a o,x=.ref a/\lp c a y o/\Q (.bl o.isSome) c
def Mv(ty d:TE):TE:=λb H Q=>ty b H λy f=>d b f λx c=>∃a o,x=.ref a/\lp c a y o/\Q (.bl (!o.isSome)) c
def Ms(f ty d:TE):TS:=λD b H=>d b H λv i=>f b i λx h=>ty b h λy g=>∃a c,x=.ref a/\CB g a y v c/\D.nx b c
section
variable{X:Cx}{o i e b:az}{j f m:Pos}{d c l:TE}
theorem Kk(C:X.A.units+1<cLine)(E:PE X o d)(F:PE X i c)(D:u5 i):PE X (.Subscript o i j) (MD d c):=by intro q s p H Q I h;refine Ie PySem.F.slot_dict_getitem.lookup D (aM (E q s p H _ I h) λu t ⟨x,M,K,z,B⟩=>aM (F q t p M _ K B) λS P ζ=>?_);obtain⟨y,L,r,w,a,v,G,g,A⟩:=ζ;subst G;obtain rfl:u=Value.ref a:=z;exact⟨Op r g,OC C r g w λN O J n=>⟨v,L,J,n,A⟩⟩
theorem OL(z:X.A.units+1<cLine)(B:PE X i c)(A:PE X o d):PC X .In i o (Tf c d):=by intro p s n H Q I h;refine aM (B p s n H _ I h) λM q ⟨y,J,F,r,w⟩=>aM (A p q n J _ F w) λu L ζ=>?_;obtain⟨x,G,E,t,a,ov,C,g,v⟩:=ζ;subst C;obtain rfl:u=Value.ref a:=t;exact TW z E g r λK D=>⟨.bl ov.isSome,G,D,rfl,v⟩
theorem QW(z:X.A.units+1<cLine)(B:PE X i c)(A:PE X o d):PC X .NotIn i o (Mv c d):=by intro p s n H Q I h;refine aM (B p s n H _ I h) λM q ⟨y,J,F,r,w⟩=>aM (A p q n J _ F w) λu L ζ=>?_;obtain⟨x,G,E,t,a,ov,C,g,v⟩:=ζ;subst C;obtain rfl:u=Value.ref a:=t;exact Rx z E g r λK D=>⟨.bl (!ov.isSome),G,D,rfl,v⟩
theorem LR(G:X.A.units+1<cLine)(K:PE X o d)(L:PE X i c)(F:PE X b l)(J:kD b (aa (.Subscript o i f)) j.line X.env=pure aj):PS X (.Assign [.Subscript o i f] b j) (Ms d c l):=by intro p s n H D I h;refine wpAny_Assign_Subscript (aM (F p s n H _ I h) λr t ⟨v,W,Q,A,E⟩=>aM (K p t n W _ Q E) λu q ⟨x,T,P,z,C⟩=>aM (L p q n T _ P C) λiv Z ⟨y,H3,O,w,a,S,M,g,B⟩=>?_) J;subst M;obtain rfl:u=Value.ref a:=z;exact M7 G O g w A λY N=>⟨n,S,N,B⟩
end
theorem FI{P:aS}{w:aG}{H:Hp}(h:aB)(a:j8<h.objs.size):cz P w H (h.push {cls:=.type "dict",data:=.dict #[]}) h.objs.size (.dK []) :=⟨jO _,beq_eq_false_iff_ne.mpr (ef (c8 a)),[],.nil,Heap.DictOf.new h⟩
theorem Pf{P:aS}{w:aG}{H:Hp}(h:aB)(a:j8<h.objs.size):cz P w H (h.push {cls:=.type "dict",data:=.dict #[]}) h.objs.size (.dT []) :=⟨jO _,beq_eq_false_iff_ne.mpr (ef (c8 a)),[],.nil,_,#[],0,cI _ rfl,⟨rfl,rfl,rfl⟩,rfl,rfl,List.nodup_nil⟩
def Qz:TE:=λ_ H Q=>∀p,H p=ae->Q (.ref p) (upd H p (.dK []))
section
variable{X:Cx}{b:Pos}
theorem MV:PE X (.Dict [] [] b) Qz:=λd s c H Q I h=>wpAny_Dict_empty ⟨.ref s.heap.objs.size,_,I.laid (a:=s.heap.objs.size) (o:=.dK []) (t':=s.toks) (λ_ _ q=>bu _ q) (a9 _) (FI s.heap I.big),rfl,h _ (I.hok.fresh (a9 _))⟩
end
def Bj:List (TE×TE)->St->Hp->(List (V×V)->Hp->Prop)->Prop
 |[],_,H,Q=>Q [] H
 | (c,b)::r,a,H,Q=>c a H λx h=>b a h λy g=>Bj r a g λd f=>Q ((x,y)::d) f
abbrev VV:List (V×V)->List (ai×ai)->Prop:=kC λp q=>RelV p.1 q.1/\RelV p.2 q.2
def yH(X:Cx)(f:Pos)(b:List (Option az))(a:List az)(d:List (TE×TE)):Prop :=
 ∀(h:List (ag×Obj)) (s:am) (c:St) (H:Hp) (Q:List (V×V)->Hp->Prop),Inv X h c H s->Bj d c H Q ->
  au (ax X.prog X.w) X.A (evalPairs (pairTrees b a X.env f)) (λj l=>∃g i,Inv X h c i l/\VV g j/\Q g i) X.xe s
theorem SJ{X:Cx}{a:Pos}:yH X a [] [] []:=λc s b H Q I h=>pairTrees_nil_walk ⟨[],H,I,.nil,h⟩
theorem Pl{X:Cx}{b:Pos}{k v:az}{ks:List (Option az)}{g:List az}{j i:TE}{a:List (TE×TE)}(A:PE X k j)(w:PE X v i)(z:yH X b ks g a):yH X b (aa k::ks) (v::g) ((j,i)::a):=λf s c H Q I h=>pairTrees_cons_walk (aM (A f s c H _ I h) λu m ⟨x,G,D,o,r⟩=>aM (w f m c G _ D r) λK l ⟨y,F,C,n,q⟩=>aM (z f l c F _ C q) λJ L ⟨t,E,B,d,p⟩=>⟨(x,y)::t,E,B,.cons ⟨o,n⟩ d,p⟩)
def tF(a more:List (aD×V)):List (aD×V):=more.foldl (λc b=>iy c b.1 b.2) a
theorem KV.merge:∀{more:List (aD×V)}{c:List (aD×ai)}{a:List (aD×V)}{b:List (aD×ai)},KV more c->KV a b->KV (tF a more) (merged b c):=by
 intro more c a b r;unfold KV at r
 induction r generalizing a b with
 |nil=>intro q;exact q
 |@cons p q ps qs h t ih=>
  intro d;have e:KV (iy a p.1 p.2) (stored b q.1 q.2):=by have:=d.put p.1 h.2;rw[<-h.1];exact this
  exact ih e
theorem Ht:∀(more a:List (aD×V)),(tF a more).length<=a.length+more.length
 |[],a=>by show a.length<=a.length+0;lia
 |p::r,a=>by have c:=Ht r (iy a p.1 p.2);have b:=Cq a p.1 p.2;show(tF (iy a p.1 p.2) r).length<=_;rw[eh];lia
theorem ED{P:aS}{w:aG}:∀{d:List (aD×V)}{g:List (ai×ai)},VV (d.map λi=>(kV i.1,i.2)) g->∃f,Carries (gU P w) g f/\KV d f
 |[],_,r=>by rw[vX]at r;cases r;exact⟨[],True.intro,.nil⟩
 |p::d,_,r=>by
  rw[cu]at r;cases r with
  |@cons a b as bs h t=>obtain⟨f,c,q⟩:=ED (P:=P) (w:=w) t;obtain⟨b1,b2⟩:=b;exact⟨(p.1,b2)::f,⟨qL h.1,rfl,c⟩,.cons ⟨rfl,h.2⟩ q⟩
def TM(b:List (TE×TE)):TE:=λf H Q=>∀p,H p=ae->Bj b f (upd H p (.dK [])) λg d=>d p=aa (.dK [])/\∃a:List (aD×V),g=a.map (λc=>(kV c.1,c.2))/\a.length<=15/\Q (.ref p) (upd d p (.dK (tF [] a)))
theorem Lx{X:Cx}{g:Pos}{b:List (Option az)}{d:List az}{f:List (TE×TE)}(h:yH X g b d f)(y:b.all (·.isSome)=ah)(D:b.length=d.length)(J:b≠[])(m:b.length<=15):PE X (.Dict b d g) (TM f):=by
 intro M s p H Q I q;have C:=I.hok.fresh (a9 s.heap.objs.size);have N:=I.laid (a:=s.heap.objs.size) (o:=.dK []) (h':=s.heap.push {cls:=.type "dict",data:=.dict #[]}) (t':=s.toks) (λ_ _ q=>bu _ q) (a9 _) (FI s.heap I.big);refine wpAny_Dict_walk (knd:=gU X.prog X.w) y D J m (aM (h M _ p _ _ N (q _ C)) λO S ζ=>?_);obtain⟨T,Y,n,l,e,i,K,W,x⟩:=ζ;subst K;obtain⟨t,c,u⟩:=ED (P:=X.prog) (w:=X.w) l;obtain⟨z,F,r,v,L⟩:=yy n.hok e;cases v;refine⟨t,c,L,λh' j B=>⟨.ref s.heap.objs.size,_,?_,rfl,x⟩⟩;have A:(tF [] i).length<=bd:=by have G:=Ht i [];rw[j_]at G;rw[k_];lia
 have E:∃q,h'.get? s.heap.objs.size=aa q:=let ⟨q,_,_,hq,_⟩:=j;⟨q,hq⟩
 exact xD n (by rw[e];exact True.intro) B E (Et A F (u.merge .nil) j)
structure M2(X:Cx)(o:az)(m:Str)(apos:Pos)(e f:az)(cpos:Pos):Prop where
 base:j9 o m X.env (aL o X.env)=aL o X.env
 few:((c_ cpos (aN [e,f] X.env)).all (λx=>!x.1)&&(qW cpos (qX [] X.env)).all (λx=>x.1.isSome)&&decide (([e,f]:List az).length+([]:List jN).length+(if([]:List jN).isEmpty then 0 else 1)<30))=ah
 line:(apos.endLine == cpos.line)=ah
 trees:c_ cpos (aN [e,f] X.env)=[(aj,aL e X.env),(aj,aL f X.env)]
def E4(H:Hp)(a:ag):Prop:=(∃b,Rd H a (.dK b))\/∃b,Rd H a (.dT b)
theorem PZ{X:Cx}{l:List (ag×Obj)}{j:St}{H:Hp}{s:am}{a:ag}(I:Inv X l j H s)(d:E4 H a):s.TypeIs (.ref a) "dict"/\(∀b,Value.ref a=.ref b->∃c,s.heap.get? b=aa c/\c.dict=ae)/\(a == j8)=aj:=by
 rcases d with⟨kvs,e⟩|⟨kvs,e⟩
 .obtain⟨_,g,m,_,f⟩:=ph I.hok e;refine⟨f.typeIs,λb q=>?_,g⟩;cases q;obtain⟨c,_,_,i,h,_⟩:=f;exact⟨c,i,h.2.1⟩
 .obtain⟨_,g,xs,_,f⟩:=qH I.hok e;refine⟨f.typeIs,λb q=>?_,g⟩;cases q;obtain⟨c,_,_,i,h,_⟩:=f;exact⟨c,i,h.2.1⟩
section
variable{X:Cx}{f:List (ag×Obj)}{c:St}{H:Hp}{s:am}{a:ag}{y d:V}{u r:ai}{o:Option V}{A:aV}{E:ai->am->Prop}
theorem Ml{Q:ai->am->Prop}(t:A.units+1<cLine)(I:Inv X f c H s)(g:lp H a y o)(q:RelV y u)(rd:RelV d r)(h:∀n p,Inv X f c H p->RelV (o.getD d) n->Q n p):au (ax X.prog X.w) A (call (.builtin "dict.get") [.ref a,u,r]) Q E s:=by
 rcases g with⟨kvs,k,e,ey,l⟩|⟨kvs,k,b,e,ey,eb,l⟩
 .subst ey;obtain⟨z,m,v,i,j⟩:=ph I.hok e;refine call_meetsIn Jf j.typeIs PySem.F.entry_dict_get (PySem.F.args_dict_get_3 _ _ _) (meets_dict_get_default (gU X.prog X.w) a (qL q) m r) ⟨_,j.mapOf,h _ _ (I.tok _) ?_⟩;rw[l];exact(i.val k).getD rd
 .subst ey;cases (show u=Value.ref b from q);obtain⟨z,m,xs,i,j⟩:=qH I.hok e;refine call_meetsIn Jf j.typeIs PySem.F.entry_dict_get (PySem.F.args_dict_get_3 _ _ _) (meetsH_dict_get_default (vN (gU X.prog X.w)) a b m r) ⟨zv t,k,xs,sV I.hok eb,j,h _ _ (I.tok _) ?_⟩;rw[l];exact(i.val k).getD rd
end
def Rm(g ty f:TE):TE:=λb H Q=>g b H λx d=>∃a,x=.ref a/\E4 d a/\ty b d λy h=>f b h λz c=>∃o,lp c a y o/\Q (o.getD z) c
section
variable{X:Cx}{o e f:az}{c b:Pos}{l i j:TE}
theorem M0(J:X.A.units+1<cLine)(K:PE X o l)(M:PE X e i)(L:PE X f j)(m:M2 X o "get" c e f b):PE X (.Call (.Attribute o "get" c) [e,f] [] b) (Rm l i j):=by intro q s n H Q I h;refine wpAny_Call_method m.base m.few m.line Jg Jf PySem.F.type_dict_get (aM (K q s n H _ I h) λu A ζ=>?_);obtain⟨x,Y,r,D,a,N,d,G⟩:=ζ;subst N;obtain rfl:u=Value.ref a:=D;obtain⟨v,t,_⟩:=PZ r d;refine⟨v,t,?_⟩;rw[m.trees];refine CU rfl (CV (tK (aM (M q A n Y _ r G) λiv w ⟨y,W,S,C,F⟩=>tK (aM (L q w n W _ S F) λfv s3 ⟨z,T,P,B,ov,g,E⟩=>zq ?_))));exact Ml J P g C B λZ s4 O p=>⟨_,T,O,p,E⟩
end
end L2
namespace Att
open PySem PySem.W PySem.Calls PyProof.Rows
theorem Sn{P:Params}{h:aB}:∀(c:List Int) (d:List ai),WellAll P h d (c.map WData.int)->IntsAre d c:=by
 intro c
 induction c with
 |nil=>
  intro d w;rw[vX]at w;cases w;exact .nil
 |cons n c f=>
  intro d w;rw[cu]at w;cases w with
  |cons a b=>
   cases a;exact .cons _ _ (f _ b)
theorem TU{l:OpenLaw}{n:Nat}(x:l.most=aa n){P:Params}{h:aB}{args:List WData}{c:List ai}(m:l.row.toRowW.claim.pre args=ah) (i:WellAll P h c args):∃a o b,c=[Value.ref a]/\args=[WData.list (b.map WData.int)]/\h.get? a=aa {cls:=.type "list",data:=.seq o.toArray}/\IntsAre o b/\b.length<=n:=by
 have j:WShape.hasAll [] args [.list .int]=ah:=(pre_splitW m).1;have p:l.pre.holds [] {args:=args}=ah:=(pre_splitW m).2;obtain⟨d,r,rfl,A,z⟩:=hasAllW_cons j;obtain rfl:=hasAllW_nil z;obtain⟨xs,rfl,y⟩:=hasW_list A;obtain⟨b,rfl⟩:=items_int y;have B:b.length<=n:=by
  unfold OpenLaw.pre at p;have g:(WTm.not (.lt (.lit (.int (n:Int))) (.len (.arg 0)))).holds [] {args:=[.list (b.map .int)]}=ah:=by have g:=(holds_andW p).1;rw[x]at g;exact g
  have f:=condW_of g (w_not (w_lt w_lit (w_len_list (w_arg rfl))));rw[cn]at f;refine Nat.le_of_not_lt λq=>?_;have u:(n:Int)<((b.length:Nat):Int):=∅
  first
   | (rw[decide_eq_true u]at f;exact absurd f (by decide))
   | (simp at f;lia)
 cases i with
 |cons t s=>
  cases s;cases t with
  |list w v=>exact⟨_,_,b,rfl,rfl,w,Sn b _ v,B⟩
theorem Pz(l:OpenLaw)(args:List WData):l.row.toRowW.claim.post args (.bool ah) args=ah :=
 postW_of (r:=l.row.toRowW) (X:=(ah == ah))
  (show WShape.has [] (.bool ah) .bool=ah by first|rfl|decide|simp[WShape.has,WShape.arms,WShape.armsAll])
  (show(WTm.eq .res (.lit (.bool ah))).value [] {args:=args,res:=aa (.bool ah),after:=args}=aa (.bool (ah == ah))from w_eq_bool (w_res rfl) w_lit) rfl
theorem attach_call{l:OpenLaw}{n:Nat}{q:aS}{g:List Str}{XP:(Str->Option ai)->aB->Prop}{C:aG->aB->Prop}{d:DefRec}(K:l.most=aa n) (F:d.params.defaults=[])(call:∀(w:aG) (c b:am) (s v:Str->Option ai) (j:ag) (o:Obj) (u t h:ai) (a:ag) (i:List ai) (p:List Int),Ground q g [] XP w c s v b.heap->C w b.heap -> b.heap.get? j=aa o->o.data=.func (docDef d.name d.params d.body d.scope u t h)->b.heap.CodeRec t d.name->s d.name=aa (.ref j) -> b.heap.get? a=aa {cls:=.type "list",data:=.seq i.toArray}->IntsAre i p->p.length<=n->b.gens=#[] -> lO (ax l.prog w) tU (.call (.ref j) ⟨[.ref a],[]⟩) (λr m=>r=.ok (.ret (.bool ah))/\OldK b.heap m.heap/\m.os=b.os/\nV m.gens) b):WalkO q g XP C l.row.toRowW d [] (λf i=>PySem.call f i):=by intro w c b s v G Y j o u t h dV kV J O T A E N B y as D z H x M;obtain rfl:dV=.none:=Dflts.none A F;obtain rfl:kV=.none:=Dflts.noKw A;obtain⟨a,i,p,rfl,rfl,X,Z,W⟩:=TU K D x;refine enter_call (n8 (call w c b s v j o u t h a i p G Y J (fd_plain O) T E X Z W N) λr m I=>?_);obtain⟨rfl,S,Q,P⟩:=I;exact⟨.inl ⟨.bool ah,.bool ah,[],rfl,λ_=>rfl,.bool ah,Pz l _,λ_=>⟨List.Pairwise.nil,λ_ L=>(nomatch L)⟩⟩,S,Q,P⟩
end Att
namespace L2
theorem Ac{a:List ai}{b:List Int}(h:IntsAre a b):bt (b.map V.int) a:=by
 induction h with
 |nil=>exact .nil
 |cons n t _ g=>exact .cons ⟨t,rfl⟩ g
def B5(H:Hp):Prop:=∀b,H b=ae\/(∃o xs,H b=aa (.frz o (.lst xs)))\/∃q,H b=aa (.tbl q)
def kn(K:ay):Hp:=λb=>match lJ K "least_ending" with
 |some (_,P)=>if b=P then aa (.tbl "least_ending.<locals>.<lambda>")else ae
 |none=>ae
theorem qz{K:ay}{b:ag}{u:HO}(h:kn K b=aa u):u=.tbl "least_ending.<locals>.<lambda>"/\∃c,lJ K "least_ending"=aa (c,b):=by
 unfold kn at h;split at h
 .rename_i c P e;split at h
  .rename_i a;subst a;cases h;exact⟨rfl,c,e⟩
  .cases h
 .cases h
theorem E9{K:ay}{c P:ag}(h:lJ K "least_ending"=aa (c,P)):kn K P=aa (.tbl "least_ending.<locals>.<lambda>"):=by unfold kn;rw[h];exact if_pos rfl
def Ex(K:ay)(h:aB):Prop:=∀c P,lJ K "least_ending"=aa (c,P)->zx K c P=ah/\K.lookup P=ae/\h.get? P=aa {cls:=.none,data:=.fields #[]}
theorem Pn{P:aS}{w:aG}{K:ay}{J mb:Str->Option ai}{CX:gz}{k:Nat}{fa a:ag}{fd:iD}{x:Str}{sp:Sp}{f:am}{E:List ai}{L:List Int}(KX:K.In f.heap) (lV:f.heap.Ns bU J) (j:f.heap.Ns pq mb) (rF:∀x:Str,x≠"__name__"->mb x=eM x) (N:f.heap.NoLimit) (hbm:∃D B,J "__builtins__"=aa (.ref D)/\D≠pq/\f.heap.get? D=aa B/\B.cls=.type "module"/\B.dict=aa pq/\B.data=.plain) (A:Ex K f.heap) (hg:f.gens=#[])(t:f.heap.get? a=aa {cls:=.type "list",data:=.seq E.toArray}) (hi:IntsAre E L) (hl:L.length<=bd) (hr:Room k tU)(F:∀p:aB,K.In p->p.Ns bU J->lq P w K J p CX k fa fd [x] sp) (UD:∀(s:am) (u:ai),BindsTo s fd ⟨[u],[]⟩ [(x,u)])(iH:∀H:Hp,B5 H->cC K H a (L.map V.int)->sp [.ref a] H (λv _=>v=.bl ah) λ_ _ _=>False)(hCX:∀H e l,CX [] H f (λ_ _ _=>False) e l->False):lO (ax P w) tU (.call (.ref fa) ⟨[.ref a],[]⟩) (λr l=>r=.ok (.ret (.bool ah))/\OldK f.heap l.heap/\l.os=f.os/\nV l.gens) f:=by
 have rv:=Ac hi;have M:=hi.length;have C:∀H:Hp,B5 H->cC K H a (L.map V.int)->dz P w H f.heap->(∀b,H b≠ae->b=a\/∃c,lJ K "least_ending"=aa (c,b))->(H a≠ae->K.lookup a=ae)->xu K H ->
   lO (ax P w) tU (.call (.ref fa) ⟨[.ref a],[]⟩) (λr l=>r=.ok (.ret (.bool ah))/\OldK f.heap l.heap/\l.os=f.os/\nV l.gens) f:=by
  intro H hO hS G X hK hTH;have g:∀{b:ag}{o:Obj},f.heap.get? b=aa o->H b=ae->(ny f.heap H).get? b=aa o:=λe n=>Ot e n;have noA:∀{b:ag}{o:Obj}{Q:Array DictEntry}{S:Nat},f.heap.get? b=aa o->o.data=.dict Q S->H b=ae:=λ{b o Q S} e d=>by
   cases q:H b with
   |none=>rfl
   |some u=>
    rcases X b (by rw[q];simp)with i|⟨c,i⟩
    .subst i;rw[t]at e;cases e;have d':Data.seq E.toArray _=Data.dict Q S:=d;cases d'
    .rw[(A c b i).2.2]at e;cases e;cases d
  have y:∀{b:ag}{m:Str->Option ai},f.heap.Ns b m->(ny f.heap H).Ns b m:=λ{b m} ⟨o,Q,S,e,d,r⟩=>⟨o,Q,S,g e (noA e d),d,r⟩
  have O:K.In (ny f.heap H):=λb o e=>g (KX b o e) (by
   cases q:H b with
   |none=>rfl
   |some u=>
    rcases X b (by rw[q];simp)with i|⟨c,i⟩
    .subst i;rw[hK (by rw[q];simp)]at e;cases e
    .rw[(A c b i).2.1]at e;cases e)
  have hM:Mod K J (ny f.heap H):=⟨O,y lV,⟨mb,y j,rF⟩,(let ⟨mc,h1,h2⟩:=N;⟨mc,y h1,h2⟩),by
   obtain⟨D,B,b1,b2,W,b4,b5,b6⟩:=hbm;refine⟨D,B,b1,b2,g W ?_,b4,b5,b6⟩;cases q:H D with
   |none=>rfl
   |some u=>
    rcases X D (by rw[q];simp)with i|⟨c,i⟩
    .subst i;rw[t]at W;cases W;simp at b4
    .rw[(A c D i).2.2]at W;cases W;simp at b4⟩
  have e0:sC P w K J (ny f.heap H) tU [] f H:=⟨rfl,hM,λb o e=>Ul e,mG (Kh _ _),trivial,λb j=>absurd (show b∈([]:List ag)from j) (by simp),G,.of_eq hg,hTH⟩
  refine n8 ((F _ O (y lV)).run tU [] f H ⟨[.ref a],[]⟩ [.ref a] [.ref a] _ _ hr e0 (UD f (.ref a)) (.cons rfl .nil) (iH H hO hS)) λr l h=>?_;cases r with
  |error e=>exact(hCX H e l h).elim
  |ok fl=>
   cases fl with
   |next=>exact iE h
   |brk=>exact iE h
   |cont=>exact iE h
   |ret u=>
    obtain⟨v,H',os,T,un,J0,r',q⟩:=h;have q':v=.bl ah:=q;subst q';obtain rfl:u=Value.bool ah:=r';refine⟨rfl,⟨λb o e=>?_,λb o e=>un.there b o e (by simp)⟩,os,T⟩;cases q:H b with
    |none=>exact .inl (un.keep b o e q (by intro z;exact absurd (show b∈([]:List ag)from z) (by simp)) (by simp))
    |some u=>
     rcases hO b with z|⟨B,xs,z⟩|⟨qn,z⟩
     .rw[q]at z;cases z
     .have z2:=un.frzs b B _ z;obtain⟨I,_⟩:=G b _ z;obtain⟨e2,_⟩:=J0 b _ z2;rw[e]at I;cases I;exact .inl e2
     .rcases X b (by rw[q];simp)with i|⟨c,i⟩
      .subst i;obtain⟨ps,I,_⟩:=G b _ z;rw[t]at I;cases I
      .obtain⟨k1,k2,k3⟩:=A c b i;rw[k3]at e;cases e;obtain⟨oc,Y,_,_,_,_,_,_,_,f1,f2,f3,f4,_⟩:=PySem.W.codeHd_of_K KX k1;obtain⟨ps,I,_⟩:=J0 b _ (un.tbls b _ z);exact .inr (.inl ⟨⟨c,oc,Y,f1,f2,f3,f4⟩,rfl,#[],ps,rfl,by rw[I];simp⟩)
 cases hk:K.lookup a with
 |some o=>
  have e:=KX a o hk;rw[t]at e;cases e;have tH:∀b u,kn K b=aa u->cz P w (kn K) f.heap b u:=λb u z=>by
   obtain⟨rfl,c,e⟩:=qz z;exact⟨#[],(A c b e).2.2,trivial,λZ cv h=>by cases h⟩
  refine C (kn K) (λb=>?_) (.inr ⟨_,E.toArray,_,hk,rfl,rfl,rfl,by rw[cr,M];exact hl,by simpa using rv⟩) tH (λb z=>?_) (λz=>?_) λx hx c P e=>?_
  .cases q:kn K b with
   |none=>exact .inl rfl
   |some u=>exact .inr (.inr ⟨_,congrArg aa (qz q).1⟩)
  .cases q:kn K b with
   |none=>exact absurd q z
   |some u=>exact .inr (qz q).2
  .cases q:kn K a with
   |none=>exact absurd q z
   |some u=>
    obtain⟨_,c,i⟩:=qz q;rw[(A c a i).2.2]at t;cases t
  .obtain rfl:x = "least_ending":=by simpa[vE]using hx
   exact E9 e
 |none=>
  have ta:∀c P,lJ K "least_ending"=aa (c,P)->P≠a:=λc P e z=>by subst z;rw[(A c P e).2.2]at t;cases t
  refine C (λb=>if b=a then aa (.frz {cls:=.type "list",data:=.seq E.toArray} (.lst (L.map V.int)))else kn K b) (λb=>?_) (.inl (.inr ⟨{cls:=.type "list",data:=.seq E.toArray},if_pos rfl⟩)) (λb u z=>?_) (λb z=>?_) (λ_=>hk) λx hx c P e=>?_
  .by_cases j:b=a
   .exact .inr (.inl ⟨_,_,if_pos j⟩)
   .cases q:kn K b with
    |none=>exact .inl ((if_neg j).trans q)
    |some u=>exact .inr (.inr ⟨_,(if_neg j).trans (q.trans (congrArg aa (qz q).1))⟩)
  .by_cases j:b=a
   .have z':=(if_pos j).symm.trans z;cases z';subst j;exact⟨t,by rw[cn];exact hl,E,_,rv,t⟩
   .obtain⟨rfl,c,e⟩:=qz ((if_neg j).symm.trans z);exact⟨#[],(A c b e).2.2,trivial,λZ cv h=>by cases h⟩
  .by_cases j:b=a
   .exact .inl j
   .cases q:kn K b with
    |none=>exact absurd ((if_neg j).trans q) z
    |some u=>exact .inr (qz q).2
  .obtain rfl:x = "least_ending":=by simpa[vE]using hx
   exact(if_neg (ta c P e)).trans (E9 e)
theorem Vg{l:CZ}{n k:Nat}{q:aS}{c:List Str}{XP:(Str->Option ai)->aB->Prop}{C:aG->aB->Prop}{d:DefRec}{K:Params->ay}{CX:aG->gz}{sp:aG->Sp}{x:Str}(N:l.most=aa n) (E:n<=bd) (J:d.params.defaults=[]) (M:Room k tU)(A:∀(w:aG) (h:aB),C w h->(K w.params).In h/\Ex (K w.params) h)(F:∀(w:aG) (g:Str->Option ai) (m:ag) (h:aB),(K w.params).In h->h.Ns bU g->g d.name=aa (.ref m) -> ∃t:iD,(∀(s:am) (u:ai),BindsTo s t ⟨[u],[]⟩ [(x,u)]) /\ ∀b:aB,(K w.params).In b->b.Ns bU g->lq l.prog w (K w.params) g b (CX w) k m t [x] (sp w))(L:∀(w:aG) (H:Hp) (a:ag) (j:List Int),j.length<=n->B5 H->cC (K w.params) H a (j.map V.int)->sp w [.ref a] H (λv _=>v=.bl ah) λ_ _ _=>False)(r:∀(w:aG) (H:Hp) (s:am) (e:ai) (p:am),CX w [] H s (λ_ _ _=>False) e p->False):PySem.W.WalkO q c XP C l.row.toRowW d [] (λf y=>PySem.call f y):=by refine Att.attach_call N J λw z i g mb m o pm cd W a y j G Y ho hd bv I X Z B O=>?_;have D:=(A w _ Y).1;obtain⟨t,P,T⟩:=F w g m _ D G.T.g I;exact Pn D G.T.g G.T.b G.T.builtins G.T.nolimit G.T.bmain (A w _ Y).2 O X Z (cP B E) M T P (λH S Q=>L w H a j B S Q) λH e p=>r w H i e p
def j5(s:ba):qS:=match s with
 |.FunctionDef _ a _ _ _ _ _ _ _ _=>a
 |_=>{posonlyargs:=[],args:=[],vararg:=ae,kwonlyargs:=[],kw_defaults:=[],kwarg:=ae,defaults:=[]}
def fX(s:ba):List ba:=match s with
 |.FunctionDef _ _ b _ _ _ _ _ _ _=>b
 |_=>[]
def a8(s:ba):dH:=match s with
 |.FunctionDef _ _ _ _ _ _ a _ _ _=>a
 |_=>{kind:=.function,names:=[],isGenerator:=aj,isCoroutine:=aj}
abbrev AZ:gz:=λ_ _ _ _ _ _=>False
abbrev E0:XK:=λ_ _ _=>False
structure qf(K:ay)(x qual:Str)(st:ba)(f:ag)(fd:iD):Prop where
 ex:∃(oc:ai) (od:Option ag) (kV doc pm:ai) (an:Option ag) (aH ct:ai) (osl:Array (Option ai)),
  fd=iY x qual (j5 st) (fX st) (a8 st) .none kV doc pm an aH ct/\K.lookup f=aa ⟨oc,od,.func fd,osl⟩/\vT K aH qual=ah
 kp:qQ K (.ref f)=ah
section
variable{P:aS}{w:aG}{K:ay}{b:Str->Option ai}{a:aB}
theorem qf.binds{x c:Str}{g:ba}{f:ag}{p:iD}{j:List Str}(F:qf K x c g f p)(h:∀(kV d l:ai) (n:Option ag) (o m:ai) (i:List ai),i.length=j.length->fZ (iY x c (j5 g) (fX g) (a8 g) .none kV d l n o m) ⟨i,[]⟩=pure (j.zip i)):Binds K p j []:=by obtain⟨oc,r,kV,d,l,n,o,m,q,rfl,s,t⟩:=F.ex;exact .all (h kV d l n o m)
theorem Hz{x d:Str}{g:ba}{f:ag}{oc:ai}{p o:Option ag}{i:Array (Option ai)}{kV h m j n:ai}(l:K.lookup f=aa ⟨oc,p,.func (iY x d (j5 g) (fX g) (a8 g) .none kV h m o j n),i⟩)(c:vT K j d=ah) (k:qQ K (.ref f)=ah):qf K x d g f (iY x d (j5 g) (fX g) (a8 g) .none kV h m o j n):=⟨⟨oc,p,kV,h,m,o,j,n,i,rfl,l,c⟩,k⟩
end
theorem Ra{n:Nat}(h:n<=1000):n<bd:=vZ h (by decide)
section
variable{X:Cx}
theorem pv(i:Nat){x:Str}{a:Pos}(d:X.N[i]?=aa x:=by rfl)(b:eD X.env.scope x:=by first|exact Or.inl rfl|exact Or.inr (Or.inl rfl)|exact Or.inr (Or.inr rfl))(c:(x==("__debug__":Str))=aj:=by decide)(f:(x==("__classdict__":Str))=aj:=by decide):PE X (.Name x a) (y0 i):=fE d b c f
theorem MN:eC X (.builtin "len") (λxs H Q=>∃a b,xs=[V.ref a]/\H a=aa (.dK b)/\Q (.int b.length) H):=by
 intro l s g H xs i Q I r h;obtain⟨a,b,rfl,d,q⟩:=h;obtain⟨u,rfl,c⟩:=vals1 r;cases c;exact Sm I (.inl d) λt j f=>⟨.int b.length,H,f,⟨t,rfl⟩,q⟩
end
theorem qc{A B:Prop}(h:B):if aj=ah then A else B:=by rw[if_neg fq];exact h
theorem qB{A B:Prop}(h:A):if ah=ah then A else B:=by rw[if_pos rfl];exact h
def Same(H a:Hp):Prop:=∀b o,H b=aa o->a b=aa o
theorem Same.refl(H:Hp):Same H H:=λ_ _ h=>h
theorem Same.trans{H f d:Hp}(a:Same H f)(b:Same f d):Same H d:=λc o h=>b c o (a c o h)
theorem Same.free{H a:Hp}(e:Same H a){l:ag}(h:a l=Option.none):H l=Option.none:=by
 cases q:H l with
 |none=>rfl
 |some o=>
  rw[e l o q]at h;cases h
end L2
set_option maxHeartbeats 4000000
namespace L2
def iN(a:Env):List (Str×g9)->List (Str×ag)->List (Str×ag)
 |[],b=>b
 | (n,k)::r,b=>if k == .free then iN a r ((n,(a.cells.lookup n).getD 0)::b)else iN a r b
theorem SM{d:Env}{y:Str}{c:ag}(b:List (Str×g9))(f:List (Str×ag))(j:∀x∈b,x.2=.free->∃c,d.cells.lookup x.1=aa c)(h:(iN d b f).lookup y=aa c):f.lookup y=aa c\/d.cells.lookup y=aa c:=by
 induction b generalizing f with
 |nil=>exact .inl h
 |cons a r g=>
  obtain⟨n,k⟩:=a;unfold iN at h;have i:∀x∈r,x.2=.free->∃c,d.cells.lookup x.1=aa c:=λx m=>j x (k8 _ m);split at h
  .rename_i o;obtain⟨s,l⟩:=j (n,k) (lL ..) (by simpa using o);rcases g _ i h with q|q
   .rw[lg]at q;split at q
    .rename_i p;have e:y=n:=by simpa using p
     subst e;rw[l]at q;exact .inr (by rw[l];exact q)
    .exact .inl q
   .exact .inr q
  .exact g _ i h
theorem Hs{a:Type}{n:Str}{v:a}{l:List (Str×a)}:((n,v)::l).lookup n=aa v:=by rw[lg];simp
theorem GR{a:Type}{n y:Str}{v:a}{l:List (Str×a)}(h:∃c,l.lookup y=aa c):∃c,((n,v)::l).lookup y=aa c:=by
 rw[lg];split
 .exact⟨_,rfl⟩
 .exact h
theorem BI{d:Env}{y:Str}:∀(a:List (Str×g9)) (b:List (Str×ag)),(∃c,b.lookup y=aa c)->∃c,(iN d a b).lookup y=aa c
 |[],b,h=>h
 | (n,k)::r,b,h=>by
  unfold iN;split
  .exact BI r _ (GR h)
  .exact BI r _ h
theorem z8{g:Env}{y:Str}:∀(a:List (Str×g9)) (i:List (Str×ag)),(∃x∈a,x.1=y/\x.2=.free)->∃c,(iN g a i).lookup y=aa c
 |[],i,⟨_,h,_⟩=>by simp at h
 | (n,k)::r,i,⟨x,b,f,d⟩=>by
  unfold iN;rcases bC.mp b with e|b
  .subst e;simp only at f d;subst f d;simp only[beq_self_eq_true,if_true];exact BI r _ ⟨_,Hs⟩
  .split
   .exact z8 r _ ⟨x,b,f,d⟩
   .exact z8 r _ ⟨x,b,f,d⟩
theorem B3{b:Env}:∀(a:List (Str×g9)) (g:List (Str×ag)),(∀x∈a,x.2=.free->∃c,b.cells.lookup x.1=aa c) -> (forIn (m:=Sem) a g λx r=>match x with | (d,f)=>if(f == NameKind.free)=ah then do let c <-cellOf b d;pure (ForInStep.yield ((d,c)::r))else pure (ForInStep.yield r))=pure (iN b a g)
 |[],g,_=>rfl
 | (n,k)::r,g,h=>by
  have j:∀x∈r,x.2=.free->∃c,b.cells.lookup x.1=aa c:=λx o=>h x (k8 _ o);rw[List.forIn_cons];unfold iN;by_cases i:(k == NameKind.free)=ah
  .obtain⟨c,l⟩:=h (n,k) (lL ..) (by simpa using i);simp only[i,if_true];have e:cellOf b n=pure c:=by unfold cellOf;rw[l]
   rw[e];simp only[pure_bind];rw[B3 r _ j,l];rfl
  .simp only[i,if_false,pure_bind];exact B3 r _ j
theorem Tc{a:dH}{b:Env}(h:∀x∈a.names,x.2=.free->∃c,b.cells.lookup x.1=aa c):zy a b=pure (iN b a.names []):=by unfold zy;have q:=B3 a.names [] h;simp only[bind_pure_comp]at q ⊢;rw[q];rfl
theorem y9{n c:Nat}(b:n+1<=c)(a:c<n):False:=∅
theorem Ai:∀(c:List (Str×g9)) (n:Nat) (a b:List (Str×ag)),f9 n c (a++b)=f9 n c a++b
 |[],_,_,_=>rfl
 | (x,k)::r,n,a,b=>by
  unfold f9;split
  .exact Ai r (n+1) ((x,n)::a) b
  .exact Ai r n a b
theorem xJ{y:Str}{c:ag}:∀(b:List (Str×g9)) (n:Nat) (a:List (Str×ag)),(y,c)∈f9 n b a->(y,c)∈a\/(y,.cell)∈b
 |[],_,_,h=>.inl h
 | (x,k)::r,n,a,h=>by
  unfold f9 at h;split at h
  .rename_i d;rcases xJ r _ _ h with z|z
   .rcases bC.mp z with z|z
    .cases z;have e:k=.cell:=by simpa using d
     subst e;exact .inr (lL ..)
    .exact .inl z
   .exact .inr (k8 _ z)
  .rcases xJ r _ _ h with z|z
   .exact .inl z
   .exact .inr (k8 _ z)
theorem Ck{y:Str}:∀(b:List (Str×g9)) (n:Nat) (a:List (Str×ag)),(∃c,a.lookup y=aa c)->∃c,(f9 n b a).lookup y=aa c
 |[],_,_,h=>h
 | (x,k)::r,n,a,h=>by
  unfold f9;split
  .exact Ck r _ _ (GR h)
  .exact Ck r _ _ h
theorem zm{y:Str}:∀(b:List (Str×g9)) (n:Nat) (a:List (Str×ag)),(y,.cell)∈b->∃c,(f9 n b a).lookup y=aa c
 | (x,k)::r,n,a,h=>by
  unfold f9;rcases bC.mp h with e|h
  .cases e;exact Ck r _ _ ⟨_,Hs⟩
  .split
   .exact zm r _ _ h
   .exact zm r _ _ h
def l_(X:Cx)(a:dH)(C:ag):List (Str×ag):=f9 (C+1) a.names (iN X.env a.names [])
theorem BB(X:Cx)(a:dH)(C:ag):l_ X a C=f9 (C+1) a.names []++iN X.env a.names []:=Ai a.names (C+1) [] _
theorem OY{M:Model}{A:aV}{E:ai->am->Prop}{s:am}{a:dH}{b:ag}{j:List (Str×ag)}{c:Str}{f:Env}{Q:Env->am->Prop}(l:Q (newEnv a s.heap.objs.size b (f9 (s.heap.objs.size+1) a.names j) c ae .none (aa f) pq) {s with heap:=pushCells (s.heap.push {cls:=.type "dict",data:=.dict #[]}) a.names}):au M A (newFunctionEnv a b j [] c ae .none (aa f)) Q E s:=by
 simp only[newFunctionEnv,Option.isSome_some,if_true];refine ar (wpAny_alloc ?_);refine ar (wpAny_layCells _ (λi d h=>by cases g:d == NameKind.cell <;> simp[g]) _ _ _ _ ?_);rw[show({s with heap:=s.heap.push {cls:=.type "dict",data:=.dict #[]}}:am).heap.objs.size=s.heap.objs.size+1 from zz ..];refine ar ?_;rw[List.forIn_nil];exact aI (aI l)
theorem FA{s:am}{a:List (Str×g9)}{y:Str}{c:ag}(h:(y,c)∈f9 (s.heap.objs.size+1) a []):(pushCells (s.heap.push {cls:=.type "dict",data:=.dict #[]}) a).IsCell c ae/\s.heap.objs.size+1<=c/\∀z,(z,c)∈f9 (s.heap.objs.size+1) a []->y=z:=by have ok:=cellsFrom_ok a (s.heap.push {cls:=.type "dict",data:=.dict #[]}) (s.heap.objs.size+1) [] ⟨λ_ _ d=>(nomatch d),List.Pairwise.nil⟩ (by rw[zz];exact a9 _);rw[zz]at ok;exact⟨(ok.empty y c h).1,(ok.empty y c h).2,λz b=>name_of_addr ok.apart h b⟩
def cH(X:Cx)(a:dH)(b:List Str)(C:ag)(s₀:am)(H₀:Hp)(ex:List ag)(pn:List (ag×Obj)):Cx where
 prog:=X.prog
 w:=X.w
 K:=X.K
 mg:=X.mg
 base:=X.base
 A:=X.A
 N:=b
 s₀:=s₀
 H₀:=H₀
 env:=compEnvC a (l_ X a C) C X.env
 outer:=X.stack
 stack:=X.stack
 ex:=ex
 fn:=λy=>a.names.lookup y == aa .cell
 calm:=X.calm
 pn:=X.pn++pn
 xe:=λ_ _=>False
def gT(b:St)(a:List Nat):St:=a.map λi=>(b[i]?).join
structure jD(X:Cx)(scope:dH)(x:Str)(N':List Str)(cap:List Nat):Prop where
 kind:scope.kind=.function
 cells:∀y∈scope.names,y.2=.cell->scope.names.lookup y.1=aa .cell
 names:∀y∈scope.names,y.2=.local->scope.names.lookup y.1=aa .local
 loc:scope.names.lookup x=aa .local\/scope.names.lookup x=aa .cell
 free:∀y∈scope.names,y.2=.free->X.env.kindOf y.1=aa .cell\/X.env.kindOf y.1=aa .free
 nd:N'.Nodup
 hd:N'.head?=aa x
 len:N'.length=cap.length+1
 caps:∀i j y,N'[i+1]?=aa y->cap[i]?=aa j->(X.N[j]?=aa y/\scope.names.lookup y=aa .free)\/(X.N.length<=j/\scope.names.lookup y=aa .local)
theorem PQ{a:List (Str×g9)}{y:Str}{k:g9}(h:a.lookup y=aa k):∃x∈a,x.1=y/\x.2=k:=⟨(y,k),lP h,rfl,rfl⟩
theorem Bd{a:Env}{x:Str}:∀{b:List (Str×g9)}{k:g9}, (b.map λ(n,k)=>if(k == NameKind.free&&a.scope.kind == .function&&a.kindOf n == aa .cell)then(n,NameKind.cell)else(n,k)).lookup x=aa k -> ∃f,b.lookup x=aa f/\(k=f\/(f=.free/\k=.cell))
 |[],_,h=>by simp at h
 | (n,c)::r,k,h=>by
  change C0 x ((if(c == NameKind.free&&a.scope.kind == .function&&a.kindOf n == aa .cell)=ah then(n,NameKind.cell)else(n,c))::_)=_ at h;rw[lg];by_cases d:(c == NameKind.free&&a.scope.kind == .function&&a.kindOf n == aa .cell)=ah
  .rw[if_pos d,lg]at h;split at h
   .rename_i g;cases h;have:c=.free:=by simp at d;exact d.1.1
    exact⟨c,rfl,.inr ⟨this,rfl⟩⟩
   .exact Bd h
  .rw[if_neg d,lg]at h;split at h
   .rename_i g;cases h;exact⟨c,rfl,.inl rfl⟩
   .exact Bd h
theorem Cn{a:Env}{x:Str}:∀{b:List (Str×g9)},b.lookup x=aa .free -> let q:=(b.map λ(n,k)=>if(k == NameKind.free&&a.scope.kind == .function&&a.kindOf n == aa .cell)then(n,NameKind.cell)else(n,k)).lookup x
  q=aa .cell\/q=aa .free
 |[],h=>by simp at h
 | (n,c)::r,h=>by
  show C0 x ((if(c == NameKind.free&&a.scope.kind == .function&&a.kindOf n == aa .cell)=ah then(n,NameKind.cell)else(n,c))::_)=_\/C0 x ((if(c == NameKind.free&&a.scope.kind == .function&&a.kindOf n == aa .cell)=ah then(n,NameKind.cell)else(n,c))::_)=_;rw[lg]at h;by_cases f:(c == NameKind.free&&a.scope.kind == .function&&a.kindOf n == aa .cell)=ah
  .rw[if_pos f,lg];cases d:x == n with
   |true=>exact .inl rfl
   |false=>rw[d]at h;exact Cn h
  .rw[if_neg f,lg];cases d:x == n with
   |true=>rw[d]at h;cases h;exact .inr rfl
   |false=>rw[d]at h;exact Cn h
theorem Be{a:Env}{x:Str}:∀{b:List (Str×g9)},b.lookup x=aa .cell -> (b.map λ(n,k)=>if(k == NameKind.free&&a.scope.kind == .function&&a.kindOf n == aa .cell)then(n,NameKind.cell)else(n,k)).lookup x=aa .cell
 |[],h=>by simp at h
 | (n,d)::r,h=>by
  show C0 x ((if(d == NameKind.free&&a.scope.kind == .function&&a.kindOf n == aa .cell)=ah then(n,NameKind.cell)else(n,d))::_)=_;rw[lg]at h;by_cases f:(d == NameKind.free&&a.scope.kind == .function&&a.kindOf n == aa .cell)=ah
  .rw[if_pos f,lg];cases c:x == n with
   |true=>rfl
   |false=>rw[c]at h;exact Be h
  .rw[if_neg f,lg];cases c:x == n with
   |true=>rw[c]at h;cases h;rfl
   |false=>rw[c]at h;exact Be h
section
variable{X:Cx}{w:List (ag×Obj)}{t:St}{H:Hp}{s:am}{f:dH}{x:Str}{A:List Str}{g:List Nat}
theorem Inv.freeHas(I:Inv X w t H s)(B:jD X f x A g):∀y∈f.names,y.2=.free->∃c,X.env.cells.lookup y.1=aa c:=λy a e=>I.ok.has y.1 (B.free y a e)
theorem Inv.clIn(I:Inv X w t H s)(B:jD X f x A g){y:Str}{c:ag}(h:(iN X.env f.names []).lookup y=aa c):X.env.cells.lookup y=aa c:=by
 rcases SM f.names [] (I.freeHas B) h with q|q
 .simp at q
 .exact q
theorem Inv.cbIn(I:Inv X w t H s)(B:jD X f x A g){C:ag}{y:Str}{c:ag}(h:(l_ X f C).lookup y=aa c):((y,c)∈f9 (C+1) f.names []/\f.names.lookup y=aa .cell)\/((iN X.env f.names []).lookup y=aa c/\X.env.cells.lookup y=aa c):=by
 rw[BB,Jh]at h;cases e:(f9 (C+1) f.names []).lookup y with
 |none=>rw[e]at h;exact .inr ⟨h,I.clIn B h⟩
 |some a=>
  rw[e]at h;cases h;have m:=lP e;rcases xJ _ _ _ m with z|z
  .cases z
  .exact .inl ⟨m,B.cells _ z rfl⟩
theorem Inv.cbOld(I:Inv X w t H s)(B:jD X f x A g){C:ag}{y:Str}{c:ag}(h:(iN X.env f.names []).lookup y=aa c)(a:f.names.lookup y=aa .free):(l_ X f C).lookup y=aa c:=by
 rw[BB,Jh];cases e:(f9 (C+1) f.names []).lookup y with
 |none=>exact h
 |some b=>
  rcases xJ _ _ _ (lP e)with z|z
  .cases z
  .have:=B.cells _ z rfl;rw[a]at this;cases this
theorem Inv.block{fp:List ag}{D:aB}{m:Str->Option ai}{t':Nat}(hh:D=pushCells (s.heap.push {cls:=.type "dict",data:=.dict #[]}) f.names)(I:Inv X w t H s)(B:jD X f x A g)(T:∀b∈fp,lI X w H b)(Z:∀b∈fp,∃o,s.heap.get? b=aa o)(lV:D.Ns s.heap.objs.size m)(E:∀b o,s.heap.get? b=aa o->D.get? b=aa o):Inv (cH X f A s.heap.objs.size s H fp w) [] (ae::gT t g) H {s with heap:=D,toks:=t'}:=by
 have M:∀x c,X.env.cells.lookup x=aa c->c<s.heap.objs.size:=λx c e=>(I.cell x c e).elim λv q=>q.lt;have C:∀{y:Str}{c:ag},(y,c)∈f9 (s.heap.objs.size+1) f.names []->D.IsCell c ae/\s.heap.objs.size+1<=c/\∀z,(z,c)∈f9 (s.heap.objs.size+1) f.names []->y=z:=λh=>by rw[hh];exact FA h
 have lk:∀y k,(compEnvC f (l_ X f s.heap.objs.size) s.heap.objs.size X.env).kindOf y=aa k->∃N,f.names.lookup y=aa N/\(k=N\/(N=.free/\k=.cell)):=λy k h=>Bd h;have G:∀y,f.names.lookup y=aa .free->∃c,(iN X.env f.names []).lookup y=aa c:=λy h=>z8 f.names [] (PQ h);have nfs:∀b∈fR X.stack,b≠s.heap.objs.size:=λb F e=>by
  rcases bC.mp (I.stkSub b F)with z|z
  .exact absurd I.lt (by rw[<-z,e];exact fG _)
  .exact I.nofs (mG e.symm) z
 refine⟨⟨I.ok.mod,B.kind,I.ok.glob,I.ok.blt,a9 _,λy z c h1 h2=>?_,λy O=>?_,λy c h jx=>?_,I.ok.hd,I.ok.frames,.inl rfl,λb F=>?_,λb o e=>I.bs b o e,cP I.ok.bsz I.sz,λb o e F=>?_,λb F hf=>?_,I.stack,(λb F=>I.stkFree b F),I.tab⟩,rfl,I.bare,Un.kept E,⟨m,lV,λi y v e1 Q e3=>?_⟩,λy c h=>?_,I.hok.fresh (a9 _),λy c h=>?_,λp hp=>?_,I.hok.kept E,?_⟩
 .-- inj
  rcases I.cbIn B h1 with⟨a1,a2⟩|⟨a1,a2⟩ <;> rcases I.cbIn B h2 with⟨b1,b2⟩|⟨b1,b2⟩
  .exact(C a1).2.2 z b1
  .exact(y9 (C a1).2.1 (M _ _ b2)).elim
  .exact(y9 (C b1).2.1 (M _ _ a2)).elim
  .exact I.ok.inj y z c a2 b2
 .-- has
  show ∃c,(l_ X f s.heap.objs.size).lookup y=aa c;have mR:f.names.lookup y=aa .free->∃c,(l_ X f s.heap.objs.size).lookup y=aa c:=λq=>(G y q).imp λc hc=>I.cbOld B hc q;rcases O with O|O
  .obtain⟨N,q,z|⟨z,_⟩⟩:=lk y _ O
   .subst z;exact zm _ _ _ (lP q)
   .subst z;exact mR q
  .obtain⟨N,q,z|⟨_,z⟩⟩:=lk y _ O
   .subst z;exact mR q
   .cases z
 .-- cab
  have hk:f.names.lookup y=aa .cell:=by simpa using(show(f.names.lookup y == aa .cell)=ah from h)
  show s.heap.objs.size<=c;rcases I.cbIn B jx with⟨a1,a2⟩|⟨a1,a2⟩
  .have:=(C a1).2.1;lia
  .obtain⟨c',P⟩:=zm (n:=s.heap.objs.size+1) (a:=[]) _ (lP hk);have e:(l_ X f s.heap.objs.size).lookup y=aa c':=by rw[BB,Jh,P];rfl
   have Q:(l_ X f s.heap.objs.size).lookup y=aa c:=jx;rw[e]at Q;cases Q;have:=(C (lP P)).2.1;lia
 .-- exf
  obtain⟨f0,f1,f2,f3,f4,f5⟩:=T b F;obtain⟨o,K⟩:=Z b F;refine⟨λe=>absurd (bR K) (by rw[e];exact fG _),λy c h=>?_⟩;rcases I.cbIn B h with⟨a1,a2⟩|⟨a1,a2⟩
  .rintro rfl;exact y9 (C a1).2.1 (bR K)
  .exact f4 y c a2
 .-- noex
  obtain⟨f0,f1,f2,f3,f4,f5⟩:=T b F;rcases f3 with z|z
  .exact I.ok.noex b o e z
  .exact absurd (fY (bR e) (cP I.ok.bsz z)) (fG _)
 .-- exfs
  obtain⟨f0,f1,f2,f3,f4,f5⟩:=T b F;rcases bC.mp (I.stkSub b hf)with z|z
  .exact f1 z
  .exact f2 z
 .-- loc
  cases i with
  |zero=>simp at Q
  |succ i=>
   have J:(gT t g)[i]?=aa (aa v):=by simpa using Q
   unfold gT at J;rw[kF]at J;cases Y:g[i]? with
   |none=>rw[Y]at J;cases J
   |some j=>
    rw[Y]at J;have S:(t[j]?).join=aa v:=dZ J;have e5:t[j]?=aa (aa v):=by
     cases hq:t[j]? with
     |none=>rw[hq]at S;cases S
     |some o=>rw[hq]at S;exact congrArg aa S
    obtain⟨b1,b2⟩:=(B.caps i j y e1 Y).elim id λz=>by have:=(d7.mp e5).1;rw[I.len]at this;exact absurd this (Nat.not_lt.mpr z.1)
    obtain⟨mm,hn,hl⟩:=I.loc;have wq:=B.free _ (lP b2) rfl;have W:eD X.env.scope y:=by
     rcases wq with z|z
     .exact .inr (.inl z)
     .exact .inr (.inr z)
    obtain⟨u,r,l⟩:=hl j y v b1 e5 W;refine⟨u,r,.inr ⟨Cn b2,?_⟩⟩;rcases l with⟨l,_⟩|⟨_,c,hc,zS⟩
    .rcases wq with z|z
     .rw[l]at z;cases z
     .rw[l]at z;cases z
    .obtain⟨c',P⟩:=G y b2;have e6:=I.clIn B P;rw[hc]at e6;cases e6;obtain⟨L,K,hd⟩:=zS;exact⟨c,I.cbOld B P b2,L,E c L K,hd⟩
 .rcases I.cbIn B h with⟨a1,a2⟩|⟨a1,a2⟩
  .exact⟨ae,(C a1).1⟩
  .obtain⟨v,L,K,hd⟩:=I.cell y c a2;exact⟨v,L,E c L K,hd⟩
 .rcases I.cbIn B h with⟨a1,a2⟩|⟨a1,a2⟩
  .exact I.hok.fresh (cP (v7 _) (C a1).2.1)
  .exact I.freeC y c a2
 .have fL:p∈X.pn++w:=by simpa[cH]using hp
  obtain⟨e,n,ne,nf,d⟩:=I.pin p fL;refine⟨E _ _ e,n,c8 (bR e),λhf=>?_,d⟩;rcases bC.mp (I.stkSub p.1 hf)with z|z
  .exact ne z
  .exact nf z
 .show(ae::gT t g).length=A.length;rw[B.len];simp[gT]
end
def qC(X:Cx)(b:List az)(t:TT):Prop :=
 ∀(d:List (ag×Obj)) (s:am) (a:St) (H:Hp) (Q:Bool->Hp->Prop),Inv X d a H s->t a H Q ->
  au (ax X.prog X.w) X.A (forIn b ah λc r=>if r=ah then do let ok <-nW c X.env (aL c X.env);pure (ForInStep.yield ok)else pure (ForInStep.yield r)) (TP X d a Q) X.xe s
theorem MY{P:aS}{w:aG}{A:aV}{R:Result->am->Prop}{s:am}{m q i:az}{l:List az}{g:dH}{p:Pos}{t B:ai}{d:Env}(J:Nat->am->Prop)(n:∀k o,J k o->au (ax P w) A (pyNext t) (λr z=>match r with
   |none=>R (.ok .next) z
   |some v=>au (ax P w) A (CJ q t v) (λ_ F=>au (ax P w) A (qO q d v) (λ_ E=>au (ax P w) A (forIn l ah λc r=>if r=ah then do let ok <-nW c d (aL c d);pure (ForInStep.yield ok)else pure (ForInStep.yield r)) (λb u=>if b=ah then au (ax P w) A (aL m d) (λy D=>au (ax P w) A (call (.builtin "list.append") [B,y]) (λ_ C=>∃j,j<k/\J j C) (λ_ _=>False) D) (λ_ _=>False) u else ∃j,j<k/\J j u) (λ_ _=>False) E) (λ_ _=>False) F) (λ_ _=>False) z) (λ_ _=>False) o) (k:Nat) (h:J k s) :
  lO (ax P w) A (.compLoop (.ListComp m [⟨q,i,l,0⟩] g p) 0 t B d) R s:=by
 refine codeAny_loop rfl J (λj o I=>?_) k h;show au _ A (Sem.onRaise (compTurn (.ListComp m [⟨q,i,l,0⟩] g p) 0 t B d) (λx=>do noteFrame x d;theTreesLotGoes x)) _ _ o;refine wpAny_noted ?_;rw[compTurn_list];have no:∀(O:ai->am->Prop) (a:ai) (b:am),False->O a b:=λ_ _ _ f=>f.elim;refine ar (wpAny_standAt (ar (eG (n j o I) (λr z H=>?_) (no _))));cases r with
 |none=>exact aI H
 |some v=>
  refine ar (eG H (λ_ F N=>ar (eG N (λ_ E M=>ar (eG M (λb u G=>?_) (no _))) (no _))) (no _));cases b with
  |true=>exact ar (ar (eG G (λy D L=>ar (eG L (λ_ C K=>aI (aI ⟨rfl,K⟩)) (no _))) (no _)))
  |false=>exact aI ⟨rfl,G⟩
def Mt:TT:=λ_ H Q=>Q ah H
theorem NH{X:Cx}:qC X [] Mt:=λ_ _ _ H _ I h=>wpAny_tests_nil ⟨H,I,h⟩
theorem IG{X:Cx}{c:az}{t:TT}(h:PT X c t):qC X [c] t:=λd s a H Q I b=>wpAny_tests_one (h d s a H Q I b)
def Cu(q:TI)(h:V->Hp->St->Prop)(k:Nat)(r:TT)(s:TE)(d:List Nat):TE:=λg H Q=>q g H λJ p=>∀l,p l=ae->∃W:Nat->Nat->List V->Hp->Prop,(∃m,W 0 m [] (upd p l (.lst [])))/\∀i m a H,W i m a H ->
 (J.stop i H/\Q (.ref l) H)\/(J.go i H/\∀v j,J.yld i H v j->∃f,f.length=k+1/\h v j f/\r (f++(gT g d).drop k) j λb o=>if b=ah then s (f++(gT g d).drop k) o λy n=>n l=aa (.lst a)/\a.length<bd/\∃c,c<m/\W (i+1) c (a++[y]) (upd n l (.lst (a++[y]))) else ∃c,c<m/\W (i+1) c a o)
def IF:V->Hp->St->Prop:=λv _ a=>a=[aa v]
abbrev Ct(b:TI)(c:TT)(d:TE)(a:List Nat):TE:=Cu b IF 0 c d a
section
variable{X:Cx}{m:List (ag×Obj)}{t:St}{H:Hp}{s:am}{g:dH}{x:Str}{j:List Str}{l:List Nat}
theorem Inv.unblock{r:List ag}{p:Hp}{w:St}{s':am}{h:aB}(I:Inv X m t H s)(C:∀b∈r,lI X m H b)(a:Inv (cH X g j s.heap.objs.size s H r m) [] w p s') (sb:k9 s.heap.objs.size s'.heap h):Inv X m t p {s' with heap:=h}:=by
 have k:∀b o,b≠s.heap.objs.size->s'.heap.get? b=aa o->h.get? b=aa o:=λb o f e=>(sb.2 b f).trans e;have y:∀b o,s.heap.get? b=aa o->b≠s.heap.objs.size:=λb o e=>c8 (bR e);have un:Un (fR X.stack) r H p s.heap h:=by
  refine⟨λb o e n f d=>k b o (y b o e) (a.base.keep b o e n f d),λb o e n f d=>?_,λb o e n d=>a.base.free b o e n d,λb o e d=>?_,a.base.tups,a.base.frzs,a.base.tbls⟩
  .obtain⟨D,q⟩:=a.base.slot b o e n f d;exact⟨D,k b _ (y b o e) q⟩
  .obtain⟨B,q⟩:=a.base.there b o e d;exact⟨B,k b B (y b o e) q⟩
 have A:dz X.prog X.w p h:=λb u e=>by
  have i:p s.heap.objs.size=ae:=a.free;refine(a.hok b u e).stay (λc v E q=>k c v ?_ q) (λ_ q=>q) λ_ _ q=>q;rintro rfl;rcases E with z|z
  .rw[<-z,i]at e;cases e
  .rw[i]at z;cases z
 refine I.call' (s':={s' with heap:=h}) (ch:=r) a.os un A a.bare λb f=>?_;obtain⟨J,G,f2,f3,f4,F⟩:=C b f;exact⟨f3,G,f4,F⟩
theorem HD{elt F tg:az}{pos pos':Pos}{ifs:List az}{wi:TI}{tgf:V->Hp->St->Prop}{k:Nat}{ts:TT}{te:TE}{use:Option (ai->Sem Unit)}{Q:ai->am->Prop}{Qp:VK}(B:jD X g x j l)(hk:k<=l.length)(hc:X.calm=ah)(hi:PI X tg F wi)(cZ:∀C E G ex pn,PG (cH X g j C E G ex pn) tg λv N H Q=>∃S,S.length=k+1/\N.length=j.length/\tgf v H S/\Q (S++N.drop (k+1)) H)(ht:∀C E G ex pn,qC (cH X g j C E G ex pn) ifs ts) (he:∀C E G ex pn,PE (cH X g j C E G ex pn) elt te) (hs:∀x,n6 F X.env x=pure x) (I:Inv X m t H s) (h:Cu wi tgf k ts te l t H Qp)(fin:∀{w s6:am}{O H5:Hp}{K σ5 a f},Inv X m t O w->(∀b∈K,lI X m O b)->Inv (cH X g j w.heap.objs.size w O K m) [] σ5 H5 s6->Qp (.ref a) H5->compPost (ax X.prog X.w) X.A X.xe use Q (.ref a) w.heap.objs.size (.ok f) s6):au (ax X.prog X.w) X.A (comprehension (.ListComp elt [⟨tg,F,ifs,0⟩] g pos) g X.env pos' (newList []) aj (aL F X.env) use) Q X.xe s:=by
 refine wpAny_comprehension_free (use:=use) rfl hs (Tc (I.freeHas B)) B.kind B.names (aM (hi m s t H _ I h) λv s1 h1=>aM h1 λitv D h2=>?_);obtain⟨it,K,tn,J,H2,e,I2,T,bf,f2,h2⟩:=h2;subst e;refine n_ ?_;have I3:Inv X m t (upd H2 D.heap.objs.size (.lst [])) {D with heap:=D.heap.push {cls:=.type "list",data:=.seq ([]:List ai).toArray},toks:=D.toks}:=I2.lnew (its:=[]) (t':=D.toks) .nil (jO _);obtain⟨W,⟨m0,w0⟩,turn⟩:=h2 D.heap.objs.size I2.fresh;generalize mT:({D with heap:=D.heap.push {cls:=.type "list",data:=.seq ([]:List ai).toArray},toks:=D.toks}:am)=w at I3;have hs3':({D with heap:=D.heap.push {cls:=.type "list",data:=.seq ([]:List ai).toArray}}:am)=w:=mT;generalize hH3:upd H2 D.heap.objs.size (.lst [])=O at I3 w0;have nl:∀b∈K,b≠D.heap.objs.size:=λb A e=>by obtain⟨o,ho,_⟩:=T.obj _ _ bf b A;exact absurd (bR ho) (by rw[e];exact fG _)
 have k3:∀b o,D.heap.get? b=aa o->w.heap.get? b=aa o:=λb o e=>by rw[<-mT];exact bu _ e
 have f3:∀b∈K,lI X m O b:=λb A=>⟨by rw[<-hH3,br (nl b A)];exact(f2 b A).1,(f2 b A).2⟩
 have bL:tn 0 w.heap:=T.keep _ _ _ bf λb _ o e=>k3 b o e;have fo3:∀b∈K,∃o,w.heap.get? b=aa o:=λb A=>(T.obj _ _ bL b A).imp λo q=>q.1;refine OY ?_;generalize hh:pushCells (w.heap.push {cls:=.type "dict",data:=.dict #[]}) g.names=h₁;have old:∀b o,w.heap.get? b=aa o->h₁.get? b=aa o:=λb o e=>hh ▸ pushCells_keeps _ _ b o (bu _ e);have lV:h₁.Ns w.heap.objs.size (λ_=>ae):=hh ▸ (Heap.Ns.new w.heap (.type "dict")).keeps (pushCells_keeps _ _);have I4:=Inv.block (t':=w.toks) hh.symm I3 B f3 fo3 lV old;have bW:tn 0 h₁:=T.keep _ _ _ bL λb _ o e=>old b o e;have L:∀{H':Hp},(∀b∈K,H' b=ae)->∀b∈K,lI (cH X g j w.heap.objs.size w O K m) [] H' b:=λhn b A=>by
  obtain⟨f0,f1,f2',f3',f4,f5⟩:=f3 b A;refine⟨hn b A,λe=>?_,λhf=>?_,.inl A,λy c h=>?_,λp hp=>f5 p (by simpa[cH]using hp)⟩
  .obtain⟨o,ho⟩:=fo3 b A;exact absurd (bR ho) (by rw[show b=w.heap.objs.size from e];exact fG _)
  .rcases bC.mp (I3.stkSub b hf)with z|z
   .exact f1 z
   .exact f2' z
  .rcases I3.cbIn B h with⟨a1,a2⟩|⟨a1,a2⟩
   .rintro rfl;obtain⟨o,ho⟩:=fo3 _ A;exact y9 (FA a1).2.1 (bR ho)
   .exact f4 y c a2
 have Y:lO (ax X.prog X.w) X.A (.compLoop (.ListComp elt [⟨tg,F,ifs,0⟩] g pos) 0 (.ref it) (.ref D.heap.objs.size) (compEnvC g (l_ X g w.heap.objs.size) w.heap.objs.size X.env))
   (compPost (ax X.prog X.w) X.A X.xe use Q (.ref D.heap.objs.size) w.heap.objs.size) {w with heap:=h₁,toks:=w.toks}:=by
  refine MY (λn s'=>∃i P N H',(∃pre:St,pre.length=k+1/\N=pre++(gT t l).drop k)/\Inv (cH X g j w.heap.objs.size w O K m) [] N H' s'/\tn i s'.heap/\(∀b∈K,H' b=ae)/\W i n P H') ?_ m0
   ⟨0,[],_,O,⟨(ae::gT t l).take (k+1),by simp[gT];lia,by rw[<-Ji (a:=ae)];exact(mH _ _).symm⟩,I4,bW,λb A=>(f3 b A).1,w0⟩
  rintro n s5 ⟨i,P,σ5,H5,⟨pre,wv,rfl⟩,I5,cy,fr5,w5⟩;rcases turn i n P H5 w5 with⟨stop,q⟩|⟨go,step⟩
  .refine eG (T.done (cH X g j w.heap.objs.size w O K m) rfl rfl rfl hc i [] s5 _ H5 (λ_ _=>False) I5 (L fr5) cy stop) (λr s6 ⟨hr,I6⟩=>?_) (λ_ _ f=>f.elim);subst hr;exact fin I3 f3 I6 q
  .refine eG (T.item (cH X g j w.heap.objs.size w O K m) rfl rfl rfl hc i [] s5 _ H5 (λ_ _=>False) I5 (L fr5) cy go) (λr s6 ⟨u,hr,h6⟩=>?_) (λ_ _ f=>f.elim);subst hr;refine eG h6 (λ_ s7 ⟨v,H7,I7,r7,y7,Z,fr7⟩=>?_) (λ_ _ f=>f.elim);have I7':=I7.pinned (L fr7) (T.obj _ _ Z);have back:∀{M:St}{H8:Hp}{s8:am},Inv (cH X g j w.heap.objs.size w O K m) ([]++vo K s7.heap) M H8 s8->tn (i+1) s8.heap/\(∀b∈K,H8 b=ae):=λ{M H8 s8} I8=>⟨T.keep _ _ _ Z λb A o e=>(I8.pin (b,o) (iW _ (iW _ (yI A e)))).1,λb A=>by obtain⟨o,e,d⟩:=T.obj _ _ Z b A;exact(I8.pin (b,o) (iW _ (iW _ (yI A e)))).2.1⟩
   obtain⟨S,d8,htg,step⟩:=step v H7 y7;refine aM (cZ _ _ _ _ _ _ s7 _ H7 v u (λM H8=>M=S++(gT t l).drop k/\H8=H7) I7' r7 ⟨S,d8,I7'.len,htg,by rw[v8 ∅,List.drop_eq_nil_of_le ∅];rfl,rfl⟩) λ_ s8 ζ=>?_;obtain⟨M,H8,I8,e8,e8'⟩:=ζ;subst e8 e8';refine aM (ht _ _ _ _ _ _ s8 _ _ _ I8 step) λb s9 ζ=>?_;obtain⟨H9,I9,q9⟩:=ζ;cases b with
   |false=>
    obtain⟨m',hm,w9⟩:=(show ∃m',m'<n/\W (i+1) m' P H9 from q9)
    exact⟨m',hm,i+1,P,_,H9,⟨S,d8,rfl⟩,I9.unpinned,(back I9).1,(back I9).2,w9⟩
   |true=>refine aM (he _ _ _ _ _ _ s9 _ H9 _ I9 q9) λu10 s10 ζ=>?_;obtain⟨y,H10,I10,r10,hl10,hz10,m',hm,w10⟩:=ζ;refine aM (GT _ s10 _ H10 (.ref D.heap.objs.size) [y] _ [u10] (λz H11=>H11=upd H10 D.heap.objs.size (.lst (P++[y]))) I10 rfl (.cons r10 .nil) ⟨_,P,y,rfl,rfl,hl10,hz10,rfl⟩) λ_ s11 ζ=>?_;obtain⟨_,H11,I11,_,e11⟩:=ζ;subst e11;exact⟨m',hm,i+1,P++[y],_,_,⟨S,d8,rfl⟩,I11.unpinned,(back I11).1,(back I11).2,w10⟩
 exact codeAny_compStart_list Y (T.self _ 0 _ _ _ bW Y)
theorem Eu{w:Pos}(B:jD X g x j l):∀C b c i f,PG (cH X g j C b c i f) (.Name x w) λv d H Q=>∃n,n.length=0+1/\d.length=j.length/\IF v H n/\Q (n++d.drop (0+1)) H:=by
 intro C b c i f m s d H v u Q I r h;obtain⟨n,_,z,y,q⟩:=h;cases (show n=[aa v] from y);have A:Loc (cH X g j C b c i f).env.scope x:=B.loc.elim (λh=>.inl (lookup_relabel_local h)) (λh=>.inr (Be h));have o:(cH X g j C b c i f).fn x=ah\/(cH X g j C b c i f).env.scope.names.lookup x=aa .local:=B.loc.elim (λh=>.inr (lookup_relabel_local h)) (λh=>.inl (by show(g.names.lookup x == aa .cell)=ah;rw[h];rfl));have p:(cH X g j C b c i f).N[0]?=aa x:=by show j[0]?=aa x;rw[<-List.head?_eq_getElem?];exact B.hd
 refine IK B.nd p A o m s d H v u Q I r ?_;show Q (d.set 0 (aa v)) H;cases d with
 |nil=>rw[j_,B.len]at z;lia
 |cons a r=>exact q
theorem Gn{f b:az}{p pos:Pos}{d:List az}{wi:TI}{ts:TT}{te:TE}(B:jD X g x j l)(A:X.calm=ah)(y:PI X (.Name x p) b wi)(v:∀C a c o i,qC (cH X g j C a c o i) d ts) (z:∀C a c o i,PE (cH X g j C a c o i) f te) (w:∀x,n6 b X.env x=pure x:=by intro _;rfl):PE X (.ListComp f [⟨.Name x p,b,d,0⟩] g pos) (Ct wi ts te l):=by intro m s t H Q I h;rw[eval_ListComp];exact HD (use:=ae) B (jO _) A y (Eu B) v z w I h λD f3 r q=>by obtain⟨u,n,_⟩:=r.loc;exact⟨u,n,λE sb=>⟨.ref _,_,D.unblock f3 r sb,rfl,q⟩⟩
end
def Walk(J:It)(xs:List V)(R:Hp->Prop):Prop :=
 ∀H,R H->∀i,(∀x,xs[i]?=aa x->J.go i H/\∀y a,J.yld i H y a->a=H/\y=x)/\(i=xs.length->J.stop i H)
theorem Py{K:ay}{a:ag}{xs:List V}:Walk (At K a) xs (λH=>cC K H a xs):=λH h i=>⟨λx b=>⟨⟨xs,x,h,b⟩,λy d z=>⟨z.1,by have:=z.2 xs h;rw[b]at this;exact(dZ this).symm⟩⟩,λc=>⟨xs,h,mG c.symm⟩⟩
theorem K4{K:ay}{a:ag}{xs:List V}:Walk (BL K a) xs (λH=>cR K H a xs):=λH h i=>⟨λx b=>⟨⟨xs,x,h,b⟩,λy d z=>⟨z.1,by have:=z.2 xs h;rw[b]at this;exact(dZ this).symm⟩⟩,λc=>⟨xs,h,mG c.symm⟩⟩
def sG(a:Int)(n:Nat):List V:=(dy n).map λi=>V.int (a+(i:Nat))
theorem AK(a:Int)(n:Nat):(sG a n).length=n:=by simp[sG]
theorem NP{b:Int}{n:Nat}:Walk (yi b n) (sG b n) (λ_=>True):=λH _ i=>by
 refine⟨λx a=>?_,λc=>by rw[AK]at c;exact mG c.symm⟩;have d:i<n:=by have:=(d7.mp a).1;rw[AK]at this;exact this
 refine⟨d,λy g z=>⟨z.1,?_⟩⟩;unfold sG at a;rw[kF,Jj d]at a;have f:V.int (b+(i:Nat))=x:=dZ a;rw[z.2,<-f]
def sg(c:Nat):V:=.str ⟨#[c]⟩
def vG(z:Str):It:=⟨λi _=>i<z.cps.size,λi H x a=>a=H/\∃c,z.cps[i]?=aa c/\x=sg c,λi _=>i=z.cps.size⟩
theorem Qw{z:Str}:Walk (vG z) (z.cps.toList.map sg) (λ_=>True):=λH _ i=>by
 refine⟨λx a=>?_,λd=>by show i=z.cps.size;simpa using d⟩;rw[kF]at a;cases e:z.cps.toList[i]? with
 |none=>rw[e]at a;cases a
 |some c=>
  rw[e]at a;have f:i<z.cps.size:=by have:=(d7.mp e).1;simpa using this
  refine⟨f,λy h w=>⟨w.1,?_⟩⟩;obtain⟨g,b,rfl⟩:=w.2;have:z.cps[i]?=aa c:=by simpa using e
  rw[this]at b;cases b;exact(dZ a)
section
variable{X:Cx}{a:az}
theorem RP{P:aS}{w:aG}{K:ay}{z:Str}{d:ag}{f:Nat->aB->Prop} (O:∀i h,f i h->∃o n r,h.get? d=aa o/\o.cls=.type n/\o.data=.fields r /\ ["enumerate","zip","dict_itemiterator","dict_reverseitemiterator","odict_iterator","itertools.zip_longest","itertools.pairwise"].contains n=aj)(UF:∀(A:aV) (i:Nat) (s:am) (Q:ai->am->Prop) (E:ai->am->Prop),f i s.heap->Q (.ref d) s->au (ax P w) A (mD (.ref d)) Q E s)(B:∀A:aV,A.handled=ae->Walks P w A d [d] [d] z.cps.size (SignAt z) f):qj P w K a (vG z) [d] d f where
 mem:=by simp
 obj:=λi h g b j=>by
  have e:b=d:=by simpa using j
  subst e;obtain⟨o,n,r,G,_,F,_⟩:=O i h g;exact⟨o,G,λv q=>by rw[F]at q;cases q⟩
 keep:=λi h m g k=>by exact(B ({}:aV) rfl).frame i h m g k
 item:=by intro X C t D y i S s N H E I p g x;subst C t D;obtain⟨M,L,f2,f3,f4,J⟩:=p d (by simp);refine(B X.A (I.ok.hd y)).item i s _ _ x g λv m l Y T k=>?_;have I1:Inv X S N H {s with heap:=m,toks:=l}:=I.turned (t':=l) (λb o j e=>k b o (by simpa using j) e) M L f3 f4 J;obtain⟨o,n,r,G,h2,F,Z⟩:=O _ _ T;obtain⟨c,u,e1,rfl⟩:=Y;exact⟨_,rfl,r_ (s:={s with heap:=m,toks:=l}) G h2 F Z ⟨sg c,H,I1,⟨u,rfl⟩,⟨rfl,c,e1,rfl⟩,T,λb j=>(p b j).1⟩⟩
 done:=by intro X C t D y i S s N H E I p g x;subst C t D;obtain⟨M,L,f2,f3,f4,J⟩:=p d (by simp);have W:i=z.cps.size:=x;subst W;exact(B X.A (I.ok.hd y)).done s _ _ g λm l k=>⟨rfl,I.turned (t':=l) (λb o j e=>k b o (by simpa using j) e) M L f3 f4 J⟩
 self:=UF
theorem Q4{J:It}{xs:List V}{R:Hp->Prop}{g:TG}{l:TS}{D:lu}{b:St}{H:Hp}(A:Walk J xs R)(c:Nat->St->Hp->Prop)(B:c 0 b H)(v:∀i b H,i<=xs.length->c i b H->R H)(u:∀i x b H,xs[i]?=aa x->c i b H->g x b H λf j=>l {D with nx:=c (i+1),ct:=c (i+1),bk:=D.nx} f j) (z:∀b H,c xs.length b H->D.nx b H):∃W:Nat->Nat->St->Hp->Prop,(∃m,W 0 m b H)/\∀i m b H,W i m b H -> (J.stop i H/\D.nx b H)\/(J.go i H/\∃N:St->Hp->Prop,(∀h d,N h d->∃n,n<m/\W (i+1) n h d)/\∀x d,J.yld i H x d->g x b d λf j=>l {D with nx:=N,ct:=N,bk:=D.nx} f j):=by
 refine⟨λi m b H=>m=xs.length-i/\i<=xs.length/\c i b H,⟨xs.length,by simp,jO _,B⟩,?_⟩;rintro i m b H ⟨rfl,w,p⟩;have q:=A H (v i b H w p) i;by_cases r:i<xs.length
 .have o:xs[i]?=aa xs[i]:=by simp[r]
  obtain⟨C,s⟩:=q.1 xs[i] o;refine .inr ⟨C,c (i+1),λh d t=>⟨xs.length-(i+1),∅,rfl,r,t⟩,λx d y=>?_⟩;obtain⟨rfl,rfl⟩:=s x d y;exact u i _ b _ o p
 .have e:i=xs.length:=∅
  subst e;exact .inl ⟨q.2 rfl,z b H p⟩
theorem Tr{b:Type}(l:List b)(f:b->Bool)(d:Nat->Bool)(c:∀i x,l[i]?=aa x->d i=f x):(dy l.length).all d=l.all f:=by
 induction l generalizing d with
 |nil=>rfl
 |cons x r g=>rw[eh,v9,tP,C3,tP,c 0 x rfl];congr 1;exact g _ λi y h=>c (i+1) y (by simpa using h)
theorem TX{bs:List Bool}{b:List ai}(r:bt (bs.map V.bl) b){i:Nat}{v:ai}(h:b.toArray[i]?=aa v):v=.bool (bs.getD i aj):=by
 have d:=r.length;rw[cn]at d;have g:i<b.length:=by have:=(qY.mp h).1;simpa using this
 have e:(bs.map V.bl)[i]?=aa (.bl (bs.getD i aj)):=by rw[kF,fg ∅];simp[List.getD,fg (show i<bs.length by lia)]
 obtain⟨u,c,f⟩:=r.get e;have:b[i]?=aa v:=by simpa using h
 rw[this]at c;cases c;exact f
theorem z9{A:aV}(h:A.handled=ae):A.in1.handled=ae:=h
theorem HU(j:X.calm=ah):eC X (.builtin "all") (λxs H Q=>∃(p:ag) (bs:List Bool),xs=[.ref p]/\cC X.K H p (bs.map V.bl)/\Q (.bl (bs.all id)) H):=by
 intro L s n H xs N Q I r h;obtain⟨p,bs,rfl,D,q⟩:=h;obtain⟨u,rfl,w⟩:=vals1 r;cases w;obtain⟨d,l,f,P⟩:=I.list D;have m:=l.length;rw[cn]at m;refine call_all_walk (C4 f.isList ?_);have K:p≠s.heap.objs.size:=by obtain⟨o,g,_⟩:=f.isList;exact c8 (bR g)
 refine⟨s.heap.objs.size,_,_,_,_,_,λi=>bs.getD i aj,rfl,Walks.list (z9 (I.ok.hd j)) s.heap.objs.size p K d.toArray,⟨⟨_,cI _ rfl,rfl,rfl⟩,?_⟩,λi v O T W C J=>?_,λS t k=>?_⟩
 .obtain⟨o,g,j,F⟩:=f.isList;exact⟨o,bu _ g,j,F⟩
 .rw[TX l C];exact nY J
 .have e:(dy d.toArray.size).all (λi=>bs.getD i aj)=bs.all id:=by
   rw[cr,<-m];exact Tr bs id _ λi x B=>by simp[List.getD,B]
  rw[e];have M:Inv X L n H {s with heap:=s.heap.push {cls:=.type "list_iterator",data:=.fields #[.ref p,.int 0 0]},toks:=s.toks}:=I.kept (t':=s.toks) λb o e=>bu _ e;exact⟨.bl _,H,Inv.turned (t':=t) M (it:=s.heap.objs.size) (λb o G e=>k b o (by simpa using G) e) I.fresh (mC I.lt) (.inr I.sz) (λx c e z=>by obtain⟨v,y⟩:=I.cell x c e;exact absurd y.lt (by rw[z];exact fG _)) (λA E z=>absurd (bR (I.pin A E).1) (by rw[z];exact fG _)),rfl,q⟩
end
section
variable{X:Cx}
def mf(z:Str)(a b:Option Int):Str:=⟨((z.cps.toList.drop (HT.sIx z.length 0 a)).take (HT.sIx z.length z.length b-HT.sIx z.length 0 a)).toArray⟩
theorem Q2(a b:Nat):sliceRange (a:Int) (b:Int) 1=(dy (b-a)).map λk=>a+k:=by
 unfold sliceRange;have e:(if(1:Int) > 0 then(if(a:Int)<(b:Int)then((b:Int)-a+1-1) / 1 else 0)else(if(a:Int) > b then((a:Int)-b-1-1) / (-1)else 0)).toNat=b-a:=by
  rw[if_pos (by decide)];split
  .rw[Int.ediv_one];lia
  .have:b-a=0:=∅
   rw[this];rfl
 show(dy (if(1:Int) > 0 then(if(a:Int)<(b:Int)then((b:Int)-a+1-1) / 1 else 0)else(if(a:Int) > b then((a:Int)-b-1-1) / (-1)else 0)).toNat).map _=_;rw[e];refine f_ λk _=>?_;lia
theorem LI(a b:Option Int)(n:Nat):Builtin.Str.strSliceIndices a b 1 n=(dy (HT.sIx n n b-HT.sIx n 0 a)).map λk=>HT.sIx n 0 a+k:=by
 rw[<-Q2];have p:(1:Int) > 0:=by decide
 cases a <;> cases b <;> (unfold Builtin.Str.strSliceIndices HT.sIx;simp only[p,if_true];congr 1 <;> (try split) <;> lia)
theorem Nf{b:Type}(l:List b)(a k:Nat):((dy k).map λj=>a+j).filterMap (λi=>l[i]?)=(l.drop a).take k:=by
 induction k with
 |zero=>simp
 |succ k c=>
  rw[tW,tX,List.filterMap_append,c,List.take_succ];congr 1;simp[vP];cases l[a+k]? <;> rfl
theorem M_(z:Str)(t:Tok)(l u:Option (Int×Tok)):∃m,sliceMade z t l u ae=m/\(m=.val (.str z t)/\mf z (l.map (·.1)) (u.map (·.1))=z\/m=.str (mf z (l.map (·.1)) (u.map (·.1)))):=by
 refine⟨_,rfl,?_⟩;unfold sliceMade slicePicked;have e:=LI (l.map (·.1)) (u.map (·.1)) z.length;simp only[Option.map_none,Jc];rw[e];have d:=Nf z.cps.toList (HT.sIx z.length 0 (l.map (·.1))) (HT.sIx z.length z.length (u.map (·.1))-HT.sIx z.length 0 (l.map (·.1)));have b:(((dy (HT.sIx z.length z.length (u.map (·.1))-HT.sIx z.length 0 (l.map (·.1)))).map λk=>HT.sIx z.length 0 (l.map (·.1))+k).filterMap (z.cps[·]?)).toArray=(mf z (l.map (·.1)) (u.map (·.1))).cps:=by unfold mf;rw[<-d];simp
 split
 .rename_i h;left;refine⟨rfl,?_⟩;simp only[beq_self_eq_true,Bool.true_and,cn,Jk,beq_iff_eq]at h;have g:HT.sIx z.length z.length (u.map (·.1))<=z.length:=HT.sIx_le _ _ (a9 _) _;have f:z.cps.toList.length=z.length:=by simp[pt]
  have a:HT.sIx z.length 0 (l.map (·.1))=0\/z.length=0:=∅
  unfold mf;rw[h];rcases a with a|a
  .rw[a,qZ,i5 ∅]
  .have:z.cps.toList=[]:=ka ∅;rw[this];cases z;rename_i c;simp at this;subst this;simp
 .right;rw[show(⟨(((dy (HT.sIx z.length z.length (u.map (·.1))-HT.sIx z.length 0 (l.map (·.1)))).map λk=>HT.sIx z.length 0 (l.map (·.1))+k).filterMap (z.cps[·]?)).toArray⟩:Str)=mf z (l.map (·.1)) (u.map (·.1))from by rw[b]]
def GG:V->Option Int->Option Int->Hp->VK->Prop:=λx a b H Q=>∃z,x=.str z/\z.length<=bd/\Q (.str (mf z a b)) H
theorem S5(z:Str)(a b:Option Int):(mf z a b).length<=z.length:=by unfold mf pt;simp;lia
theorem part_of{v:ai}{o:Option Int}(p:n9 v o):∃q:Option (Int×Tok),v=partValue q/\q.map (·.1)=o:=by
 cases p with
 |none=>exact⟨ae,rfl,rfl⟩
 |int i t=>exact⟨aa (i,t),rfl,rfl⟩
theorem UT:nu X GG:=by
 intro y s n H x v p o r w a Q I b g d c h;obtain⟨z,rfl,f,q⟩:=h;obtain⟨t,rfl⟩:=b;obtain⟨l,rfl,rfl⟩:=part_of d;obtain⟨u,rfl,rfl⟩:=part_of c;refine⟨"str",_,F.slot_str_getitem.lookup,typeIs_str s z t,?_⟩;obtain⟨m,j,i⟩:=M_ z t l u;refine getItem_meets (typeIs_str s z t) (by decide) F.slot_str_getitem F.entry_str_getitem (F.args_str_getitem_2 _ _) (meets_str_getitem_slice z t a l u ae (by decide)) ⟨g,?_⟩;rw[j];rcases i with⟨rfl,e⟩|rfl
 .exact⟨.str z,H,I,⟨t,rfl⟩,by rw[e]at q;exact q⟩
 .exact⟨cP (S5 z _ _) f,⟨.str _,H,I.tok _,⟨_,rfl⟩,q⟩⟩
def je(K:ay)(H:Hp)(d:Nat)(x y:V)(k:Bool):Prop :=
 ∀(X:Cx),X.K=K->∀(b:List (ag×Obj)) (a:St) (s:am) (u v:ai) (A:aV),Inv X b a H s->RelV x u->RelV y v->A.units+d<cLine->vW A s u v k
theorem LP{K:ay}{H:Hp}{d:Nat}{x y:V}(f:gk x=ah)(c:gk y=ah):je K H d x y (dU x y):=λ_ _ _ _ _ _ _ _ _ b a _=>Gb b a f c
def gD(e:Nat->Bool)(n m:Nat):Bool:=(dy (min n m)).all e&&n == m
theorem IC{A:aV}:A.in1.units=A.units+1:=rfl
theorem Bl{H:Hp}{d:Nat}{a b:ag}{xs c:List V}{e:Nat->Bool}{D:List (ag×Obj)}{o:St}{s:am}{A:aV}(I:Inv X D o H s)(L:cC X.K H a xs)(K:cC X.K H b c)(J:∀(j:Nat) x y,xs[j]?=aa x->c[j]?=aa y->je X.K H d x y (e j)) (Q:A.units+(d+1)<cLine):SeqAt.RcAt A s (.ref a) (.ref b) (gD e xs.length c.length)/\SeqAt.RcNeAt A s (.ref a) (.ref b) (!gD e xs.length c.length):=by
 obtain⟨g,q,n,_⟩:=I.list L;obtain⟨i,p,f,_⟩:=I.list K;have G:=q.length;have P:=p.length;have w:∀j (B:j<g.toArray.size) (z:j<i.toArray.size),vW A.in1 s g.toArray[j] i.toArray[j] (e j):=λj B z=>by
  have M:j<g.length:=by simpa using B
  have N:j<i.length:=by simpa using z
  have l:xs[j]?=aa xs[j]:=fg ∅;have C:c[j]?=aa c[j]:=fg ∅;obtain⟨u,t,F⟩:=q.get l;obtain⟨v,r,E⟩:=p.get C;have O:g[j]=u:=by rw[fg M]at t;exact dZ t
  have f2:i[j]=v:=by rw[fg N]at r;exact dZ r
  have:=J j xs[j] c[j] l C X rfl D o s u v A.in1 I F E (by rw[IC];lia);simpa[O,f2]using this
 by_cases h:xs.length=c.length
 .have m:g.toArray.size=i.toArray.size:=by simp;lia
  have l:gD e xs.length c.length=(dy g.toArray.size).all e:=by unfold gD;rw[h,Nat.min_self,beq_self_eq_true,Bool.and_true,cr,<-G,h]
  rw[l];exact⟨.lists n.isList f.isList m ∅ w,.lists n.isList f.isList m ∅ w⟩
 .have l:gD e xs.length c.length=aj:=by
   unfold gD;rw[beq_false_of_ne h,Bool.and_false]
  have m:(g.toArray.size != i.toArray.size)=ah:=by simp;lia
  rw[l];exact⟨.lists_lengths n.isList f.isList m ∅,.lists_lengths n.isList f.isList m ∅⟩
theorem Co{H:Hp}{d:Nat}{a b:ag}{xs c:List V}{e:Nat->Bool}{B:List (ag×Obj)}{l:St}{s:am}{A:aV}(I:Inv X B l H s)(K:cR X.K H a xs)(J:cR X.K H b c)(G:∀(j:Nat) x y,xs[j]?=aa x->c[j]?=aa y->je X.K H d x y (e j)) (O:A.units+(d+1)<cLine):SeqAt.RcAt A s (.ref a) (.ref b) (gD e xs.length c.length)/\SeqAt.RcNeAt A s (.ref a) (.ref b) (!gD e xs.length c.length):=by
 obtain⟨g,n,q,_⟩:=I.tuple K;obtain⟨f,m,h,_⟩:=I.tuple J;have E:=n.length;have F:=m.length;have r:∀j (w:j<g.toArray.size) (t:j<f.toArray.size),vW A.in1 s g.toArray[j] f.toArray[j] (e j):=λj w t=>by
  have L:j<g.length:=by simpa using w
  have M:j<f.length:=by simpa using t
  have i:xs[j]?=aa xs[j]:=fg ∅;have z:c[j]?=aa c[j]:=fg ∅;obtain⟨u,p,D⟩:=n.get i;obtain⟨v,o,C⟩:=m.get z;have N:g[j]=u:=by rw[fg L]at p;exact dZ p
  have f2:f[j]=v:=by rw[fg M]at o;exact dZ o
  have:=G j xs[j] c[j] i z X rfl B l s u v A.in1 I D C (by rw[IC];lia);simpa[N,f2]using this
 have i:gD e xs.length c.length=((dy (min g.toArray.size f.toArray.size)).all e&&g.toArray.size == f.toArray.size):=by unfold gD;rw[cr,cr,<-E,<-F]
 rw[i];exact⟨.tuples q h ∅ r,.tuples q h ∅ r⟩
theorem Kt{K:ay}{H:Hp}{d:Nat}{a b:ag}{xs c:List V}{e:Nat->Bool}(m:cC K H a xs)(l:cC K H b c)(o:a≠b)(i:∀(j:Nat) x y,xs[j]?=aa x->c[j]?=aa y->je K H d x y (e j)):je K H (d+1) (.ref a) (.ref b) (gD e xs.length c.length):=λX n q p s u v A I g f h=>by
 subst n;cases g;cases f;exact .of_refs o (Bl I m l i h).1
theorem MF{K:ay}{H:Hp}{d:Nat}{a b:ag}{xs c:List V}{e:Nat->Bool}(m:cR K H a xs)(l:cR K H b c)(o:a≠b)(i:∀(j:Nat) x y,xs[j]?=aa x->c[j]?=aa y->je K H d x y (e j)):je K H (d+1) (.ref a) (.ref b) (gD e xs.length c.length):=λX n q p s u v A I g f h=>by
 subst n;cases g;cases f;exact .of_refs o (Co I m l i h).1
theorem EA{K:ay}{H:Hp}{d:Nat}{a:ag}:je K H d (.ref a) (.ref a) ah:=λX h i f s u v A I c b g=>by
 cases c;cases b;exact .same _
def uJ(K:ay)(f:Bool):R2:=λx y H Q=>∃a b xs c d e,x=.ref a/\y=.ref b/\((cC K H a xs/\cC K H b c)\/(cR K H a xs/\cR K H b c))/\d<=8 /\
 (∀(j:Nat) x y,xs[j]?=aa x->c[j]?=aa y->je K H d x y (e j))/\Q (.bl (if f then !gD e xs.length c.length else gD e xs.length c.length)) H
theorem KQ(m:X.A.units+64<cLine):cb X (eJ .Eq) (uJ X.K aj):=by
 intro o s j H x y v u Q I g f h;obtain⟨a,b,xs,l,d,e,rfl,rfl,i,n,c,q⟩:=h;cases g;cases f;rcases i with⟨h1,h2⟩|⟨h1,h2⟩
 .exact(Bl I h1 h2 c ∅).1 _ _ _ _ ⟨.bl _,H,I,rfl,q⟩
 .exact(Co I h1 h2 c ∅).1 _ _ _ _ ⟨.bl _,H,I,rfl,q⟩
theorem QO(m:X.A.units+64<cLine):cb X (eJ .NotEq) (uJ X.K ah):=by
 intro o s j H x y v u Q I g f h;obtain⟨a,b,xs,l,d,e,rfl,rfl,i,n,c,q⟩:=h;cases g;cases f;rcases i with⟨h1,h2⟩|⟨h1,h2⟩
 .exact(Bl I h1 h2 c ∅).2 _ _ _ _ ⟨.bl _,H,I,rfl,q⟩
 .exact(Co I h1 h2 c ∅).2 _ _ _ _ ⟨.bl _,H,I,rfl,q⟩
def Nr(K:ay):V->List V->Hp->VK->Prop:=λx a H Q=>∃(p:ag) (xs:List V) (y:V),x=.ref p/\a=[y]/\H p=aa (.lst xs)/\gk y=ah/\xs.all gk=ah/\Q (.int ((xs.countP λz=>dU z y:Nat):Int)) H
theorem Si{y:V}{xs:List V}{a:List ai}(r:bt xs a)(f:xs.all gk=ah):a.countP (jH y)=xs.countP λz=>dU z y:=by
 unfold bt at r
 induction r with
 |nil=>rfl
 |cons r _ g=>rw[tP,gn]at f;rw[List.countP_cons,List.countP_cons,uI r f.1,g f.2]
theorem MW:vM X "list.count" (Nr X.K):=by
 intro A s l H x m v o Q I c d h;obtain⟨p,xs,y,rfl,rfl,i,j,b,q⟩:=h;cases c;obtain⟨u,rfl,f⟩:=d.one;obtain⟨z,a,n,r,t,e⟩:=I.lstM i;refine tR F.slot_list_count ⟨_,e,rfl⟩ F.entry_list_count (F.args_list_count_2 _ _) (SeqAt.list_countAt p a.toArray n ae #[] u (jH y)) ⟨e,λw g=>uB f j r b w (by simpa using g),?_⟩;exact⟨.int _,H,I.tok _,⟨_,by rw[Jl,Si r b]⟩,q⟩
def Pk:V->List V->Hp->VK->Prop:=λx a H Q=>∃(p:ag) (xs:List V) (y:V) (j:Nat),x=.ref p/\a=[y]/\H p=aa (.lst xs)/\gk y=ah/\xs.all gk=ah/\j<xs.length /\
 (∀z,xs[j]?=aa z->dU z y=ah)/\(∀(i:Nat) z,i<j->xs[i]?=aa z->dU z y=aj)/\Q (.int j) H
theorem Qq:vM X "list.index" Pk:=by
 intro af s P H x S v T Q I t A h;obtain⟨p,xs,y,j,rfl,rfl,J,M,l,Z,L,K,q⟩:=h;cases t;obtain⟨u,rfl,B⟩:=A.one;obtain⟨z,a,n,r,Y,e⟩:=I.lstM J;have W:=qm;have c:∀(i:Nat) (g:i<a.toArray.size),∃w,xs[i]?=aa w/\jH y a.toArray[i]=dU w y:=λi g=>by
  have D:i<a.length:=by simpa using g
  have o:xs[i]?=aa xs[i]:=fg ∅;obtain⟨w,b,C⟩:=r.get o;have O:a[i]=w:=by rw[fg D]at b;exact dZ b
  refine⟨_,o,?_⟩;have N:gk xs[i]=ah:=q8.mp l _ (C5 _);rw[<-uI C N];simp[O]
 refine tR F.slot_list_index ⟨_,e,rfl⟩ F.entry_list_index (F.args_list_index_2 _ _) (SeqAt.list_indexAt p a.toArray n ae #[] u (jH y) j (by simp;lia) ∅ ?_ ?_) ⟨e,λw E=>uB B M r l w (by simpa using E),?_⟩
 .obtain⟨w,b,d⟩:=c j (by simp;lia);rw[d];exact L w b
 .intro m G f;obtain⟨w,b,d⟩:=c m G;rw[d];exact K m w f b
 .exact⟨.int _,H,I.tok _,⟨_,rfl⟩,q⟩
end
abbrev Tx:=List Nat
def tS(l:Tx):Str:=⟨l.toArray⟩
def tV(l:Tx):V:=.str (tS l)
def cO(a:List Tx):List V:=a.map tV
theorem o7(l:Tx):(tS l).cps.toList=l:=by simp[tS]
theorem kP(l:Tx):(tS l).length=l.length:=by simp[tS,pt]
theorem OX(z:Str):tS z.cps.toList=z:=by cases z;simp[tS]
theorem qi{a b:Tx}(h:tS a=tS b):a=b:=by rw[<-o7 a,h,o7]
theorem yP(a:List Tx):(cO a).length=a.length:=cn _
def dw(a b:Tx):Bool:=decide (a<=b)
def aQ(ls:List Tx):List Tx:=ls.mergeSort dw
theorem FW(a b c:Tx)(f:dw a b=ah)(d:dw b c=ah):dw a c=ah:=by simp only[dw,decide_eq_true_eq]at *;exact List.le_trans f d
theorem M9(a b:Tx):(dw a b||dw b a)=ah:=by simp only[dw,zA,decide_eq_true_eq];exact List.le_total a b
theorem QV{a b:Tx}(d:dw a b=ah)(c:dw b a=ah):a=b:=by simp only[dw,decide_eq_true_eq]at *;exact List.le_antisymm d c
theorem eQ(ls:List Tx):(aQ ls).Perm ls:=List.mergeSort_perm _ _
theorem o9(ls:List Tx):(aQ ls).Pairwise (λa b=>dw a b=ah):=List.pairwise_mergeSort FW M9 _
theorem BW(ls:List Tx):(aQ ls).length=ls.length:=(eQ ls).length_eq
theorem sY{c d:List Tx}(g:d.Perm c)(f:d.Pairwise (λa b=>dw a b=ah)):d=aQ c :=List.Perm.eq_of_pairwise (le:=λa b=>dw a b=ah) (λ_ _ _ _ i h=>QV i h) f (o9 c) (g.trans (eQ c).symm)
theorem yO{ls:List Tx}(c:ls.Pairwise (λa b=>dw a b=ah)):aQ ls=ls:=(sY (tY ls) c).symm
theorem Aq{a b:List Tx}(c:a.Perm b):aQ a=aQ b:=sY ((eQ a).trans c) (o9 a)
theorem FT:∀(p:Str) (l:List Str),risingS p l=ah->(p::l).Pairwise (λa b=>dw a.cps.toList b.cps.toList=ah)
 |p,[],_=>List.pairwise_singleton _ _
 |p,x::r,h=>by
  have d:(!ltCps x.cps.toList p.cps.toList&&risingS x r)=ah:=h;rw[gn,ltCps_eq]at d;have q:=FT x r d.2;have f:dw p.cps.toList x.cps.toList=ah:=by simp only[dw,decide_eq_true_eq];intro g;simp[g]at d
  refine List.pairwise_cons.mpr ⟨λy c=>?_,q⟩;rcases bC.mp c with rfl|c
  .exact f
  .exact FW _ _ _ f (List.rel_of_pairwise_cons q c)
theorem Tw{c:List Str}(h:sortedS c=ah):(c.map λz=>z.cps.toList).Pairwise (λa b=>dw a b=ah):=by
 rw[List.pairwise_map];cases c with
 |nil=>exact List.Pairwise.nil
 |cons x r=>exact FT x r h
theorem xq{a:List Tx}{b:List ai}(r:bt (cO a) b):eO b (a.map tS):=by
 induction a generalizing b with
 |nil=>cases r;exact .nil
 |cons l a g=>
  cases r with
  |cons e r=>obtain⟨t,rfl⟩:=e;exact .cons _ t (g r)
theorem P4{b:List Str}{a:List ai}(h:eO a b):bt (cO (b.map λz=>z.cps.toList)) a:=by
 induction h with
 |nil=>exact .nil
 |cons y t _ g=>exact .cons ⟨t,by rw[OX]⟩ g
section
variable{X:Cx}
theorem Od(z:Tx)(n:Nat):Txt.mul (tS z) (n:Int)=tS (bK n z).flatten:=by
 unfold Txt.mul;cases n with
 |zero=>simp[tS,ff]
 |succ n=>
  rw[if_neg ∅];split
  .rename_i h;simp only[zA,beq_iff_eq]at h;rcases h with h|h
   .have:n=0:=∅
    subst this;simp
   .rw[kP]at h;have:z=[]:=ka h;subst this;simp
  .unfold tS;congr 1;have b:∀(k:Nat) (a:Array Nat),(bK k z.toArray).foldl (·++·) a=a++(bK k z).flatten.toArray:=by
    intro k
    induction k with
    |zero=>intro a;simp
    |succ k c=>intro a;rw[pC,lf,c,pC,tQ];simp[Array.append_assoc]
   have e:=b (n+1) #[];simp only[pr];simpa using e
theorem Qd:cb X (iX .Mult) (λx y H Q=>∃(z:Tx) (n:Nat),x=tV z/\y=.int n/\n<=100/\z.length<=100/\Q (tV (bK n z).flatten) H):=by
 intro w s j H x y v u Q I c b h;obtain⟨z,n,rfl,rfl,f,d,q⟩:=h;obtain⟨t,rfl⟩:=c;obtain⟨m,rfl⟩:=b;refine SB.mul ?_ λl k=>?_
 .have o:z.length*n<=10000:=cP (zB d f) (by decide);refine⟨by rw[Bool.or_eq_false_iff];constructor <;> (apply decide_eq_false;lia),λi _=>?_,λi _=>?_⟩
  .rw[kP];intro g;have r:(2^63-1:Int) / n ≥ (2^63-1) / 100:=by
    have a:(0:Int)<n:=∅
    apply (Int.le_ediv_iff_mul_le a).mpr;have:((2^63-1:Int) / 100)*n<=((2^63-1) / 100)*100:=Int.mul_le_mul_of_nonneg_left ∅ (by decide);refine Int.le_trans this (by decide)
   have p:((2^63-1:Int) / 100) > 1000:=by decide
   lia
  .rw[kP,pr];unfold Builtin.Str.tooLong;apply decide_eq_false;have:10000<bd:=by rw[k_];decide
   lia
 .rw[Od];exact⟨tV _,H,I.tok _,⟨_,rfl⟩,q⟩
end
theorem Oi(t:kG)(j:Nat):(t.put j).1.led=t.led/\(t.put j).1.plain=t.plain:=⟨rfl,rfl⟩
theorem Ky(t:kG)(n:Nat):(t.orStandIn n).led=t.led/\((t.orStandIn n).plain=t.plain\/(t.orStandIn n).plain=aj):=by
 unfold SetTable.orStandIn;split
 .exact⟨rfl,.inl rfl⟩
 .exact⟨rfl,.inr rfl⟩
theorem LD(t:kG)(c:Array (Int×ai))(h:Int)(x:ai):(layNew t c h x).2.1.led=t.led/\((layNew t c h x).2.1.plain=t.plain\/(layNew t c h x).2.1.plain=aj):=by
 unfold layNew;split
 .rename_i a b _;have f:=Oi t a;have d:=Ky (t.put a).1 (SetTable.insertAt c (t.put a).2 (h,x)).size;exact⟨d.1.trans f.1,by rw[<-f.2];exact d.2⟩
 .exact⟨rfl,.inr rfl⟩
theorem PP(t:kG)(c:Array (Int×ai))(a:Nat)(d:t.plain=aj):(tZ t c a).2.1.led=t.led/\(tZ t c a).2.1.plain=aj:=by
 unfold tZ;split
 .rename_i t' b e;have q:t'.led=t.led/\t'.plain=t.plain:=by
   unfold SetTable.relaid SetTable.laid at e;cases q:SetTable.layClean (SetTable.sizeAbove a-1) (c.map (·.1))with
   |none=>rw[q]at e;cases e
   |some f=>rw[q]at e;cases e;exact⟨rfl,rfl⟩
  dsimp only;split
  .exact⟨q.1,q.2.trans d⟩
  .exact⟨rfl,rfl⟩
 .exact⟨rfl,rfl⟩
def cU(w:aG):Bool:=w.params.followText "set-order"
structure jJ(P:aS)(w:aG)(h:aB)(a:ag)(ks:List Str):Prop where
 ex:∃(es:Array (Int×ai)) (ep:Nat) (t:kG) (ss:List Str),h.get? a=aa {cls:=.type "set",dict:=ae,data:=.set es ep t}/\eO (es.toList.map (·.2)) ss/\ss.Perm ks/\ElemsOf (ju P w) es.toList /\
  es.size<4090/\t.fits es.size=ah/\t.led=(!cU w)/\(ks≠[]->t.plain=aj)
theorem jJ.at{P:aS}{w:aG}{h h':aB}{a:ag}{ks:List Str}(S:jJ P w h a ks)(k:∀o,h.get? a=aa o->h'.get? a=aa o):jJ P w h' a ks:=by obtain⟨es,b,t,ss,e,r⟩:=S.ex;exact⟨es,b,t,ss,k _ e,r⟩
theorem Hi:∀{a:List ai}{b:List Str},eO a b->∀x,x∈b↔∃t,Value.str x t∈a
 |_,_,.nil,x=>by simp
 |_,_,.cons y t h,x=>by
  rw[bC,Hi h x];constructor
  .rintro(rfl|⟨t',q⟩)
   .exact⟨t,lL ..⟩
   .exact⟨t',k8 _ q⟩
  .rintro⟨t',q⟩;rcases bC.mp q with q|q
   .cases q;exact .inl rfl
   .exact .inr ⟨t',q⟩
theorem AO:∀{a b:List ai},a.Perm b->∀{c:List Str},eO b c->∃d,eO a d/\d.Perm c:=by intro a b p c h;refine⟨a.map strOf,strsAre_map a λv f=>h.all v (p.mem_iff.mp f),?_⟩;have:=p.map strOf;rwa[h.strs]at this
section
variable{P:aS}{w:aG}{A:aV}{E:ai->am->Prop}{s:am}
def kw(ks:List Str)(x:Str):List Str:=if x∈ks then ks else ks++[x]
theorem jJ.put{h:aB}{a:ag}{c es':Array (Int×ai)}{b:Nat}{t t':kG}(e:h.get? a=aa {cls:=.type "set",dict:=ae,data:=.set c b t}):(h.update a (Obj.putSet es' t')).get? a=aa {cls:=.type "set",dict:=ae,data:=.set es' (b+1) t'}:=by have:=pA (Obj.putSet es' t') e (by rw[putSet_of es' t' rfl];rfl);rw[putSet_of es' t' rfl]at this;exact this
theorem EV{a:ag}{ks:List Str}{x:Str}{g:Tok}{Q:Bool->am->Prop}(S:jJ P w s.heap a ks)(hn:ks.length<4000)(h:∀l b,k9 a s.heap l->jJ P w l a (kw ks x)->Q b {s with heap:=l}):au (ax P w) A (setAddHashed a (.str x g) ((ju P w).hash x)) Q E s:=by
 obtain⟨m,ep,t,ss,W,X,hp,C,hsz,hf,rn,dS⟩:=S.ex;have v:∀y t',(ju P w).is x (.str y t')=decide (y=x):=λy t'=>by
  show nU x (.str y t')=_;rw[lM];simp[nU]
  try exact eq_comm
 have fH:(ju P w).is x (.str x g)=ah:=by rw[v];simp
 have hb:m.size<scanBound:=CY hsz (by decide);unfold setAddHashed setAddHashedIn;refine js (ar (t4 W rfl hf ?_));dsimp only;rw[byScan_of (knd:=ju P w) (x:=.str x g) rfl hb C];simp only[if_true];unfold setAddByScan;refine ar (ar (og (ar (wpAny_setScan_of fH W rfl hf C ?_))));have p:x∈ks↔∃e∈m.toList,(ju P w).is x e.2=ah:=by
  rw[<-hp.mem_iff,Hi X x];constructor
  .rintro⟨t',q⟩;obtain⟨e,H,ee⟩:=cx.mp q;exact⟨e,H,by rw[ee,v];simp⟩
  .rintro⟨e,H,q⟩;obtain⟨y,t',ey⟩:=X.all e.2 (cx.mpr ⟨e,H,rfl⟩);rw[ey,v]at q;have:y=x:=of_decide_eq_true q;subst this;exact⟨t',cx.mpr ⟨e,H,ey⟩⟩
 have klen:ks.length=m.size:=by
  have Z:=hp.length_eq;have Y:ss.length=m.size:=by rw[<-X.strs];simp
  lia
 cases hr:List.findIdx? (λe=>(ju P w).is x e.2) m.toList with
 |some j=>dsimp only;obtain⟨hj,hpj,_⟩:=Jm.mp hr;have T:x∈ks:=p.mpr ⟨_,C5 hj,hpj⟩;refine aI (aI ?_);exact h s.heap _ (Heap.SameBut.refl a s.heap) (by unfold kw;rw[if_pos T];exact S)
 |none=>
  dsimp only;have T:¬x∈ks:=λhm=>by obtain⟨e,H,q⟩:=p.mp hm;have:=List.findIdx?_eq_none_iff.mp hr e H;rw[q]at this;exact Bool.noConfusion this
  have J:∀(b:Bool) {i:am}{Q':Unit->am->Prop},Q' () i->au (ax P w) A (match b with|ah=>rule "set.scan.the-table-gave-way" |aj=>pure ()) Q' E i :=
   λb i Q' hq=>by cases b <;> first|exact aI hq|exact og hq
  have F:=layNew_perm t m ((ju P w).hash x) (.str x g);have M:=layNew_fits t m ((ju P w).hash x) (.str x g);have z:=LD t m ((ju P w).hash x) (.str x g);generalize hL:layNew t m ((ju P w).hash x) (.str x g)=L at F M z ⊢;obtain⟨c,t1,f,gave⟩:=L;dsimp only at F M z ⊢;rw[v_]at F;have u:ElemsOf (ju P w) c.toList:=(C.push fH rfl).perm F;have hsz1:c.size=m.size+1:=by have:=F.length_eq;simpa using this
  have hS1:∃G,eO (c.toList.map (·.2)) G/\G.Perm (kw ks x):=by
   have p1:=F.map (λe:Int×ai=>e.2);rw[tX]at p1;have q1:eO (m.toList.map (·.2)++[Value.str x g]) (ss++[x]):=by
    have gen:∀{vs:List ai}{zs:List Str},eO vs zs->eO (vs++[Value.str x g]) (zs++[x]):=by
     intro vs zs hh
     induction hh with
     |nil=>exact .cons x g .nil
     |cons y t _ ih=>exact .cons y t ih
    exact gen X
   obtain⟨G,O,N⟩:=AO p1 q1;refine⟨G,O,N.trans ?_⟩;unfold kw;rw[if_neg T];exact hp.append_right _
  obtain⟨G,O,N⟩:=hS1;have bX:kw ks x≠[]:=by unfold kw;rw[if_neg T];simp
  have o:∀d:kG,d.fits c.size=ah->d.led=(!cU w)->d.plain=aj->au (ax P w) A (do
    storeSet a c d
    if(!f&&d.tooFull)=ah then do
      (match (tZ d c (t5 c.size)).2.2 with|ah=>rule "set.scan.the-table-gave-way" |aj=>pure ())
      storeSet a (tZ d c (t5 c.size)).1 (tZ d c (t5 c.size)).2.1
      pure (aa ah)
     else pure (aa ah)) (λr s'=>∃l,r=aa ah/\s'={s with heap:=l}/\k9 a s.heap l/\jJ P w l a (kw ks x)) E s:=by
   intro d hf2 jR fK;refine ar (wpAny_storeSet_of W rfl ?_ (fits_of_scanBound (CY (show c.size<4090 by lia) (by decide))));have o1:=jJ.put (es':=c) (t':=d) W;have jS:=q_ s.heap a (Obj.putSet c d);split
   .have K:=relayAll_perm d c (t5 c.size);have B:=relayAll_fits d c (t5 c.size);have n:=PP d c (t5 c.size) fK;generalize hRl:tZ d c (t5 c.size)=Rl at K B n ⊢;obtain⟨D,t3,gave2⟩:=Rl;dsimp only at K B n ⊢;have hsz2:D.size=c.size:=by have:=K.length_eq;simpa using this
    refine ar (J _ ?_);refine ar (wpAny_storeSet_of o1 rfl ?_ (fits_of_scanBound (CY (show D.size<4090 by lia) (by decide))));obtain⟨ss2,u1,u2⟩:=AO (K.map (λe:Int×ai=>e.2)) O;refine aI ⟨_,rfl,rfl,jS.trans (q_ _ a _),⟨D,_,t3,ss2,jJ.put o1,u1,u2.trans N,u.perm K,∅,B,n.1.trans jR,λ_=>n.2⟩⟩
   .exact aI ⟨_,rfl,rfl,jS,⟨c,_,d,G,o1,O,N,u,∅,hf2,jR,λ_=>fK⟩⟩
  have JX:t1.led=(!cU w):=z.1.trans rn;refine ar (J _ ?_);split
  .refine ar ?_;rw[hashByValue_scannable 8 (x:=.str x g) rfl];refine aI ?_;have hk:plainKind (.str x g)=aj:=rfl;rw[hk];simp only[mI,if_false];refine aM (o {t1 with plain:=aj} (SetTable.fits_plain_off M) JX rfl) λr s' ζ=>?_;obtain⟨l,Z,Y,e3,e4⟩:=ζ;subst Z Y;exact aI (h l _ e3 e4)
  .rename_i I;refine ar (aI ?_);simp only[if_true];refine aM (o t1 M JX (by simpa using I)) λr s' ζ=>?_;obtain⟨l,Z,Y,e3,e4⟩:=ζ;subst Z Y;exact aI (h l _ e3 e4)
end
def met(val:Nat->Str)(i:Nat):List Str:=((dy i).map val).foldl kw []
theorem BS(val:Nat->Str)(i:Nat):met val (i+1)=kw (met val i) (val i):=by unfold met;rw[tW,tX,List.foldl_append];rfl
theorem A9(val:Nat->Str){i:Nat}:∀{j:Nat},i<=j->(met val i).length<=(met val j).length
 |0,h=>by rw[show i=0 by lia];exact a9 _
 |j+1,h=>by
  by_cases e:i=j+1
  .subst e;exact a9 _
  .refine cP (A9 val (j:=j) ∅) ?_;rw[BS];unfold kw;split
   .exact a9 _
   .simp
section
variable{P:aS}{w:aG}{A:aV}{R:Result->am->Prop}{I:ag}{c a:List ag}{G:Array GenState->Array GenState->Prop}{n:Nat}{d:Nat->ai->Prop}{St:Nat->am->Prop}
theorem FK(W:WalksS P w A.in1 I c a G n d St)(S:ag)(C:S∉c){J:Nat->aB->Prop}(H:∀i h j,J i h->(∀b o,b∉a->h.get? b=aa o->j.get? b=aa o)->J i j)(X:∀(i:Nat) (v:ai) (s:am) (E:ai->am->Prop) (Q:Bool->am->Prop),i<n->d i v->J i s.heap->(∀j r b,s.toks<=r->k9 S s.heap j->J (i+1) j->Q b {s with heap:=j,toks:=r})->au (ax P w) A.in1 (setAdd S v) Q E s):∀(k i:Nat) (s:am),n-i=k->i<=n->St i s->J i s.heap -> (∀f,Moved (S::a) G s f->J n f.heap->R (.ok (.ret .none)) f)->lO (ax P w) A (.builtin "set.update.loop" ⟨[.ref S,.ref I],[]⟩) R s:=by
 have O:S∉a:=λh=>C (W.sub _ h);have D:∀b∈a,b∈S::a:=λb g=>k8 _ g;intro k
 induction k with
 |zero=>
  intro i s M N y u x;obtain rfl:i=n:=∅
  refine oh Ut ?_;rw[re Jn _];show au _ A.in1 (pyNext (.ref I) >>= _) _ _ s;refine ar (W.done s _ _ y λf p=>?_);show au _ A.in1 (ret Value.none) _ _ f;exact aI (x f (p.mono D) (H _ _ _ u λb o g e=>p.heap b o g e))
 |succ k L=>
  intro i s M N y u x;have z:i<n:=∅
  refine oh Ut ?_;rw[re Jn _];show au _ A.in1 (pyNext (.ref I) >>= _) _ _ s;refine ar (W.item i s _ _ z y λv f T l p=>?_);show au _ A.in1 (nZ [v] (setAdd S v) >>= _) _ _ f;refine ar (js (X i v f _ _ z T (H _ _ _ u λb o g e=>p.heap b o g e) λj r b B F K=>?_));refine aI ⟨rg Jn _,L (i+1) _ ∅ z (W.frame _ f _ _ l B λb g o e=>?_) K λt m q=>?_⟩
  .rw[F.2 b (λh:b=S=>C (by rw[<-h];exact g))];exact e
  .refine x t (Moved.trans W.gtrans ((p.mono D).then_heap B λb o g e=>?_) m) q;rw[F.2 b (λh:b=S=>g (by rw[h];exact lL))];exact e
end
section
variable{P:aS}{w:aG}{A:aV}{E:ai->am->Prop}{s:am}
theorem F7(a:ai){Q:ai->am->Prop} (h:jJ P w (s.heap.push {cls:=.type "set",dict:=ae,data:=.set #[] 0 (.fresh 0 0 (!cU w))}) s.heap.objs.size [] -> Q (.ref s.heap.objs.size) {s with heap:=s.heap.push {cls:=.type "set",dict:=ae,data:=.set #[] 0 (.fresh 0 0 (!cU w))}}):lO (ax P w) A (.call (.builtin "set.__new__") ⟨[.type "set",a],[]⟩) (wants Q E) s:=by
 refine codeAny_of_tree ?_;show au _ A.in1 (do Jo "set.__new__" ⟨[.type "set",a],[]⟩;again (.builtin "set.__new__" ⟨[.type "set",a],[]⟩)) _ _ s;refine ar (zC (PySem.F.newCall_set_1 a) (aI ⟨rg F.plain_set_new _,oh F.entry_set_new ?_⟩));rw[re F.plain_set_new _];unfold Builtin.«set.__new__» Builtin.Frozenset.newClass;have i:=sub_set_self;obtain⟨j,g,d,c,f⟩:=s;dsimp only
 wp_walk
 refine t6 (aI ?_);dsimp only;simp only[newObj];refine ar (wpAny_alloc (aI ?_));refine aI (h ⟨#[],0,_,[],cI _ rfl,.nil,tY _,λe b=>by simp at b,by decide,rfl,rfl,λh=>absurd rfl h⟩)
end
end L2
set_option maxHeartbeats 8000000
namespace L2
theorem Kv:entryFor table "set.__iter__"=aa Builtin.«frozenset.__iter__»:=entryFor_alias (id':="frozenset.__iter__") (by kernel_rfl) rfl (by decide +kernel) (by kernel_rfl)
theorem Fu:Slot "set_iterator" "__next__" "set_iterator.__next__" :=
 .of (owner:="set_iterator") (n:="__next__") (by rw[typeLookup_type,builtinLookup_eq_fast];kernel_rfl) (by decide +kernel) (by decide +kernel) (by decide +kernel) (by first|exact .inl (by decide +kernel)|exact .inr (by decide +kernel)) (by rw[isSubtype_type];kernel_rfl)
theorem N8:entryFor table "set_iterator.__next__"=aa Builtin.«set_iterator.__next__»:=entryFor_of_fast (by kernel_rfl)
theorem Pe(a:ai):argsOk "set_iterator.__next__" ⟨[a],[]⟩:=by unfold argsOk;kernel_rfl
theorem D4:Slot "set_iterator" "__iter__" "set_iterator.__iter__" :=
 .of (owner:="set_iterator") (n:="__iter__") (by rw[typeLookup_type,builtinLookup_eq_fast];kernel_rfl) (by decide +kernel) (by decide +kernel) (by decide +kernel) (by first|exact .inl (by decide +kernel)|exact .inr (by decide +kernel)) (by rw[isSubtype_type];kernel_rfl)
theorem Pb:entryFor table "set_iterator.__iter__"=aa Builtin.«dict_keyiterator.__iter__»:=entryFor_alias (id':="dict_keyiterator.__iter__") (by kernel_rfl) rfl (by decide +kernel) (by kernel_rfl)
theorem Kc(a:ai):argsOk "set_iterator.__iter__" ⟨[a],[]⟩:=by unfold argsOk;kernel_rfl
def jB(first:ai)(i:Nat)(a:ag)(n b:Nat):Obj:={cls:=.type "set_iterator",data:=.fields #[first,.int i 0,.ref a,.int n 0,.int b 0]}
section
variable{P:aS}{w:aG}{A:aV}{E:ai->am->Prop}{s:am}
theorem xm{I a:ag}{first:ai}{i n d:Nat}{Q:ai->am->Prop}(h:s.heap.get? I=aa (jB first i a n d))(c:Q (.ref I) s):au (ax P w) A (mD (.ref I)) Q E s:=by
 have b:s.TypeIs (.ref I) "set_iterator":=⟨_,h,rfl⟩
 refine wpAny_pyIter_slot b D4 (vV D4 b Pb ?_ (Kc _));show au _ _ (ret (.ref I)) _ _ s;exact aI ⟨_,rfl,"set_iterator",_,b,Fu.lookup,c⟩
theorem qo{I a:ag}{first:ai}{i:Nat}{f:Array (Int×ai)}{g:Nat}{t:kG}{Q:Option ai->am->Prop}(n:s.heap.get? a=aa {cls:=.type "set",dict:=ae,data:=.set f g t})(m:t.fits f.size=ah)(l:s.heap.get? I=aa (jB first i a f.size g))(h:au (ax P w) A.in1 (if let .int slot _:=first then do
    match <-oj a slot.toNat (i:Int).toNat (g:Int).toNat with
    |some (x,next)=>do
     ol (.ref I) 0 (ez next)
     ol (.ref I) 1 (ez ((i:Int)+1))
     ret x
    |none=>do ol (.ref I) 2 .none;raiseNew (<-newExc (.type "StopIteration") [])
   else do
    let aa places <-seqItems? first|unsupported "internal:set_iterator"
    match places[(i:Int).toNat]? with
    |some (.int d _)=>do
     let x <-setNextDrawn a d.toNat (g:Int).toNat
     ol (.ref I) 1 (ez ((i:Int)+1))
     ret x
    |some _=>unsupported "internal:set_iterator"
    |none=>do ol (.ref I) 0 (ez 0);ol (.ref I) 2 .none;raiseNew (<-newExc (.type "StopIteration") []))
   (λc b=>∃r,c=.done (.ret r)/\Q (aa r) b) (λe b=>au (ax P w) A (do if <-zD e (.type "StopIteration")then pure ae else throw e) Q E b) s) :
  au (ax P w) A (pyNext (.ref I)) Q E s:=by
 have j:s.TypeIs (.ref I) "set_iterator":=⟨_,l,rfl⟩
 unfold pyNext;refine ar (wpAny_attempt (wpAny_callSpecial?_slot (name:=vU "__next__") j Fu (vV Fu j N8 ?_ (Pe _))));unfold Builtin.«set_iterator.__next__» slotArgs;refine ar (aI ?_);refine ar (wpAny_fieldsOf l rfl ?_);show au _ _ (setEntries a >>= _) _ _ s;refine ar (wpAny_setEntries_of n rfl m ?_);have u:(((f.size:Nat):Int) != ((f.size:Nat):Int))=aj:=by simp
 rw[u];simp only[mI,if_false];refine eG ?_ (λc b q=>?_) (λe b q=>q) (Q:=λc b=>∃r,c=.done (.ret r)/\Q (aa r) b) (E:=λe b=>au (ax P w) A (do if <-zD e (.type "StopIteration")then pure ae else throw e) Q E b)
 .exact h
 .obtain⟨r,p,o⟩:=q;exact⟨r,p,aI o⟩
end
theorem Ce{a:Type}:∀{l:List a}{i:Nat} (h:i<l.length),(l[i]::l.eraseIdx i).Perm l
 |[],i,h=>by simp at h
 |x::r,0,h=>by simp
 |x::r,i+1,h=>by have q:=Ce (l:=r) (i:=i) (by simpa using h);simp only[List.getElem_cons_succ,List.eraseIdx_cons_succ];exact(List.Perm.swap x _ _).trans (List.Perm.cons x q)
theorem FX{f:Type}(next:Nat->Nat):∀(c k:Nat) (a:List f) (b:Array f),c=a.length->(pickOrder.go next c k a b).toList.Perm (b.toList++a)
 |0,k,a,b,h=>by have:a=[]:=ka h.symm;subst this;simp[pickOrder.go]
 |c+1,k,a,b,h=>by
  have d:next k % a.length<a.length:=Nat.mod_lt _ ∅
  unfold pickOrder.go;rw[fg d];dsimp only;have g:=FX next c (k+1) (a.eraseIdx (next k % a.length)) (b.push a[next k % a.length]) (by rw[List.length_eraseIdx,if_pos d];lia)
  refine g.trans ?_;rw[v_,eN];exact zE _ (Ce d)
theorem FJ{a:Type}(next:Nat->Nat)(xs:Array a):(wb next xs).toList.Perm xs.toList:=by
 have:=FX next xs.size 0 xs.toList #[] (by simp)
 simpa[wb]using this
section
variable{P:aS}{w:aG}{A:aV}{E:ai->am->Prop}{s:am}
theorem QJ{a:Source}{n:Nat}{Q:Nat->am->Prop}(b:n≠0)(h:∀k d,k<n->Q k {s with drawn:=d}):au (ax P w) A (choose a n) Q E s:=λc p hΓ=>by unfold choose;rw[Sem.wp_choose];refine⟨b,?_⟩;exact h _ _ (Nat.mod_lt _ (Nat.pos_of_ne_zero b))
theorem FP{c:Type}:∀(n:Nat) (xs:List c) (s:am) (Q:List c->am->Prop),n=xs.length->(∀a d,a.Perm xs->Q a {s with drawn:=d})->au (ax P w) A (drawOrder n xs) Q E s
 |0,[],s,Q,_,h=>by unfold drawOrder;exact aI (h [] s.drawn (tY _))
 |0,x::xs,s,Q,hn,h=>by simp at hn
 |n+1,[],s,Q,hn,h=>by simp at hn
 |n+1,x::xs,s,Q,hn,h=>by unfold drawOrder;refine ar (QJ (by simp) λk d b=>?_);rw[fg b];dsimp only;refine ar (FP n ((x::xs).eraseIdx k) _ _ (by rw[List.length_eraseIdx,if_pos b];lia) λa g f=>?_);refine aI (h _ g ?_);exact(List.Perm.cons _ f).trans (Ce b)
theorem xz{Q:Option ai->am->Prop}{R:Fin->am->Prop}(f:A.handled=ae)(g:∀c,(∀b o,s.heap.get? b=aa o->c.get? b=aa o)->Q ae {s with heap:=c}):au (ax P w) A.in1 (do raiseNew (<-newExc (.type "StopIteration") [])) R (λe d=>au (ax P w) A (do if <-zD e (.type "StopIteration")then pure ae else throw e) Q E d) s:=by
 refine ar ?_;simp only[newExc,newTuple];refine ar (n_ ?_ (by size_fits));refine ar (m:=firstArgMember _ _) (zC (a:=Value.none) (by first|rfl | (simp only[firstArgMember];rfl)) ?_);refine n_ ?_ (by size_fits);simp only[raiseNew];refine ar (wpAny_handled ?_);rw[show A.in1.handled=ae from f];refine ar (aI (wpAny_throw ?_));refine ar (Jp (T:="StopIteration") (b:=ah) ⟨_,cI _ rfl,rfl⟩ isSubtype_stop ?_);exact aI (g _ λb o e=>bu _ (bu _ e))
theorem BN{I a:ag}{first d:ai}{i n f:Nat}{Q:Unit->am->Prop}(c:s.heap.get? I=aa (jB first i a n f))(h:∀b,k9 I s.heap b->b.get? I=aa (jB d i a n f)->Q () {s with heap:=b}):au (ax P w) A (ol (.ref I) 0 d) Q E s:=by refine t7 c rfl (by simp[jB]) (h _ (q_ ..) ?_);rw[pA _ c (by rfl)];rfl
theorem AQ{I a:ag}{first:ai}{i n d:Nat}{Q:Unit->am->Prop}(c:s.heap.get? I=aa (jB first i a n d))(h:∀b,k9 I s.heap b->b.get? I=aa (jB first (i+1) a n d)->Q () {s with heap:=b}):au (ax P w) A (ol (.ref I) 1 (ez ((i:Int)+1))) Q E s:=by refine t7 c rfl (by simp[jB]) (h _ (q_ ..) ?_);rw[pA _ c (by rfl)];rfl
theorem xY{I a:ag}{first:ai}{i n d:Nat}{Q:Unit->am->Prop}(c:s.heap.get? I=aa (jB first i a n d))(h:∀b,k9 I s.heap b->(∃o,b.get? I=aa o)->Q () {s with heap:=b}):au (ax P w) A (ol (.ref I) 2 .none) Q E s:=by refine t7 c rfl (by simp[jB]) (h _ (q_ ..) ⟨_,pA _ c (by rfl)⟩)
abbrev qD(a:Array (Int×ai))(b:Nat)(t:kG):Obj:={cls:=.type "set",dict:=ae,data:=.set a b t}
theorem Qk{I a:ag}{d:Array (Int×ai)}{g:Nat}{t:kG}(y:a≠I)(n:t.fits d.size=ah)(f:cU w=ah)(C:A.handled=ae):Walks P w A I [I,a] [I] d.size (λi v=>((wb (w.params.setOrder a g) d).toList.map (·.2))[i]?=aa v) (λi h=>h.get? I=aa (jB (ez 0) i a d.size g)/\h.get? a=aa (qD d g t)):=by
 have hsz:(wb (w.params.setOrder a g) d).size=d.size:=by have:=(FJ (w.params.setOrder a g) d).length_eq;simpa using this
 have j:∀(s:am) (i:Nat) (Q:Option (ai×Nat)->am->Prop) (E:ai->am->Prop),s.heap.get? a=aa (qD d g t) ->
   Q (((wb (w.params.setOrder a g) d)[i]?).map λe=>(e.2,0)) s->au (ax P w) A.in1 (oj a (0:Int).toNat (i:Int).toNat (g:Int).toNat) Q E s:=λs i Q E u B=>by
  unfold oj;refine ar (t4 u rfl n ?_);unfold zF;refine ar (ar (t6 (aI ?_)));show au _ _ (if cU w=ah then _ else _) _ _ s;rw[if_pos f];simp only[pr,bne_self_eq_false,mI,if_false];unfold setWalk;refine ar (ar (t4 u rfl n ?_));unfold zF;refine ar (ar (t6 (aI ?_)));show au _ _ (if cU w=ah then _ else _) _ _ s;rw[if_pos f];refine ar (t6 (aI (aI ?_)));exact B
 refine⟨λb f=>by simp at f;simp[f],λi h H c k=>⟨k I (by simp) _ c.1,k a (by simp) _ c.2⟩,λi s Q E G c l=>?_,λs Q E c l=>?_,λi s Q E c l=>xm c.1 l⟩
 .refine qo c.2 n c.1 ?_;refine ar (j s i _ _ c.2 ?_);have x:i<(wb (w.params.setOrder a g) d).size:=∅
  rw[zG x];dsimp only[pE];refine ar (BN c.1 λq m F=>?_);refine ar (AQ (s:={s with heap:=q}) F λp r D=>?_);refine aI ⟨_,rfl,l _ p s.toks ?_ ⟨D,?_⟩ λb o f e=>?_⟩
  .rw[kF];simp[zG x]
  .exact(r.2 a y).trans ((m.2 a y).trans c.2)
  .exact(r.2 b (by simpa using f)).trans ((m.2 b (by simpa using f)).trans e)
 .refine qo c.2 n c.1 ?_;refine ar (j s d.size _ _ c.2 ?_);rw[Array.getElem?_eq_none ∅];dsimp only[Option.map_none];refine ar (xY c.1 λq m _=>?_);exact xz (s:={s with heap:=q}) C λp z=>l p s.toks λb o f e=>z b o ((m.2 b (by simpa using f)).trans e)
theorem T_{I a T:ag}{f:Array (Int×ai)}{J:Nat}{t:kG}{c:List Nat}(bX:a≠I)(Z:T≠I)(C:t.fits f.size=ah)(G:c.Perm (dy f.size))(Y:A.handled=ae):Walks P w A I [I,a,T] [I] f.size (λi v=>(c.filterMap λj=>(f[j]?).map (·.2))[i]?=aa v) (λi h=>h.get? I=aa (jB (.ref T) i a f.size J)/\h.get? a=aa (qD f J t)/\h.get? T=aa {cls:=.type "tuple",data:=.seq (c.map λ(k:Nat)=>ez k).toArray}):=by
 have L:c.length=f.size:=by simpa using G.length_eq
 have p:∀j∈c,j<f.size:=λj B=>by simpa using G.mem_iff.mp B
 have fm:∀(l:List Nat),(∀j∈l,j<f.size)->∀(i j:Nat),l[i]?=aa j->∃e:Int×ai,f[j]?=aa e/\(l.filterMap λj=>(f[j]?).map (·.2))[i]?=aa e.2:=by
  intro l
  induction l with
  |nil=>intro _ i j h;simp at h
  |cons x r O=>
   intro H i j h;have S:x<f.size:=H x (lL ..);have F:f[x]?=aa f[x]:=zG S;cases i with
   |zero=>simp at h;subst h;exact⟨_,F,by rw[vP,F];rfl⟩
   |succ i=>obtain⟨e,z,y⟩:=O (λj B=>H j (k8 _ B)) i j (by simpa using h);exact⟨e,z,by rw[vP,F];simpa using y⟩
 have g:∀(s:am) (Q:Option (Array ai)->am->Prop) (E:ai->am->Prop),s.heap.get? T=aa {cls:=.type "tuple",data:=.seq (c.map λ(k:Nat)=>ez k).toArray}->Q (aa (c.map λ(k:Nat)=>ez k).toArray) s->au (ax P w) A.in1 (seqItems? (.ref T)) Q E s:=λs Q E W X=>by exact zH W rfl X
 refine⟨λb m=>by simp at m;simp[m],λi h h' d k=>⟨k I (by simp) _ d.1,k a (by simp) _ d.2.1,k T (by simp) _ d.2.2⟩,λi s Q E hi d q=>?_,λs Q E d q=>?_,λi s Q E d q=>xm d.1 q⟩
 .refine qo d.2.1 C d.1 ?_;refine ar (g s _ _ d.2.2 ?_);have K:i<c.length:=∅
  have u:((c.map λ(k:Nat)=>ez k).toArray)[(i:Int).toNat]?=aa (ez (c[i]:Nat)):=by simp[K]
  dsimp only;rw[u];obtain⟨e,z,y⟩:=fm c p i c[i] (fg K);show au _ _ (setNextDrawn a _ _ >>= _) _ _ s;refine ar ?_;unfold setNextDrawn;refine ar (t4 d.2.1 rfl C ?_);simp only[pr,bne_self_eq_false,mI,if_false];rw[z];refine aI ?_;refine ar (AQ d.1 λD n e2=>?_);refine aI ⟨_,rfl,q _ D s.toks y ⟨e2,(n.2 a bX).trans d.2.1,(n.2 T Z).trans d.2.2⟩ λb o m e=>(n.2 b (by simpa using m)).trans e⟩
 .refine qo d.2.1 C d.1 ?_;refine ar (g s _ _ d.2.2 ?_);have u:((c.map λ(k:Nat)=>ez k).toArray)[(f.size:Int).toNat]?=ae:=by simp[L]
  dsimp only;rw[u];refine ar (BN d.1 λh1 N u=>?_);refine ar (xY (s:={s with heap:=h1}) u λD n _=>?_);exact xz (s:={s with heap:=D}) Y λh3 M=>q h3 s.toks λb o m e=>M b o ((n.2 b (by simpa using m)).trans ((N.2 b (by simpa using m)).trans e))
theorem Ln(j k:Nat):Uu #[j] k=if j<k then 1 else 0:=by
 unfold Uu;simp only[cr,eh,j_];unfold Jq;simp;split
 .rename_i h;unfold Jq;simp
 .unfold Jq;simp
theorem LH{I a:ag}{g:Array (Int×ai)}{n:Nat}{t:kG}(M:a≠I)(u:t.fits g.size=ah)(f:cU w=aj)(N:t.led=ah)(m:g.size=1)(S:A.handled=ae):Walks P w A I [I,a] [I] 1 (λi v=>(g.toList.map (·.2))[i]?=aa v) (λi h=>h.get? I=aa (jB (ez (if i=0 then 0 else((t.place.getD 0 0:Nat):Int)+1)) i a g.size n)/\h.get? a=aa (qD g n t)):=by
 have z:t.place.size=1:=by simp only[SetTable.fits,gn,beq_iff_eq]at u;lia
 obtain⟨j,H⟩:=Array.size_eq_one_iff.mp z;have K:((t.place.getD 0 0:Nat):Int)=(j:Int):=by rw[H];rfl
 obtain⟨e,J⟩:=Array.size_eq_one_iff.mp m;have l:∀(s:am) (d:Nat) (i:Nat) (Q:Option (ai×Nat)->am->Prop) (E:ai->am->Prop),s.heap.get? a=aa (qD g n t) ->
   Q (if j<d then ae else aa (e.2,j+1)) s->au (ax P w) A.in1 (oj a d i n) Q E s:=λs d i Q E T r=>by
  unfold oj;refine ar (t4 T rfl u ?_);unfold zF;refine ar (ar (t6 (aI ?_)));show au _ _ (if cU w=ah then _ else _) _ _ s;rw[if_neg (by rw[f];decide)];refine zI (λB=>absurd (show(!t.plain&&decide (g.size > 1))=ah from B) (by rw[m];simp)) (λ_=>?_);refine ar ?_;refine eG (Q:=λ_ F=>F=s) (E:=E) ?_ (λ_ F y=>?_) (λ_ _ x=>x)
  .refine zI (λB=>absurd (show(!t.led&&!g.isEmpty)=ah from B) (by rw[N];simp)) (λ_=>aI rfl)
  .subst y;rw[H,Ln,J];by_cases L:j<d
   .rw[if_pos L]at r ⊢;exact aI r
   .rw[if_neg L]at r ⊢;exact aI r
 refine⟨λb f=>by simp at f;simp[f],λi h Y c k=>⟨k I (by simp) _ c.1,k a (by simp) _ c.2⟩,λi s Q E X c p=>?_,λs Q E c p=>?_,λi s Q E c p=>xm c.1 p⟩
 .obtain rfl:i=0:=∅
  refine qo c.2 u c.1 ?_;show au _ _ (oj a (0:Int).toNat ((0:Nat):Int).toNat (n:Int).toNat >>= _) _ _ s;simp only[pr,Int.toNat_zero];refine ar (l s 0 0 _ _ c.2 ?_);rw[if_neg (Nat.not_lt_zero j)];dsimp only;refine ar (BN c.1 λm q D=>?_);refine ar (AQ (s:={s with heap:=m}) D λC G W=>?_);refine aI ⟨_,rfl,p _ C s.toks ?_ ⟨?_,?_⟩ λb o f e=>?_⟩
  .rw[J];rfl
  .rw[W,if_neg (by decide),K];rfl
  .exact(G.2 a M).trans ((q.2 a M).trans c.2)
  .exact(G.2 b (by simpa using f)).trans ((q.2 b (by simpa using f)).trans e)
 .refine qo c.2 u c.1 ?_;rw[if_neg (by decide),K];show au _ _ (oj a ((j:Int)+1).toNat ((1:Nat):Int).toNat (n:Int).toNat >>= _) _ _ s;have D:((j:Int)+1).toNat=j+1:=∅
  rw[D,pr,pr];refine ar (l s (j+1) 1 _ _ c.2 ?_);rw[if_pos (mJ j)];dsimp only;refine ar (xY c.1 λm q _=>?_);exact xz (s:={s with heap:=m}) S λC O=>p C s.toks λb o f e=>O b o ((q.2 b (by simpa using f)).trans e)
theorem vd:∀{a:List ai}{b:List Str} (i:Nat) (v:ai),eO a b->a[i]?=aa v->∃t,v=.str (b.getD i ff) t
 |_,_,i,v,.nil,h=>by simp at h
 |_,_,0,v,.cons y t _,h=>by simp at h;exact⟨t,by rw[<-h];rfl⟩
 |_,_,i+1,v,.cons y t hr,h=>by simp only[List.getElem?_cons_succ]at h;obtain⟨c,e⟩:=vd i v hr h;exact⟨c,by rw[e];rfl⟩
set_option maxRecDepth 100000 in
theorem T7{l:ag}{a:Array ai}{Q:ai->am->Prop}(hh:A.handled=ae)(hl:s.heap.IsList l a){J:Nat->aB->Prop}(hJ:∀i h d,J i h->(∀b o,b<=s.heap.objs.size->h.get? b=aa o->d.get? b=aa o)->J i d) (I:J 0 (s.heap.push {cls:=.type "set",dict:=ae,data:=.set #[] 0 (.fresh 0 0 (!cU w))}))(gq:∀(i:Nat) (v:ai) (f:am) (E:ai->am->Prop) (Q:Bool->am->Prop),i<a.size->a[i]?=aa v->J i f.heap->(∀d m b,f.toks<=m->k9 s.heap.objs.size f.heap d->J (i+1) d->Q b {f with heap:=d,toks:=m})->au (ax P w) A.in1.in1.in1 (setAdd s.heap.objs.size v) Q E f)(h:∀(d:aB) (m:Nat),J a.size d->(∀b o,b<s.heap.objs.size->s.heap.get? b=aa o->d.get? b=aa o)->Q (.ref s.heap.objs.size) {s with heap:=d,toks:=m}):au (ax P w) A (call (.type "set") [.ref l]) Q E s:=by
 obtain⟨c,tl,hmro⟩:=F.called_set.mro;have UG:=F.called_set.made;have kH:=F.called_set.sub;refine tL (codeAny_of_tree ?_);show au _ _ (callAny (.type "set") _) _ _ _;refine aI ⟨Code.quiet_builtin _ (by decide +kernel),oh F.entry_type_call ?_⟩;rw[Around.under_plain (weight_type_call_type "set" [.ref l] []) rfl];have h1:=F.called_set.notType;have h2:=F.called_set.canCreate;have hct:=PySem.F.typeCall_set_1 (.ref l)
 repeat any_goals (first|assumption|wp_step)
 refine n8 (F7 (P:=P) (w:=w) (.ref l) (E:=E) (Q:=λp f=>p=.ref s.heap.objs.size/\f={s with heap:=s.heap.push {cls:=.type "set",dict:=ae,data:=.set #[] 0 (.fresh 0 0 (!cU w))}}/\True) λS0=>⟨rfl,rfl,trivial⟩) λr f C=>?_;cases r with
 |error e=>exact C
 |ok fl=>
  cases fl with
  |ret p=>
   obtain⟨rfl,rfl,S0⟩:=C;have hS:=cI (h:=s.heap) (o:=({cls:=.type "set",dict:=ae,data:=.set #[] 0 (.fresh 0 0 (!cU w))}:Obj));have wI:(s.heap.push {cls:=.type "set",dict:=ae,data:=.set #[] 0 (.fresh 0 0 (!cU w))}).get? s.heap.objs.size=aa {cls:=.type "set",dict:=ae,data:=.set #[] 0 (.fresh 0 0 (!cU w))}:=cI _ rfl;have hT:Shared.TypeIs {s with heap:=s.heap.push {cls:=.type "set",dict:=ae,data:=.set #[] 0 (.fresh 0 0 (!cU w))}} (.ref s.heap.objs.size) "set":=⟨_,wI,rfl⟩
   have hli:=F.called_set.init.lookup;have hbi:=F.called_set.init.bind (.ref s.heap.objs.size)
   repeat any_goals (first|assumption|wp_step)
   refine n8 (Jr (R:=wants (λr M=>r=.none/\∃d m,M={s with heap:=d,toks:=m}/\J a.size d /\ (∀b o,b<s.heap.objs.size->s.heap.get? b=aa o->d.get? b=aa o)) E) F.called_set.init.plain F.entry_set_init (check_set_init_1 hT ?_)) λr2 M z=>?_
   .obtain⟨⟨S,n,y,g⟩,O,X,T,N⟩:=hl;simp only at X N;subst X;subst N;have Dz:(s.heap.push {cls:=.type "set",dict:=ae,data:=.set #[] 0 (.fresh 0 0 (!cU w))}).get? l=aa {cls:=.type "list",dict:=n,data:=.seq a T,slots:=g}:=bu _ O;have Y:=PySem.F.sub_list_set;have Z:=PySem.F.sub_list_frozenset;have bX:(Value.type "list" == Value.type "dict")=aj:=by decide
    have W:(s.heap.push {cls:=.type "set",dict:=ae,data:=.set #[] 0 (.fresh 0 0 (!cU w))}).IsList l a:=⟨_,Dz,rfl,T,rfl⟩
    unfold Builtin.«set.__init__» noKeywords Builtin.Frozenset.updateFrom;generalize H:mD=PI
    wp_walk
    subst H;refine C4 W (ar (wpAny_runValue ?_));have L:l<s.heap.objs.size:=bR O;have G:A.in1.in1.in1.handled=ae:=by simp[hh]
    have j:(s.heap.push {cls:=.type "set",dict:=ae,data:=.set #[] 0 (.fresh 0 0 (!cU w))}).objs.size=s.heap.objs.size+1:=zz ..;have DB:l≠(s.heap.push {cls:=.type "set",dict:=ae,data:=.set #[] 0 (.fresh 0 0 (!cU w))}).objs.size:=by rw[j];exact c8 (lh L)
    have uh:s.heap.objs.size∉[(s.heap.push {cls:=.type "set",dict:=ae,data:=.set #[] 0 (.fresh 0 0 (!cU w))}).objs.size,l]:=by rw[j];simp only[bC,fu,i6,or_false,not_or];exact⟨c8 (mJ _),mC L⟩
    refine FK ((Walks.list G _ l DB a).toS) s.heap.objs.size uh (λi h d D k=>hJ i h d D λb o t e=>k b o (by rw[j];simp only[fu];exact c8 (Nat.lt_succ_of_le t)) e) (λi v f E Q hi hv D hq=>gq i v f E Q hi hv D hq) (a.size-0) 0 _ ∅ (jO _)
     ⟨⟨_,cI _ rfl,rfl,rfl⟩,(W.push _)⟩ (hJ 0 _ _ I λb o _ e=>bu _ e) ?_
    intro s' q B;obtain⟨d,g',d',u,x⟩:=s';obtain rfl:g'=s.gens:=q.gens;obtain rfl:d'=s.drawn:=q.drawn;obtain rfl:x=s.os:=q.os;show au _ _ _ _ _ _;refine aI ?_;show au _ _ (ret Value.none) _ _ _;refine aI ⟨rfl,d,u,rfl,B,λb o t e=>q.heap b o ?_ (bu _ (bu _ e))⟩;rw[j];simp only[bC,fu,i6,or_false,not_or];exact⟨c8 t,c8 (lh t)⟩
   .cases r2 with
    |error e=>exact z
    |ok K=>
     cases K with
     |ret r=>
      obtain⟨rfl,d,m,rfl,B,mU⟩:=z
      repeat any_goals (first|assumption|wp_step)
      exact h _ _ B mU
     |_=>exact z.elim
  |_=>exact C.elim
theorem OH{l:ag}{a:Array ai}{c:List Str}{Q:ai->am->Prop}(x:A.handled=ae)(r:s.heap.IsList l a)(u:eO a.toList c)(z:(met (λi=>c.getD i ff) a.size).length<4000)(h:∀(d:aB) (j:Nat),jJ P w d s.heap.objs.size (met (λi=>c.getD i ff) a.size)->(∀b o,b<s.heap.objs.size->s.heap.get? b=aa o->d.get? b=aa o)->Q (.ref s.heap.objs.size) {s with heap:=d,toks:=j}):au (ax P w) A (call (.type "set") [.ref l]) Q E s:=by
 refine T7 x r (J:=λi h=>jJ P w h s.heap.objs.size (met (λi=>c.getD i ff) i)) (λi h d S k=>S.at λo e=>k _ o (a9 _) e)
  ⟨#[],0,_,[],cI _ rfl,.nil,tY _,λe y=>by simp at y,by decide,rfl,rfl,λh=>absurd rfl h⟩ (λi v f E Q m p S q=>?_) h
 obtain⟨t,rfl⟩:=vd i v u (by rw[zJ];exact p);unfold setAdd;refine js ?_;have B:(ju P w).is (c.getD i ff) (.str (c.getD i ff) t)=ah:=by show nU _ (.str _ t)=ah;simp[nU]
 refine ar ((ju P w).pyHash (k:=c.getD i ff) B ?_);refine EV (s:={f with toks:=f.toks+1}) S (vZ (A9 _ (lK m)) z) λd b n g=>?_;rw[<-BS (λi=>c.getD i ff)]at g;exact q d _ b (v7 _) n g
end
theorem HV{n:Nat}(h:n<=4096):n<bd:=vZ h (by decide)
theorem Rb:typeLookup (.type "set") "__len__"=pure (aa (.builtin "set.__len__")):=F.slot_set_len.lookup
section
variable{P:aS}{w:aG}{A:aV}{E:ai->am->Prop}{s:am}
def uP(w:aG)(h:aB)(a:ag)(b:Array (Int×ai)):Prop:=∃(c:Nat) (t:kG),h.get? a=aa {cls:=.type "set",dict:=ae,data:=.set b c t}/\b.size<4090/\t.fits b.size=ah/\t.led=(!cU w)/\(b.size≠0->t.plain=aj)
theorem uP.at{w:aG}{h h':aB}{a:ag}{es:Array (Int×ai)}(S:uP w h a es)(k:∀o,h.get? a=aa o->h'.get? a=aa o):uP w h' a es:=by obtain⟨b,t,e,r⟩:=S;exact⟨b,t,k _ e,r⟩
theorem jJ.e{h:aB}{a:ag}{ks:List Str}(S:jJ P w h a ks):∃es ss,uP w h a es/\eO (es.toList.map (·.2)) ss/\ss.Perm ks:=by
 obtain⟨es,l,t,ss,f,c,b,i,hsz,g,d,n⟩:=S.ex;refine⟨es,ss,⟨l,t,f,hsz,g,d,λj=>n λz=>j ?_⟩,c,b⟩;have m:=b.length_eq;have o:ss.length=es.size:=by rw[<-c.strs];simp
 rw[z,j_]at m;lia
structure G4(P:aS)(w:aG)(s s':am)(a I:ag)(es:Array (Int×ai))(fp:List ag)(n:Nat)(Pv:Nat->ai->Prop)(St:Nat->aB->Prop):Prop where
 wk:∀A:aV,A.handled=ae->Walks P w A I fp [I] n Pv St
 st:St 0 s'.heap
 old:∀b o,s.heap.get? b=aa o->s'.heap.get? b=aa o
 new:s.heap.objs.size<=I
 lt:∀b∈fp,b<s'.heap.objs.size
 rest:s'={s with heap:=s'.heap,drawn:=s'.drawn}
 ord:∀bi:Array ai,ItemsOf Pv bi n->bi.toList.Perm (es.toList.map (·.2))
 len:n<4090
 fps:∀b∈fp,b=a\/s.heap.objs.size<=b
theorem yo{l:List ai}{a:Array ai}{n:Nat}(c:l.length=n)(h:ItemsOf (λi v=>l[i]?=aa v) a n):a.toList=l:=by
 refine wc λi=>?_;by_cases b:i<n
 .have:i<a.size:=by rw[h.1];exact b
  have q:=h.2 i a[i] (zG this);rw[q];simp[this]
 .rw[t8 (by rw[n5,h.1];lia),t8 ∅]
theorem Mb{I a:ag}{d:Array (Int×ai)}{j:Nat}{t:kG}(L:a≠I)(u:t.fits d.size=ah)(g:cU w=aj)(n:d.size=0)(F:A.handled=ae):Walks P w A I [I,a] [I] 0 (λi v=>(d.toList.map (·.2))[i]?=aa v) (λi h=>h.get? I=aa (jB (ez 0) 0 a d.size j)/\h.get? a=aa (qD d j t)):=by
 have y:d=#[]:=Array.eq_empty_of_size_eq_zero n;have l:∀(s:am) (f:Nat) (i:Nat) (Q:Option (ai×Nat)->am->Prop) (E:ai->am->Prop),s.heap.get? a=aa (qD d j t) ->
   Q ae s->au (ax P w) A.in1 (oj a f i j) Q E s:=λs f i Q E G C=>by
  unfold oj;refine ar (t4 G rfl u ?_);unfold zF;refine ar (ar (t6 (aI ?_)));show au _ _ (if cU w=ah then _ else _) _ _ s;rw[if_neg (by rw[g];decide)];refine zI (λq=>absurd (show(!t.plain&&decide (d.size > 1))=ah from q) (by rw[n];simp)) (λ_=>?_);refine ar ?_;refine eG (Q:=λ_ r=>r=s) (E:=E) ?_ (λ_ r p=>?_) (λ_ _ x=>x)
  .refine zI (λq=>absurd (show(!t.led&&!d.isEmpty)=ah from q) (by rw[y];simp)) (λ_=>aI rfl)
  .subst p;rw[y];have J:∀k:Nat,(#[]:Array (Int×ai))[k]?=ae:=λk=>by simp
   dsimp only;rw[J];exact aI C
 refine⟨λb g=>by simp at g;simp[g],λi h K c k=>⟨k I (by simp) _ c.1,k a (by simp) _ c.2⟩,λi s Q E D c m=>absurd D (Nat.not_lt_zero i),λs Q E c m=>?_,λi s Q E c m=>xm c.1 m⟩;refine qo c.2 u c.1 ?_;show au _ _ (oj a (0:Int).toNat ((0:Nat):Int).toNat (j:Int).toNat >>= _) _ _ s;simp only[pr,Int.toNat_zero];refine ar (l s 0 0 _ _ c.2 ?_);dsimp only;refine ar (xY c.1 λn B _=>?_);exact xz (s:={s with heap:=n}) F λH z=>m H s.toks λb o g e=>z b o ((B.2 b (by simpa using g)).trans e)
theorem Oj{a:ag}{g:Array (Int×ai)}{Q:ai->am->Prop}(S:uP w s.heap a g)(h:∀x I C n D St,G4 P w s x a I g C n D St->Q (.ref I) x):au (ax P w) A (mD (.ref a)) Q E s:=by
 obtain⟨M,t,l,hsz,p,rn,dS⟩:=S;have Y:s.TypeIs (.ref a) "set":=⟨_,l,rfl⟩
 have kR:=bR l;refine wpAny_pyIter_slot Y F.slot_set_iter (vV F.slot_set_iter Y Kv ?_ (F.args_set_iter_1 _));unfold Builtin.«frozenset.__iter__» Builtin.Frozenset.slot0 slotArgs Builtin.Frozenset.addrOf Builtin.Frozenset.sizeOf;refine ar (aI ?_);refine ar (ar (wpAny_setEntries_of l rfl p (aI ?_)));unfold setDrawn;refine ar (ar (t4 l rfl p ?_));unfold zF;refine ar (ar (t6 (aI ?_)));refine aI ?_;have i:∀(first:ai) (u:am) (C:List ag) (n:Nat) (D:Nat->ai->Prop) (St:Nat->aB->Prop),u.heap.get? a=aa {cls:=.type "set",dict:=ae,data:=.set g M t} ->
   G4 P w s {u with heap:=u.heap.push (jB first 0 a g.size M)} a u.heap.objs.size g C n D St ->
   au (ax P w) A.in1 (do
    let e <-setEpoch a
    let f <-newFields "set_iterator" [first,ez 0,Value.ref a,ez (g.size:Nat),ez (e:Nat)]
    ret f) (λi x=>∃v,i=Fin.done (Flow.ret v)/\∃Z r,x.TypeIs v Z/\typeLookup (Value.type Z) (vU "__next__")=pure (aa r)/\Q v x) E u:=λfirst u C n D St ha W=>by
  refine ar (wpAny_setEpoch_of ha rfl p ?_);refine ar (n_ ?_);exact aI ⟨_,rfl,"set_iterator",_,⟨_,cI _ rfl,rfl⟩,Fu.lookup,h _ _ C n D St W⟩
 refine zI (λJ=>?_) (λJ=>?_)
 .have L:(!cU w&&(!t.plain&&decide (g.size > 1)))=ah:=J;refine ar (FP g.size (dy g.size) s _ (by simp) λG d H=>?_);refine ar (wpAny_newTuple ?_ (hsz:=by rw[cn,H.length_eq,Jk];exact lK (HV ∅)));refine i _ _ _ _ _ _ (bu _ l) ⟨λO q=>T_ (T:=s.heap.objs.size) (c8 (by rw[kc];exact lh kR)) (c8 (by rw[kc];exact mJ _)) p H q,⟨cI _ rfl,?_,?_⟩,?_,?_,?_,rfl,?_,hsz,?_⟩
  .exact bu _ (bu _ l)
  .exact bu _ (cI _ rfl)
  .exact λb o e=>bu _ (bu _ e)
  .rw[kc];exact v7 _
  .intro b c;simp only[bC,i6,or_false]at c;rw[kc,kc];rcases c with rfl|rfl|rfl
   .rw[kc];exact mJ _
   .exact lh (lh kR)
   .exact lh (mJ _)
  .intro N m;have e0:(G.filterMap λj=>(g[j]?).map (·.2))=(G.filterMap λj=>g[j]?).map (·.2):=by rw[List.map_filterMap]
   have y:(G.filterMap λj=>g[j]?).Perm g.toList:=by have:=H.filterMap λj=>g[j]?;rwa[filterMap_getElem?_range]at this
   rw[e0]at m;rw[yo (by rw[cn,y.length_eq];simp) m];exact y.map _
  .intro b c;simp only[bC,i6,or_false]at c;rcases c with rfl|rfl|rfl
   .rw[kc];exact .inr (v7 _)
   .exact .inl rfl
   .exact .inr (a9 _)
 .have L:¬(!cU w&&(!t.plain&&decide (g.size > 1)))=ah:=J;refine ar (aI ?_);cases c:cU w with
  |true=>
   refine i _ _ _ _ _ _ l ⟨λO q=>Qk (c8 kR) p c q,⟨cI _ rfl,bu _ l⟩,λb o e=>bu _ e,a9 _,?_,rfl,?_,hsz,λb c=>?_⟩
   .intro b c;simp only[bC,i6,or_false]at c;rw[kc];rcases c with rfl|rfl
    .exact mJ _
    .exact lh kR
   .intro N m;have y:=FJ (w.params.setOrder a M) g;rw[yo (by rw[cn,y.length_eq];simp) m];exact y.map _
   .simp only[bC,i6,or_false]at c;exact c.elim (λz=>.inr (mG z.symm)) .inl
  |false=>
   have K:g.size=1\/g.size=0:=by
    by_cases X:g.size=0
    .exact .inr X
    .rw[c,dS X]at L;simp at L;lia
   rcases K with B|B
   .refine i _ _ _ _ _ _ l ⟨λO q=>LH (c8 kR) p c (by rw[rn,c];rfl) B q,⟨cI _ rfl,bu _ l⟩,λb o e=>bu _ e,a9 _,?_,rfl,?_,by decide,λb c=>?_⟩
    .intro b c;simp only[bC,i6,or_false]at c;rw[kc];rcases c with rfl|rfl
     .exact mJ _
     .exact lh kR
    .intro N m;rw[yo (by simp[B]) m]
    .simp only[bC,i6,or_false]at c;exact c.elim (λz=>.inr (mG z.symm)) .inl
   .refine i _ _ _ _ _ _ l ⟨λO q=>Mb (c8 kR) p c B q,⟨cI _ rfl,bu _ l⟩,λb o e=>bu _ e,a9 _,?_,rfl,?_,by decide,λb c=>?_⟩
    .intro b c;simp only[bC,i6,or_false]at c;rw[kc];rcases c with rfl|rfl
     .exact mJ _
     .exact lh kR
    .intro N m;rw[yo (by simp[B]) m]
    .simp only[bC,i6,or_false]at c;exact c.elim (λz=>.inr (mG z.symm)) .inl
theorem K5{a:ag}{m:Array (Int×ai)}{Q:List ai->am->Prop}(H:A.handled=ae)(S:uP w s.heap a m)(h:∀(d:am) (B:List ai),B.Perm (m.toList.map (·.2))->(∀b o,s.heap.get? b=aa o->d.heap.get? b=aa o)->d.gens=s.gens->d.os=s.os->Q B d):au (ax P w) A (collect (.ref a)) Q E s:=by
 obtain⟨J,t,G,N,_⟩:=id S;have kR:=bR G;unfold collect;refine ar (wpAny_runValue (oh F.entry_proto_collect ?_));rw[re F.plain_proto_collect _];show au _ A.in1 (newList [] >>= λl=>again (.builtin "list.__iadd__" ⟨[l,.ref a],[]⟩)) _ _ s;refine ar (n_ ?_);refine aI ⟨rg F.plain_list_iadd _,oh F.entry_list_iadd ?_⟩;rw[re F.plain_list_iadd _];show au _ A.in1 (Builtin.List.listExtendWith (.ref s.heap.objs.size) (.ref a) (.ref s.heap.objs.size)) _ _ _;unfold Builtin.List.listExtendWith;have j:∀u:am,u.heap.get? a=aa {cls:=.type "set",dict:=ae,data:=.set m J t}->u.TypeIs (.ref a) "set":=λu e=>⟨_,e,rfl⟩
 have C:(s.heap.push {cls:=.type "list",data:=.seq ([]:List ai).toArray}).get? a=aa {cls:=.type "set",dict:=ae,data:=.set m J t}:=bu _ G;refine ar (wpAny_typeOf (j _ C) ?_);have X:Builtin.List.listSameRef (.ref s.heap.objs.size) (.ref a)=aj:=by have:¬(s.heap.objs.size=a):=mC kR;simp[Builtin.List.listSameRef,this]
 rw[if_neg (by rw[X];decide)];refine ar (Oj (S.at λo e=>bu _ e) λr I Y n Pv St W=>?_);have v:=W.old a _ C;refine ar (js ?_);unfold Builtin.List.listLengthHint;refine ar (zw (j _ v) Rb ?_)
 wp_delta
 refine ar (Jp (T:="set") (b:=ah) (j _ v) (by rw[isSubtype_type];kernel_rfl) ?_);show au _ A.in1 (typeOf (Value.ref a) >>= _) _ _ _;refine ar (wpAny_typeOf (T:="set") (j _ v) ?_);refine aI ?_;rw[if_pos (by decide)];refine ar (og ?_);have O:(s.heap.push {cls:=.type "list",data:=.seq ([]:List ai).toArray}).get? s.heap.objs.size=aa {cls:=.type "list",data:=.seq ([]:List ai).toArray}:=cI _ rfl;have i:=W.old _ _ O;unfold Builtin.List.listTouch;refine ar (ar (C6 i rfl ?_ (by decide) (by show 1<=bd+1;decide)));have g:=zK i (λa:Array ai=>a.push Value.none);refine C6 g rfl ?_ (by show 1<=bd;decide) (by show 0<=bd+1;decide);have y:=zK g (λa:Array ai=>a.pop);have K:s.heap.objs.size∉Y:=λz=>by
  rcases W.fps _ z with q|q
  .exact absurd kR (by rw[<-q];exact fG _)
  .rw[kc]at q;exact absurd (mJ _) (Nat.not_lt.mpr q)
 have D:∀b o,b≠s.heap.objs.size->r.heap.get? b=aa o->(((r.heap.update s.heap.objs.size (iF λa=>a.push Value.none)).update s.heap.objs.size (iF λa=>a.pop))).get? b=aa o:=λb o f e=>by rw[Js _ _ _ _ f,Js _ _ _ _ f];exact e
 have Z:St 0 (((r.heap.update s.heap.objs.size (iF λa=>a.push Value.none)).update s.heap.objs.size (iF λa=>a.pop))):=(W.wk A.in1 H).frame 0 _ _ W.st λb f o e=>D b o (λz=>K (z ▸ f)) e;refine aI ⟨rg F.plain_extend_loop _,codeAny_extend_loopS (W.wk A.in1 H).toS (lK (HV (by have:=W.len;lia))) _ K _ n 0 _ _ _ rfl (jO _) Z y (ItemsOf.nil _) λd c c' x L M=>?_⟩;show au _ A (load s.heap.objs.size >>= _) _ _ d;refine ar (wpAny_load L ?_);refine aI (h d c.toList (W.ord c M) (λb o e=>?_) ?_ ?_)
 .have p:=bR e;refine x.heap b o (λf=>?_) (D b o (c8 p) (W.old b o (bu _ e)));rcases bC.mp f with z|z
  .exact absurd p (by rw[z];exact fG _)
  .rw[fu.mp z]at p;have:=W.new;rw[kc]at this;exact absurd p (Nat.not_lt.mpr (Nat.le_of_succ_le this))
 .rw[x.gens,W.rest]
 .rw[x.os,W.rest]
theorem OG{a:ag}{ks:List Str}{Q:List ai->am->Prop}(p:A.handled=ae)(S:jJ P w s.heap a ks)(h:∀(c:am) (d:List ai) (ss:List Str),eO d ss->ss.Perm ks->d.length<4090->(∀b o,s.heap.get? b=aa o->c.heap.get? b=aa o)->c.gens=s.gens->c.os=s.os->Q d c):au (ax P w) A (collect (.ref a)) Q E s:=by
 obtain⟨r,ss,S,q,n⟩:=S.e;have m:r.size<4090:=by obtain⟨_,_,_,z,_⟩:=S;exact z
 refine K5 p S λc d pv l j i=>?_;obtain⟨t,g,f⟩:=AO pv q;exact h c d t g (f.trans n) (by have:=pv.length_eq;simp at this;lia) l j i
end
def b_(a:List Tx):List Tx:=a.foldl (λks x=>if x∈ks then ks else ks++[x]) []
theorem xH(b:List Tx):met (λi=>(b.map tS).getD i ff) b.length=(b_ b).map tS:=by
 have d:∀(l:List Tx) (a:List Tx),(l.map tS).foldl kw (a.map tS)=(l.foldl (λks x=>if x∈ks then ks else ks++[x]) a).map tS:=by
  intro l
  induction l with
  |nil=>intro a;rfl
  |cons x r g=>
   intro a;rw[cu,lf,lf];have:kw (a.map tS) (tS x)=(if x∈a then a else a++[x]).map tS:=by
    unfold kw;have f:tS x∈a.map tS↔x∈a:=by rw[cx];exact⟨λζ=>by obtain⟨y,j,e⟩:=ζ;rw[<-qi e];exact j,λh=>⟨x,h,rfl⟩⟩
    by_cases h:x∈a
    .rw[if_pos h,if_pos (f.mpr h)]
    .rw[if_neg h,if_neg (λz=>h (f.mp z)),tX];rfl
   rw[this,g]
 have e:(dy b.length).map (λi=>(b.map tS).getD i ff)=b.map tS:=by
  refine wc λi=>?_;rw[kF];by_cases c:i<b.length
  .rw[Jj c];simp[c]
  .rw[t8 (by simpa using c),t8 (by simpa using c)];rfl
 unfold met;rw[e];exact d b []
theorem GS(l c:List Tx):(c.Nodup->(l.foldl (λks x=>if x∈ks then ks else ks++[x]) c).Nodup)/\∀x,x∈l.foldl (λks x=>if x∈ks then ks else ks++[x]) c↔x∈c\/x∈l:=by
 induction l generalizing c with
 |nil=>exact⟨λh=>h,λx=>by simp⟩
 |cons y r g=>
  rw[lf];obtain⟨m,j⟩:=g (if y∈c then c else c++[y]);refine⟨λh=>m ?_,λx=>?_⟩
  .split
   .exact h
   .rename_i d;rw[C7];exact⟨h,by simp,λa i b f=>by simp at f;subst f;exact λe=>d (e ▸ i)⟩
  .rw[j x,bC];split
   .rename_i d;constructor
    .rintro(h|h)
     .exact .inl h
     .exact .inr (.inr h)
    .rintro(h|rfl|h)
     .exact .inl h
     .exact .inl d
     .exact .inr h
   .rw[jr,fu,or_assoc]
theorem TD(l:List Tx):(b_ l).Nodup:=(GS l []).1 List.nodup_nil
theorem mj(l:List Tx)(x:Tx):x∈b_ l↔x∈l:=by rw[b_,(GS l []).2 x];simp
theorem BV(l:List Tx):(b_ l).length<=l.length:=by
 have b:∀(l a:List Tx),(l.foldl (λks x=>if x∈ks then ks else ks++[x]) a).length<=a.length+l.length:=by
  intro l
  induction l with
  |nil=>intro a;simp
  |cons x r c=>intro a;rw[lf];refine cP (c _) ?_;split <;> simp <;> lia
 simpa[b_]using b l []
section
variable{X:Cx}
def ln(X:Cx)(a:ag)(b:List Tx):HO:=.ext λh=>jJ X.prog X.w h a (b.map tS)
theorem Nx(z:X.calm=ah):eC X (.type "set") (λxs H Q=>∃(p:ag) (c:List Tx),xs=[.ref p]/\cC X.K H p (cO c)/\(b_ c).length<4000/\∀a,H a=ae->Q (.ref a) (upd H a (ln X a (b_ c)))):=by
 intro L s B H xs C Q I r h;obtain⟨p,c,rfl,x,f,q⟩:=h;obtain⟨u,rfl,l⟩:=vals1 r;cases l;obtain⟨d,g,v,E⟩:=I.list x;have y:=g.length;rw[yP]at y;refine OH (P:=X.prog) (w:=X.w) (I.ok.hd z) v.isList (by simpa using xq g) (by rw[cr,show d.length=c.length by lia,xH,cn];exact f) λA j S k=>?_;have i:jJ X.prog X.w A s.heap.objs.size ((b_ c).map tS):=by
  have e:d.toArray.size=c.length:=by rw[cr];lia
  rw[e,xH]at S;exact S
 refine⟨.ref s.heap.objs.size,_,I.laid (t':=j) (o:=ln X s.heap.objs.size (b_ c)) (λb o e=>k b o (bR e) e) (a9 _) ?_,rfl,q _ I.fresh⟩;obtain⟨J,K,t,D,e,_⟩:=i.ex;exact⟨i,⟨_,e⟩,λG F n m=>n.at m⟩
end
structure cD(K:ay)(mg:Str->Option ai)(x:Str)(st:ba):Prop where
 ex:∃f fd,mg x=aa (.ref f)/\qf K x x st f fd
theorem Hd{H:Hp}{p:ag}{o:HO}(h:H p=ae):Same H (upd H p o):=λb u q=>by rw[br (mh q h)];exact q
theorem yE{a:Type}{xs:List a}{k:Int}(b:0<=k)(h:k.toNat<xs.length):gB xs k=aa xs[k.toNat]:=by
 have e:((k.toNat:Nat):Int)=k:=∅
 have q:=Rk (xs:=xs) (j:=k.toNat) (v:=xs[k.toNat]) (by simp[h]);rwa[e]at q
def Fz(N:List Str)(d a:dH)(x:Str)(c:List Str)(b:List Nat):Bool :=
 decide (a.kind=.function)&&a.names.all (λy=>(decide (y.2≠.cell)||decide (a.names.lookup y.1=aa .cell))&&(decide (y.2≠.local)||decide (a.names.lookup y.1=aa .local))&&(decide (y.2≠.free)||decide (d.names.lookup y.1=aa .cell)||decide (d.names.lookup y.1=aa .free)))
 && (decide (a.names.lookup x=aa .local)||decide (a.names.lookup x=aa .cell))&&decide c.Nodup&&decide (c.head?=aa x)&&decide (c.length=b.length+1)&&(b.zip c.tail).all λp=>(decide (N[p.1]?=aa p.2)&&decide (a.names.lookup p.2=aa .free))||(decide (N.length<=p.1)&&decide (a.names.lookup p.2=aa .local))
theorem jD.of{X:Cx}{a:dH}{x:Str}{N':List Str}{cap:List Nat}(N:List Str)(d:dH)(l:X.N=N)(f:X.env.scope=d)(h:Fz N d a x N' cap=ah):jD X a x N' cap:=by
 subst l f;simp only[Fz,gn,decide_eq_true_eq,q8,zA]at h;obtain⟨⟨⟨⟨⟨⟨r,c⟩,q⟩,p⟩,o⟩,n⟩,m⟩:=h;refine⟨r,λy b e=>(c y b).1.1.elim (λz=>absurd e z) λz=>z,λy b e=>?_,q,λy b e=>?_,p,o,n,λi j y t s=>?_⟩
 .rcases(c y b).1.2 with z|z
  .exact absurd e z
  .exact z
 .rcases(c y b).2 with(z|z)|z
  .exact absurd e z
  .exact .inl z
  .exact .inr z
 .have g:(j,y)∈cap.zip N'.tail:=by
   refine List.mem_iff_getElem?.mpr ⟨i,?_⟩;rw[List.getElem?_zip_eq_some];refine⟨s,?_⟩;rw[<-List.drop_one,C8,Nat.add_comm];exact t
  exact m _ g
theorem TB(a b:Tx):dU (tV a) (tV b)=decide (a=b):=by show(tS a == tS b)=_;rw[lM];simp only[beq_iff_eq,decide_eq_true_eq];exact⟨qi,λh=>by rw[h]⟩
end L2
namespace Pu
open L2
abbrev St:=L2.St
inductive PV where
 |non|bl (b:Bool)|int (i:Int)|str (x:Tx)|tup (xs:List PV)|lst (xs:List PV)|raw (v:V)|exc (c:ai)
def nq(a:ag)(c:ai):HO:=.ext λh=>∃o b,h.get? a=aa o/\o.cls=c/\o.data=.fields b/\o.dict=ae
def bE:Nat:=1000000
theorem kq:bE<=bd:=by rw[k_];decide
def eK:HO->Prop
 |.lst _=>True
 |.dK _=>True
 |.dT _=>True
 |.dN _=>True
 |.ins _ _ _=>True
 |.own _=>True
 |_=>False
mutual
def a_(K:ay)(H:Hp)(F:ag->Prop):PV->V->Prop
 |.non,v=>v=.non
 |.bl b,v=>v=.bl b
 |.int i,v=>v=.int i
 |.str x,v=>v=tV x/\x.length<=bE
 |.tup xs,v=>∃a d,v=.ref a/\H a=aa (.tup d)/\Reps K H F xs d
 |.lst xs,v=>∃a d,v=.ref a/\Rd H a (.lst d)/\F a/\Reps K H F xs d
 |.raw u,v=>v=u
 |.exc c,v=>∃a,v=.ref a/\H a=aa (nq a c)
def Reps(K:ay)(H:Hp)(F:ag->Prop):List PV->List V->Prop
 |[],a=>a=[]
 |x::xs,a=>∃v r,a=v::r/\a_ K H F x v/\Reps K H F xs r
end
section
variable{K:ay}{H b:Hp}{F c:ag->Prop}
mutual
theorem a_.mono(i:∀a,F a->c a)(g:∀a xs,F a->Rd H a (.lst xs)->Rd b a (.lst xs))(f:∀a o,H a=aa o->¬eK o->b a=aa o):∀(x:PV) (v:V),a_ K H F x v->a_ K b c x v
 |.non,_,h=>h
 |.bl _,_,h=>h
 |.int _,_,h=>h
 |.str _,_,h=>h
 |.raw _,_,h=>h
 |.exc _,_,⟨a,e,h⟩=>⟨a,e,f a _ h id⟩
 |.tup xs,_,⟨a,d,e,l,j⟩=>⟨a,d,e,f a _ l id,Reps.mono i g f xs d j⟩
 |.lst xs,_,⟨a,d,e,l,m,j⟩=>⟨a,d,e,g a d m l,i a m,Reps.mono i g f xs d j⟩
theorem Reps.mono(i:∀a,F a->c a)(g:∀a xs,F a->Rd H a (.lst xs)->Rd b a (.lst xs))(f:∀a o,H a=aa o->¬eK o->b a=aa o):∀(xs:List PV) (d:List V),Reps K H F xs d->Reps K b c xs d
 |[],_,h=>h
 |x::xs,_,⟨v,r,e,l,j⟩=>⟨v,r,e,a_.mono i g f x v l,Reps.mono i g f xs r j⟩
end
theorem Reps.len:∀{xs:List PV}{vs:List V},Reps K H F xs vs->vs.length=xs.length
 |[],_,h=>by rw[show _=[] from h];rfl
 |_::_,_,⟨_,_,e,_,a⟩=>by rw[e,eh,eh,Reps.len a]
theorem Reps.get:∀{xs:List PV}{c:List V}{i:Nat}{x:PV},Reps K H F xs c->xs[i]?=aa x->∃v,c[i]?=aa v/\a_ K H F x v
 |[],_,_,_,_,e=>by simp at e
 |x::xs,_,0,y,⟨v,r,e,h1,_⟩,q=>by simp at q;subst q;subst e;exact⟨v,rfl,h1⟩
 |x::xs,_,i+1,y,⟨v,r,e,_,h2⟩,q=>by obtain⟨w,a,b⟩:=Reps.get (i:=i) (x:=y) h2 (by simpa using q);subst e;exact⟨w,by simpa using a,b⟩
theorem Reps.back:∀{xs:List PV}{c:List V}{i:Nat}{v:V},Reps K H F xs c->c[i]?=aa v->∃x,xs[i]?=aa x/\a_ K H F x v
 |[],_,_,_,h,e=>by rw[show _=[] from h]at e;simp at e
 |x::xs,_,0,y,⟨v,r,e,h1,_⟩,q=>by subst e;simp at q;subst q;exact⟨x,rfl,h1⟩
 |x::xs,_,i+1,y,⟨v,r,e,_,h2⟩,q=>by subst e;obtain⟨w,a,b⟩:=Reps.back (i:=i) (v:=y) h2 (by simpa using q);exact⟨w,by simpa using a,b⟩
theorem Reps.app:∀{xs a:List PV}{c b:List V},Reps K H F xs c->Reps K H F a b->Reps K H F (xs++a) (c++b)
 |[],_,_,_,h,g=>by rw[show _=[] from h];exact g
 |x::xs,_,_,_,⟨v,r,e,f,d⟩,g=>by subst e;exact⟨v,_,rfl,f,Reps.app d g⟩
theorem Reps.one{x:PV}{v:V}(h:a_ K H F x v):Reps K H F [x] [v]:=⟨v,[],rfl,h,rfl⟩
theorem Reps.drop:∀(n:Nat) {xs:List PV}{a:List V},Reps K H F xs a->Reps K H F (xs.drop n) (a.drop n)
 |0,_,_,h=>h
 |_+1,[],_,h=>by rw[show _=[] from h];rfl
 |n+1,_::_,_,⟨_,_,e,_,h2⟩=>by subst e;exact Reps.drop n h2
theorem Reps.take:∀(n:Nat) {xs:List PV}{a:List V},Reps K H F xs a->Reps K H F (xs.take n) (a.take n)
 |0,_,_,_=>by rw[C9,C9];rfl
 |_+1,[],_,h=>by rw[show _=[] from h];rfl
 |n+1,_::_,_,⟨v,_,e,h1,h2⟩=>by subst e;exact⟨v,_,rfl,h1,Reps.take n h2⟩
theorem Reps.set{x:PV}{v:V}(b:a_ K H F x v):∀(n:Nat) {xs:List PV}{a:List V},Reps K H F xs a->Reps K H F (xs.set n x) (a.set n v)
 |_,[],_,h=>by rw[show _=[] from h];rfl
 |0,_::_,_,⟨_,r,e,_,h2⟩=>by subst e;exact⟨v,r,rfl,b,h2⟩
 |n+1,_::_,_,⟨w,_,e,h1,h2⟩=>by subst e;exact⟨w,_,rfl,h1,Reps.set b n h2⟩
end
structure bD(O O' F F':ag->Prop)(H H':Hp):Prop where
 fro:∀a,F a->F' a
 keep:∀b o,H b=aa o->¬O b->H' b=aa o
 there:∀b o,H b=aa o->∃o',H' b=aa o'
 fnew:∀a,F' a->F a\/H a=ae\/O a
 onew:∀a,O' a->O a\/H a=ae
theorem bD.refl(O F:ag->Prop)(H:Hp):bD O O F F H H:=⟨λ_ h=>h,λ_ _ h _=>h,λ_ o h=>⟨o,h⟩,λ_ h=>.inl h,λ_ h=>.inl h⟩
theorem bD.trans{O i f F m l:ag->Prop}{H d j:Hp}(g:bD O i F m H d)(k:bD i f m l d j):bD O f F l H j where
 fro:=λa h=>k.fro a (g.fro a h)
 keep:=λb o h n=>k.keep b o (g.keep b o h n) λz=>(g.onew b z).elim n λq=>by rw[q]at h;cases h
 there:=λb o h=>let ⟨o',c⟩:=g.there b o h;k.there b o' c
 fnew:=λa h=>by
  have back:d a=ae->H a=ae\/O a:=λz=>by
   cases q:H a with
   |none=>exact .inl rfl
   |some o=>obtain⟨o',c⟩:=g.there a o q;rw[z]at c;cases c
  rcases k.fnew a h with z|z|z
  .exact g.fnew a z
  .exact .inr (back z)
  .exact .inr ((g.onew a z).symm)
 onew:=λa h=>by
  rcases k.onew a h with z|z
  .exact g.onew a z
  .cases q:H a with
   |none=>exact .inr rfl
   |some o=>obtain⟨o',c⟩:=g.there a o q;rw[z]at c;cases c
def Fit(O F:ag->Prop)(H:Hp):Prop:=∀b,O b->¬F b/\∃o,H b=aa o/\eK o
section
variable{K:ay}{O d F c:ag->Prop}{H b:Hp}
theorem bD.imm(g:bD O d F c H b)(f:Fit O F H){a:ag}{o:HO}(h:H a=aa o)(n:¬eK o):b a=aa o :=
 g.keep _ _ h λz=>by
  obtain⟨_,l,i,j⟩:=f a z;rw[h]at i;cases i;exact n j
theorem bD.lst(g:bD O d F c H b)(f:Fit O F H){a:ag}{xs:List V}(i:F a)(h:Rd H a (.lst xs)):Rd b a (.lst xs):=by
 have no:¬O a:=λz=>(f a z).1 i;rcases h with h|⟨o,h⟩
 .exact .inl (g.keep _ _ h no)
 .exact .inr ⟨o,g.keep _ _ h no⟩
theorem a_.grow(g:bD O d F c H b)(f:Fit O F H){x:PV}{v:V}(h:a_ K H F x v):a_ K b c x v:=a_.mono g.fro (λ_ _ a q=>g.lst f a q) (λ_ _ q n=>g.imm f q n) x v h
theorem Reps.grow(g:bD O d F c H b)(f:Fit O F H){x:List PV}{v:List V}(h:Reps K H F x v):Reps K b c x v:=Reps.mono g.fro (λ_ _ a q=>g.lst f a q) (λ_ _ q n=>g.imm f q n) x v h
end
theorem _root_.L2.Same.rd{H b:Hp}{a:ag}{u:HO}(e:Same H b)(h:Rd H a u):Rd b a u:=h.elim (λz=>.inl (e _ _ z)) λ⟨o,z⟩=>.inr ⟨o,e _ _ z⟩
structure Al(F F':ag->Prop)(H H':Hp):Prop where
 fro:∀a,F a->F' a
 same:Same H H'
 fnew:∀a,F' a->F a\/(H a=ae/\∃o,H' a=aa o)
theorem Al.refl(F:ag->Prop)(H:Hp):Al F F H H:=⟨λ_ h=>h,Same.refl H,λ_ h=>.inl h⟩
theorem Al.grow{F d O:ag->Prop}{H c:Hp}(a:Al F d H c):bD O O F d H c :=⟨a.fro,λb o h _=>a.same b o h,λb o h=>⟨o,a.same b o h⟩,λb h=>(a.fnew b h).imp id λz=>.inl z.1,λ_ h=>.inl h⟩
theorem Al.rep{K:ay}{F c:ag->Prop}{H b:Hp}(a:Al F c H b){x:PV}{v:V}(h:a_ K H F x v):a_ K b c x v:=a_.mono a.fro (λ_ _ _ q=>a.same.rd q) (λ_ _ q _=>a.same _ _ q) x v h
theorem Al.reps{K:ay}{F c:ag->Prop}{H b:Hp}(a:Al F c H b){x:List PV}{v:List V}(h:Reps K H F x v):Reps K b c x v:=Reps.mono a.fro (λ_ _ _ q=>a.same.rd q) (λ_ _ q _=>a.same _ _ q) x v h
theorem Al.trans{F i g:ag->Prop}{H f d:Hp}(a:Al F i H f)(b:Al i g f d):Al F g H d :=
 ⟨λc h=>b.fro c (a.fro c h),a.same.trans b.same,λc h=>by
  rcases b.fnew c h with z|⟨z,w⟩
  .rcases a.fnew c z with y|⟨y,o,q⟩
   .exact .inl y
   .exact .inr ⟨y,o,b.same _ _ q⟩
  .exact .inr ⟨a.same.free z,w⟩⟩
theorem Al.new{F:ag->Prop}{H:Hp}{l:ag}{o:HO}(h:H l=ae):Al F (λa=>F a\/a=l) H (upd H l o) :=⟨λ_ h=>.inl h,Hd h,λa z=>z.imp id λe=>by subst e;exact⟨h,o,upd_same⟩⟩
theorem Al.new0{F:ag->Prop}{H:Hp}{l:ag}{o:HO}(h:H l=ae):Al F F H (upd H l o):=⟨λ_ h=>h,Hd h,λa z=>.inl z⟩
inductive PO where
 |lst (xs:List PV)|dK (kvs:List (aD×PV))|lls (ki:List (List PV))|ins (C:ag) (fs:List (Str×PV))|dT (kvs:List (List aD×PV))|dN (kvs:List ((Tx×List Tx)×PV))|inl (C:ag) (fs:List (Str×PV)) (y:Str) (xs:List PV)
def eR:PO->Bool
 |.lls _=>aj
 |.inl ..=>aj
 |_=>ah
inductive Slot where
 |none|val (v:PV)|own (o:PO)
abbrev ak:=List Slot
def iC(K:ay)(H:Hp)(F:ag->Prop)(a:List (aD×PV))(b:List (aD×V)):Prop:=kC (λ(p:aD×PV) (q:aD×V)=>p.1=q.1/\a_ K H F p.2 q.2) a b
def uT(K:ay)(H:Hp)(F:ag->Prop)(fs:List (Str×PV))(a:List (Str×V)):Prop:=kC (λ(p:Str×PV) (q:Str×V)=>p.1=q.1/\a_ K H F p.2 q.2) fs a
def yX(K:ay)(H:Hp)(F:ag->Prop)(a:List (List aD×PV))(b:List (List aD×V)):Prop:=kC (λ(p:List aD×PV) (q:List aD×V)=>p.1=q.1/\a_ K H F p.2 q.2) a b
def nS(k:Tx×List Tx):Str×List Str:=(tS k.1,k.2.map tS)
def mv(K:ay)(H:Hp)(F:ag->Prop)(a:List ((Tx×List Tx)×PV))(b:List ((Str×List Str)×V)):Prop:=kC (λ(p:(Tx×List Tx)×PV) (q:(Str×List Str)×V)=>nS p.1=q.1/\a_ K H F p.2 q.2) a b
def zf(K:ay)(H:Hp)(F:ag->Prop)(c:List (List PV))(d:List ag):Prop:=kC (λ(xs:List PV) (b:ag)=>∃a,H b=aa (.lst a)/\Reps K H F xs a) c d
def fU(K:ay)(H:Hp)(F:ag->Prop)(j:PO)(a:ag)(S:ag->Prop):Prop :=
 match j with
 |.lst xs=>(∃g,H a=aa (.lst g)/\Reps K H F xs g)/\∀b,S b↔b=a
 |.dK f=>(∃d,H a=aa (.dK d)/\iC K H F f d)/\∀b,S b↔b=a
 |.lls l=>∃h,H a=aa (.lst (h.map .ref))/\zf K H F l h/\h.Nodup/\a∉h/\∀b,S b↔b=a\/b∈h
 |.ins C fs=>(∃i d,H a=aa (.ins C i d)/\uT K H F fs d)/\∀b,S b↔b=a
 |.dT f=>(∃d,H a=aa (.dT d)/\yX K H F f d)/\∀b,S b↔b=a
 |.dN f=>(∃d,H a=aa (.dN d)/\mv K H F f d)/\∀b,S b↔b=a
 |.inl C fs y xs=>∃i d b g,H a=aa (.ins C i (d++[(y,.ref b)]))/\uT K H F fs d/\fs.lookup y=ae/\H b=aa (.lst g)/\Reps K H F xs g/\a≠b/\∀c,S c↔c=a\/c=b
structure aZ(K:ay)(F:ag->Prop)(S:Nat->ag->Prop)(ε:ak)(σ:St)(H:Hp):Prop where
 len:ε.length=σ.length
 ex:∀a,F a->∃o,H a=aa o
 val:∀(i:Nat) (pv:PV),ε[i]?=aa (.val pv)->∃v,σ[i]?=aa (aa v)/\a_ K H F pv v
 own:∀(i:Nat) (po:PO),ε[i]?=aa (.own po)->∃a,σ[i]?=aa (aa (.ref a))/\fU K H F po a (S i)
 foot:∀(i:Nat) (b:ag),S i b->(∃po,ε[i]?=aa (.own po))/\¬F b/\∃o,H b=aa o/\eK o
 dist:∀(i j:Nat) (b:ag),S i b->S j b->i=j
def U(S:Nat->ag->Prop)(b:ag):Prop:=∃i,S i b
section
variable{K:ay}{F f:ag->Prop}{S:Nat->ag->Prop}{j:ak}{g:St}{H d:Hp}
theorem aZ.fit(r:aZ K F S j g H):Fit (U S) F H:=λb ⟨i,h⟩=>(r.foot i b h).2
theorem iC.mono{a:List (aD×PV)}{b:List (aD×V)}(i:∀x v,a_ K H F x v->a_ K d f x v)(h:iC K H F a b):iC K d f a b:=by
 unfold iC at h ⊢
 induction h with
 |nil=>exact .nil
 |cons r _ c=>exact .cons ⟨r.1,i _ _ r.2⟩ c
theorem uT.mono{fs:List (Str×PV)}{a:List (Str×V)}(c:∀x v,a_ K H F x v->a_ K d f x v)(h:uT K H F fs a):uT K d f fs a:=by
 unfold uT at h ⊢
 induction h with
 |nil=>exact .nil
 |cons r _ b=>exact .cons ⟨r.1,c _ _ r.2⟩ b
theorem yX.mono{a:List (List aD×PV)}{b:List (List aD×V)}(i:∀x v,a_ K H F x v->a_ K d f x v)(h:yX K H F a b):yX K d f a b:=by
 unfold yX at h ⊢
 induction h with
 |nil=>exact .nil
 |cons r _ c=>exact .cons ⟨r.1,i _ _ r.2⟩ c
theorem mv.mono{a:List ((Tx×List Tx)×PV)}{b:List ((Str×List Str)×V)}(i:∀x v,a_ K H F x v->a_ K d f x v)(h:mv K H F a b):mv K d f a b:=by
 unfold mv at h ⊢
 induction h with
 |nil=>exact .nil
 |cons r _ c=>exact .cons ⟨r.1,i _ _ r.2⟩ c
theorem zf.mono{c:List (List PV)}{a:List ag}(l:∀x v,Reps K H F x v->Reps K d f x v)(i:∀b o,b∈a->H b=aa o->d b=aa o)(h:zf K H F c a):zf K d f c a:=by
 unfold zf at h ⊢
 induction h with
 |nil=>exact .nil
 |cons r _ n=>obtain⟨m,s,q⟩:=r;exact .cons ⟨m,i _ _ (by simp) s,l _ _ q⟩ (n λb o p=>i b o (by simp[p]))
theorem fU.mono{s:PO}{a:ag}{u:ag->Prop}(m:∀x v,a_ K H F x v->a_ K d f x v)(p:∀x v,Reps K H F x v->Reps K d f x v)(i:∀b o,u b->H b=aa o->d b=aa o)(h:fU K H F s a u):fU K d f s a u:=by
 cases s with
 |lst xs=>obtain⟨⟨r,e,q⟩,w⟩:=h;exact⟨⟨r,i a _ ((w a).mpr rfl) e,p _ _ q⟩,w⟩
 |dK l=>obtain⟨⟨c,e,q⟩,w⟩:=h;exact⟨⟨c,i a _ ((w a).mpr rfl) e,q.mono m⟩,w⟩
 |lls J=>obtain⟨I,e,q,D,B,w⟩:=h;exact⟨I,i a _ ((w a).mpr (.inl rfl)) e,q.mono p λb o E=>i b o ((w b).mpr (.inr E)),D,B,w⟩
 |ins C fs=>obtain⟨⟨t,c,e,q⟩,w⟩:=h;exact⟨⟨t,c,i a _ ((w a).mpr rfl) e,q.mono m⟩,w⟩
 |dT l=>obtain⟨⟨c,e,q⟩,w⟩:=h;exact⟨⟨c,i a _ ((w a).mpr rfl) e,q.mono m⟩,w⟩
 |dN l=>obtain⟨⟨c,e,q⟩,w⟩:=h;exact⟨⟨c,i a _ ((w a).mpr rfl) e,q.mono m⟩,w⟩
 |inl C fs y xs=>obtain⟨t,c,b,r,e,q,n,G,z,A,w⟩:=h;exact⟨t,c,b,r,i a _ ((w a).mpr (.inl rfl)) e,q.mono m,n,i b _ ((w b).mpr (.inr rfl)) G,p _ _ z,A,w⟩
theorem aZ.al(r:aZ K F S j g H)(a:Al F f H d):aZ K f S j g d where
 len:=r.len
 ex:=λb h=>(a.fnew b h).elim (λz=>let ⟨o,q⟩:=r.ex b z;⟨o,a.same _ _ q⟩) λz=>z.2
 val:=λi pv e=>let ⟨v,m,l⟩:=r.val i pv e;⟨v,m,a.rep l⟩
 own:=λi p e=>let ⟨b,m,l⟩:=r.own i p e;⟨b,m,l.mono (λ_ _ q=>a.rep q) (λ_ _ q=>a.reps q) λc o _ q=>a.same _ _ q⟩
 foot:=λi b h=>by
  obtain⟨m,l,o,n,s⟩:=r.foot i b h;refine⟨m,λz=>?_,o,a.same _ _ n,s⟩;rcases a.fnew b z with y|⟨y,_⟩
  .exact l y
  .rw[n]at y;cases y
 dist:=r.dist
end
inductive R(α:Type) where
 |ok (a:α) (ε:ak)|er (c:ai) (ε:ak)|no
def R.bind{d b:Type}(r:R d)(k:d->ak->R b):R b:=match r with
 |.ok a ε=>k a ε
 |.er c ε=>.er c ε
 |.no=>.no
def aE{b:Type}(o:Option b)(ε:ak):R b:=match o with
 |some a=>.ok a ε
 |none=>.no
@[simp] theorem R.bind_ok{b c:Type}(a:b)(ε:ak)(k:b->ak->R c):(R.ok a ε).bind k=k a ε:=rfl
@[simp] theorem R.bind_er{b d:Type}(c:ai)(a:ak)(k:b->ak->R d):(R.er c a:R b).bind k=.er c a:=rfl
@[simp] theorem R.bind_no{a b:Type}(k:a->ak->R b):(R.no:R a).bind k=.no:=rfl
@[simp] theorem cg{c:Type}(a:c)(b:ak):aE (aa a) b=.ok a b:=rfl
@[simp] theorem U8{b:Type}(a:ak):aE (ae:Option b) a=.no:=rfl
def Ok(K:ay)(E:XK)(h:St)(F:ag->Prop)(S:Nat->ag->Prop)(H:Hp){i:Type}(r:R i)(C:i->ak->(ag->Prop)->(Nat->ag->Prop)->Hp->Prop):Prop:=match r with
 |.ok a b=>∀g f d,aZ K g f b h d->bD (U S) (U f) F g H d->C a b g f d
 |.er c b=>∀x g f d,aZ K g f b h d->bD (U S) (U f) F g H d->E c x d
 |.no=>False
section
variable{K:ay}{E:XK}{b:St}{F:ag->Prop}{S:Nat->ag->Prop}{H:Hp}{d i:Type}{C C':d->ak->(ag->Prop)->(Nat->ag->Prop)->Hp->Prop}{D:i->ak->(ag->Prop)->(Nat->ag->Prop)->Hp->Prop}
theorem Ok.imp{r:R d}(h:Ok K E b F S H r C)(f:∀a j n l m,aZ K n l j b m->bD (U S) (U l) F n H m->C a j n l m->C' a j n l m):Ok K E b F S H r C':=by
 cases r with
 |ok a j=>exact λn l m r g=>f a j n l m r g (h n l m r g)
 |er c j=>exact h
 |no=>exact h
theorem Ok.from{r:R i}{q:ag->Prop}{o:Nat->ag->Prop}{p:Hp}(h:Ok K E b F S H r D)(g:bD (U S) (U o) F q H p):Ok K E b q o p r D:=by
 cases r with
 |ok a f=>exact λn l m j g'=>h n l m j (g.trans g')
 |er c f=>exact λx n l m j g'=>h x n l m j (g.trans g')
 |no=>exact h
theorem Ok.bind{r:R d}{k:d->ak->R i}(h:Ok K E b F S H (r.bind k) D):Ok K E b F S H r (λa ε1 m j l=>Ok K E b m j l (k a ε1) D):=by
 cases r with
 |ok a f=>exact λp n o r g=>Ok.from h g
 |er c f=>exact h
 |no=>exact h
end
structure Bx(p:Prop):Prop where
 run:p
def jA(X:Cx)(e:az):TE:=λa H Q=>Bx (∀b s,Inv X b a H s->au (ax X.prog X.w) X.A (aL e X.env) (EP X b a Q) X.xe s)
def Ag(X:Cx)(e:az):TT:=λa H Q=>Bx (∀b s,Inv X b a H s->au (ax X.prog X.w) X.A (nW e X.env (aL e X.env)) (TP X b a Q) X.xe s)
def wpS(X:Cx)(c:ba):TS:=λD b H=>Bx (∀a s,Inv X a b H s->au (ax X.prog X.w) X.A (exec c X.env) (SP X a D) X.xe s)
def qr(X:Cx)(c:List ba):TS:=λD b H=>Bx (∀a s,Inv X a b H s->au (ax X.prog X.w) X.A (execs c X.env) (SP X a D) X.xe s)
section
variable{X:Cx}{e:az}{b:ba}{a:List ba}
theorem bI:PE X e (jA X e):=λc s _ _ _ I h=>h.run c s I
theorem qx:PT X e (Ag X e):=λc s _ _ _ I h=>h.run c s I
theorem FD:PS X b (wpS X b):=λc s _ _ _ I h=>h.run c s I
theorem sX:lF X a (qr X a):=λc s _ _ _ I h=>h.run c s I
theorem b7{t:TE}(h:PE X e t){c:St}{H:Hp}{Q:VK}(q:t c H Q):jA X e c H Q:=⟨λd s I=>h d s c H Q I q⟩
theorem qI{t:TT}(h:PT X e t){c:St}{H:Hp}{Q:Bool->Hp->Prop}(q:t c H Q):Ag X e c H Q:=⟨λd s I=>h d s c H Q I q⟩
theorem jh{t:TS}(h:PS X b t){c:St}{H:Hp}{D:lu}(q:t D c H):wpS X b D c H:=⟨λd s I=>h d s c H D I q⟩
theorem B1{t:TS}(h:lF X a t){c:St}{H:Hp}{D:lu}(q:t D c H):qr X a D c H:=⟨λd s I=>h d s c H D I q⟩
end
def DE(X:Cx)(E:XK)(e:az)(d:ak->R PV):Prop :=
 ∀F S ε a H Q,aZ X.K F S ε a H->Ok X.K E a F S H (d ε) (λpv _ c _ b=>∀v,a_ X.K b c pv v->Q v b)->jA X e a H Q
def DN(X:Cx)(E:XK)(e:az)(d:ak->R PO):Prop :=
 ∀F S g c H Q,aZ X.K F S g c H->Ok X.K E c F S H (d g) (λj _ i l f=>∀a h,fU X.K f i j a h->(∀b,h b->H b=ae/\¬i b/\¬U l b/\∃o,f b=aa o/\eK o)->Q (.ref a) f)->jA X e c H Q
def DT(X:Cx)(E:XK)(e:az)(d:ak->R Bool):Prop :=
 ∀F S ε a H Q,aZ X.K F S ε a H->Ok X.K E a F S H (d ε) (λb _ _ _ c=>Q b c)->Ag X e a H Q
end Pu
namespace Pu
open L2
section
variable{X:Cx}{E:XK}{a b c:az}{m db o:ak->R PV}{pos:Pos}
def dC(pv:PV):ak->R PV:=λε=>.ok pv ε
theorem aP{i j pos}:DE X E (.Constant (.int i) j pos) (dC (.int i)):=λF S f d H Q r h=>b7 Ig (h F S H r (bD.refl ..) _ rfl)
theorem kt{i j pos}:DE X E (.Constant (.bool i) j pos) (dC (.bl i)):=λF S f d H Q r h=>b7 P5 (h F S H r (bD.refl ..) _ rfl)
theorem Eb{j pos}:DE X E (.Constant .none j pos) (dC .non):=λF S f d H Q r h=>b7 Qm (h F S H r (bD.refl ..) _ rfl)
theorem ce(l:Tx){x:Str}{j pos}(d:x=tS l:=by decide +kernel)(f:l.length<=bE:=by decide):DE X E (.Constant (.str x) j pos) (dC (.str l)):=λF S i g H Q r h=>b7 OF (h F S H r (bD.refl ..) _ (by rw[d];exact⟨rfl,f⟩))
def dV(i:Nat):ak->R PV:=λε=>match ε[i]? with
 |some (.val pv)=>.ok pv ε
 |_=>.no
theorem aq(i:Nat){x:Str}{pos:Pos}(g:X.N[i]?=aa x:=by rfl)(d:eD X.env.scope x:=by first|exact Or.inl rfl|exact Or.inr (Or.inl rfl)|exact Or.inr (Or.inr rfl))(f:(x==("__debug__":Str))=aj:=by decide)(n:(x==("__classdict__":Str))=aj:=by decide):DE X E (.Name x pos) (dV i):=λF S s q H Q r h=>by
 unfold dV at h;split at h
 .rename_i p e;obtain⟨v,l,j⟩:=r.val i p e;exact b7 (fE g d f n) ⟨v,l,h F S H r (bD.refl ..) v j⟩
 .exact h.elim
theorem Cb{x:Str}{i:Int}{pos:Pos}(h:∃t,X.mg x=aa (.int i t))(d:Gl X x:=by rfl)(f:(x==("__debug__":Str))=aj:=by decide):DE X E (.Name x pos) (dC (.int i)):=λF S j g H Q r q=>by obtain⟨t,e⟩:=h;exact b7 (BE (v:=.int i) d e ⟨t,rfl⟩ f) (q F S H r (bD.refl ..) _ rfl)
theorem y3{x:Str}{l:Tx}{pos:Pos}(h:∃t,X.mg x=aa (.str (tS l) t))(f:Gl X x:=by rfl)(d:l.length<=bE:=by decide)(g:(x==("__debug__":Str))=aj:=by decide):DE X E (.Name x pos) (dC (.str l)):=λF S j i H Q r q=>by obtain⟨t,e⟩:=h;exact b7 (BE (v:=tV l) f e ⟨t,rfl⟩ g) (q F S H r (bD.refl ..) _ ⟨rfl,d⟩)
def P2(K:ay)(r:R2)(f:PV->PV->Option PV):Prop:=∀(F:ag->Prop) (H:Hp) (x y:PV) (v u:V) (Q:VK) (pv:PV),a_ K H F x v->a_ K H F y u->f x y=aa pv->(∀w g d,Al F g H d->a_ K d g pv w->Q w d)->r v u H Q
def d2(f:PV->PV->Option PV)(m db:ak->R PV):ak->R PV:=λε=>(m ε).bind λx ε1=>(db ε1).bind λy d=>aE (f x y) d
theorem yZ{r:R2}{f:PV->PV->Option PV}(G:P2 X.K r f)(J:DE X E a m)(I:DE X E b db){F:ag->Prop}{S:Nat->ag->Prop}{l:ak}{d:St}{H:Hp}{Q:VK}(C:aZ X.K F S l d H)(h:Ok X.K E d F S H (d2 f m db l) (λpv _ s _ i=>∀v,a_ X.K i s pv v->Q v i)):jA X a d H λx q=>jA X b d q λy p=>r x y p Q:=by
 refine J F S l d H _ C ((Ok.bind h).imp λx j P N q t T K v A=>?_);refine I P N j d q _ t ((Ok.bind K).imp λy z O M p D L g u B=>?_);cases e:f x y with
 |none=>rw[e]at g;exact g.elim
 |some pv=>rw[e]at g;exact G O p x y v u Q pv (A.grow L t.fit) B e λw s i al n=>g s M i (D.al al) al.grow w n
theorem cM{d:Operator}{r:R2}{f:PV->PV->Option PV}(j:cb X (iX d) r)(i:P2 X.K r f)(n:DE X E a m)(l:DE X E b db):DE X E (.BinOp a d b pos) (d2 f m db):=λF S q p H Q g h=>b7 (Kg j bI bI) (yZ i n l g h)
theorem yY{d:CmpOp}{r:R2}{f:PV->PV->Option PV}(j:cb X (eJ d) r)(i:P2 X.K r f)(p:DE X E a m)(n:DE X E b db)(l:nX d b=aj):DE X E (.Compare a [d] [b] pos) (d2 f m db):=λF S s q H Q g h=>b7 (Rp j bI bI l) (yZ i p n g h)
def lj:PV->Option Bool
 |.bl b=>aa b
 |_=>ae
def dB(d:ak->R PV):ak->R Bool:=λε=>(d ε).bind λx ε1=>aE (lj x) ε1
theorem HZ{K:ay}{H:Hp}{F:ag->Prop}{x:PV}{v:V}{k:Bool}(h:a_ K H F x v)(e:lj x=aa k):v=.bl k:=by
 cases x <;> simp[lj]at e;subst e;exact h
theorem pX{F:ag->Prop}{S:Nat->ag->Prop}{j:ak}{i:St}{H:Hp}{Q:Bool->Hp->Prop}{d:ak->R PV}(h:Ok X.K E i F S H (dB d j) (λk _ _ _ g=>Q k g)):Ok X.K E i F S H (d j) (λpv _ t _ g=>∀v,a_ X.K g t pv v->∃k,v=.bl k/\Q k g):=by
 refine(Ok.bind h).imp λx l s q r p u f v n=>?_;cases e:lj x with
 |none=>rw[e]at f;exact f.elim
 |some k=>rw[e]at f;exact⟨k,HZ n e,f s q r p (bD.refl ..)⟩
theorem iL{d:CmpOp}{r:R2}{f:PV->PV->Option PV}(j:cb X (eJ d) r)(i:P2 X.K r f)(p:DE X E a m)(n:DE X E b db)(l:nX d b=aj):DT X E (.Compare a [d] [b] pos) (dB (d2 f m db)):=λF S t s H Q g h=>qI (Nw j bI bI l) (yZ (Q:=λx q=>∃k,x=.bl k/\Q k q) i p n g (pX h))
theorem pi{e:az}{d:ak->R PV}(n:DE X E e d)(l:∀f,nW e X.env f=(do let v <-f;standAt e.pos;nZ [v] (truthy v)):=by intro _;rfl):DT X E e (dB d):=λF S i g H Q j h=>qI (RF bI l) (n F S i g H _ j (pX h))
def nv(f g:PV->PV->Option PV)(m db o:ak->R PV):ak->R PV:=λj=>(m j).bind λx i=>(db i).bind λy d=>(aE ((f x y).bind lj) d).bind λk d=>
 match k with
 |true=>(o d).bind λz h=>aE (g y z) h
 |false=>.ok (.bl aj) d
theorem HP{r N:R2}{f g:PV->PV->Option PV}(hp:P2 X.K r f)(fL:P2 X.K N g)(ha:DE X E a m)(hb:DE X E b db)(hc:DE X E c o){F:ag->Prop}{S:Nat->ag->Prop}{A:ak}{j:St}{H:Hp}{Q:VK}(rl:aZ X.K F S A j H)(h:Ok X.K E j F S H (nv f g m db o A) (λpv _ l _ i=>∀v,a_ X.K i l pv v->Q v i)):Ay r N (jA X a) (jA X b) (jA X c) j H Q:=by
 refine ha F S A j H _ rl ((Ok.bind h).imp λx t F1 S1 H1 M g1 h1 v Z=>?_);refine hb F1 S1 t j H1 _ M ((Ok.bind h1).imp λy n P K O r2 g2 d u L=>?_);cases e:f x y with
 |none=>rw[e]at d;exact d.elim
 |some pv=>
  rw[e]at d;refine hp P O x y v u _ pv (Z.grow g2 M.fit) L e λw l i al C=>?_;cases J:lj pv with
  |none=>rw[gG,J]at d;exact d.elim
  |some k=>
   rw[gG,J]at d;refine⟨k,HZ C J,?_⟩;have G:=r2.al al;cases k with
   |false=>exact qc (Ok.from d al.grow l K i G (bD.refl ..) _ rfl)
   |true=>
    have h3:Ok X.K E j P K O ((o n).bind λz s=>aE (g y z) s) (λpv _ l _ i=>∀v,a_ X.K i l pv v->Q v i):=d;refine qB (hc l K n j i _ G ((Ok.bind (Ok.from h3 al.grow)).imp λz T F4 S4 H4 r4 g4 q Y D=>?_));cases I:g y z with
    |none=>rw[I]at q;exact q.elim
    |some pz=>rw[I]at q;exact fL F4 H4 y z u Y Q pz ((al.rep L).grow g4 G.fit) D I λW F5 H5 p B=>q F5 S4 H5 (r4.al p) p.grow W B
theorem Tt{i d:CmpOp}{r j:R2}{f g:PV->PV->Option PV}(q:cb X (eJ i) r)(n:cb X (eJ d) j)(p:P2 X.K r f)(w:P2 X.K j g)(v:DE X E a m)(u:DE X E b db)(t:DE X E c o)(s:lastMarks [i,d] [b,c]=aj:=by with_unfolding_all rfl):DE X E (.Compare a [i,d] [b,c] pos) (nv f g m db o):=λF S y x H Q l h=>b7 (Qh q n bI bI bI s) (HP p w v u t l h)
theorem EX{i d:CmpOp}{r j:R2}{f g:PV->PV->Option PV}(q:cb X (eJ i) r)(n:cb X (eJ d) j)(p:P2 X.K r f)(w:P2 X.K j g)(v:DE X E a m)(u:DE X E b db)(t:DE X E c o)(s:lastMarks [i,d] [b,c]=aj:=by with_unfolding_all rfl):DT X E (.Compare a [i,d] [b,c] pos) (dB (nv f g m db o)):=λF S A z H Q l h=>qI (QQ q n bI bI bI s) (HP (Q:=λx y=>∃k,x=.bl k/\Q k y) p w v u t l (pX h))
variable{n A:ak->R Bool}{rest:List az}
def DW(X:Cx)(E:XK)(e:az)(d:ak->R Bool):Prop:=∀F S g f H Q,aZ X.K F S g f H->Ok X.K E f F S H (d g) (λb _ _ _ i=>Q b i)->∀(h:Sem ai) af s,Inv X af f H s->au (ax X.prog X.w) X.A (nW e X.env h) (TP X af f Q) X.xe s
def MJ(X:Cx)(e:az):TT:=λd H Q=>∀(f:Sem ai) af s,Inv X af d H s->au (ax X.prog X.w) X.A (nW e X.env f) (TP X af d Q) X.xe s
theorem Sx{e:az}:PW X e (MJ X e):=λd f s _ _ _ I h=>h d f s I
theorem DW.dt{e:az}{d:ak->R Bool}(h:DW X E e d):DT X E e d:=λF S ε f H Q g q=>⟨λi s I=>h F S ε f H Q g q _ i s I⟩
def xI(n A:ak->R Bool):ak->R Bool:=λf=>(n f).bind λk d=>match k with
 |true=>A d
 |false=>.ok aj d
def iI(n A:ak->R Bool):ak->R Bool:=λε=>(n ε).bind λk d=>match k with
 |true=>.ok ah d
 |false=>A d
def jY(n:ak->R Bool):ak->R Bool:=λf=>(n f).bind λk d=>.ok (!k) d
theorem p6(h:DT X E a n):DW X E (.BoolOp .Or [a] pos) n:=λF S f d H Q g q i j s I=>Ol qx i j s d H Q I (h F S f d H Q g q)
theorem p9(v:DT X E a n)(u:DW X E (.BoolOp .Or (b::rest) pos) A):DW X E (.BoolOp .Or (a::b::rest) pos) (iI n A):=λF S p d H Q r q t w s I=>by
 refine Qg qx Sx t w s d H Q I (v F S p d H _ r ((Ok.bind q).imp λk f l i j g x h=>?_));cases k with
 |true=>exact qB (h l i j g (bD.refl ..))
 |false=>exact qc (u l i f d j Q g h)
theorem nj(j:DT X E a n):DT X E (.UnaryOp .Not a pos) (jY n):=λF S g d H Q h q=>qI (Mm qx) (j F S g d H _ h ((Ok.bind q).imp λk f s p r i t l=>l s p r i (bD.refl ..)))
def ni(m db:ak->R PV):ak->R PV:=λf=>(dB m f).bind λk d=>match k with
 |true=>db d
 |false=>.ok (.bl aj) d
def BA(m db:ak->R PV):ak->R PV:=λf=>(dB m f).bind λk d=>match k with
 |true=>.ok (.bl ah) d
 |false=>db d
def vz(m:ak->R PV):ak->R PV:=λf=>(dB m f).bind λk d=>.ok (.bl (!k)) d
theorem HQ{d:ak->R PV}{r:Type}{D:r->ak->(ag->Prop)->(Nat->ag->Prop)->Hp->Prop}{k:Bool->ak->R r}{F:ag->Prop}{S:Nat->ag->Prop}{q:ak}{p:St}{H:Hp}{P:Bool->Hp->Prop}(h:Ok X.K E p F S H ((dB d q).bind k) D) (f:∀c g l j i,aZ X.K l j g p i->bD (U S) (U j) F l H i->Ok X.K E p l j i (k c g) D->P c i):Ok X.K E p F S H (d q) (λpv _ y _ s=>∀v,a_ X.K s y pv v->∃c,v=.bl c/\P c s):=by have u:=(Ok.bind h).imp (C':=λc g l j i=>P c i) λc g l j i t x w=>f c g l j i t x w;exact pX u
theorem xr{op}{d:ak->R PV}(h:DE X E a d):DE X E (.BoolOp op [a] pos) d:=λF S g f H Q i q=>b7 (Nj bI) (h F S g f H Q i q)
theorem vj(t:DE X E a m)(s:DE X E (.BoolOp .And (b::rest) pos) db):DE X E (.BoolOp .And (a::b::rest) pos) (ni m db):=λF S p f H Q r q=>by
 refine b7 (Ku bI bI) (t F S p f H _ r (HQ q λk d l i j g u h=>?_));cases k with
 |true=>exact qB (s l i d f j Q g h)
 |false=>exact qc (h l i j g (bD.refl ..) _ rfl)
theorem Rw(j:DE X E a m):DE X E (.UnaryOp .Not a pos) (vz m):=λF S g d H Q h q=>b7 (R8 bI) (j F S g d H _ h (HQ q λk f s p r i t l=>l s p r i (bD.refl ..) _ rfl))
def cE{d:Type}(t:ak->R Bool)(m db:ak->R d):ak->R d:=λf=>(t f).bind λk ε1=>match k with
 |true=>m ε1
 |false=>db ε1
theorem PU(s:DT X E c n)(u:DE X E a m)(t:DE X E b db):DE X E (.IfExp c a b pos) (cE n m db):=λF S p f H Q r q=>by
 refine b7 (Oe qx bI bI) (s F S p f H _ r ((Ok.bind q).imp λk d l i j g v h=>?_));cases k with
 |true=>exact qB (u l i d f j Q g h)
 |false=>exact qc (t l i d f j Q g h)
def P1(K:ay)(r:V->Hp->VK->Prop)(f:PV->Option PV):Prop:=∀(F:ag->Prop) (H:Hp) (x:PV) (v:V) (Q:VK) (pv:PV),a_ K H F x v->f x=aa pv->(∀w g d,Al F g H d->a_ K d g pv w->Q w d)->r v H Q
def d1(f:PV->Option PV)(m:ak->R PV):ak->R PV:=λε=>(m ε).bind λx ε1=>aE (f x) ε1
theorem Qv{r:V->Hp->VK->Prop}{f:PV->Option PV}(z:P1 X.K r f)(B:DE X E a m){F:ag->Prop}{S:Nat->ag->Prop}{j:ak}{d:St}{H:Hp}{Q:VK}(u:aZ X.K F S j d H)(h:Ok X.K E d F S H (d1 f m j) (λpv _ q _ i=>∀v,a_ X.K i q pv v->Q v i)):jA X a d H λx p=>r x p Q:=by
 refine B F S j d H _ u ((Ok.bind h).imp λx s D C p y G g v t=>?_);cases e:f x with
 |none=>rw[e]at g;exact g.elim
 |some pv=>rw[e]at g;exact z D p x v Q pv t e λw q i al l=>g q C i (y.al al) al.grow w l
theorem mo{d:UnaryOp}{r:V->Hp->VK->Prop}{f:PV->Option PV}(j:zk X (unaryOp d) r)(i:P1 X.K r f)(l:DE X E a m):DE X E (.UnaryOp d a pos) (d1 f m):=λF S q p H Q g h=>b7 (RU j bI) (Qv i l g h)
end
def pW(X:Cx)(d:List az):TA:=λb H Q=>Bx (∀a c s,Inv X c b H s->au (ax X.prog X.w) X.A (spliced (c_ a (aN d X.env))) (AP X c b Q) X.xe s)
def DA(X:Cx)(E:XK)(h:List az)(d:ak->R (List PV)):Prop :=
 ∀F S c a H Q,aZ X.K F S c a H->Ok X.K E a F S H (d c) (λb _ i _ g=>∀f,Reps X.K g i b f->Q f g)->pW X h a H Q
section
variable{X:Cx}{E:XK}{a b c e:az}{es:List az}{B db D d:ak->R PV}{j:ak->R (List PV)}{pos:Pos}
theorem gX{es:List az}:PA X es (pW X es):=λpos f s _ _ _ I h=>h.run pos f s I
theorem qe{t:TA}(h:PA X es t){f:St}{H:Hp}{Q:List V->Hp->Prop}(q:t f H Q):pW X es f H Q:=⟨λpos g s I=>h pos g s f H Q I q⟩
def aC:ak->R (List PV):=λε=>.ok [] ε
def ap(d:ak->R PV)(j:ak->R (List PV)):ak->R (List PV):=λε=>(d ε).bind λx ε1=>(j ε1).bind λxs f=>.ok (x::xs) f
theorem aF:DA X E [] aC:=λF S i g H Q f h=>qe j6 (h F S H f (bD.refl ..) _ rfl)
theorem OE(u:DE X E e d)(t:DA X E es j)(s:aN (e::es) X.env=(aj,aL e X.env)::aN es X.env:=by rfl):DA X E (e::es) (ap d j):=λF S m g H Q p h=>by refine qe (iQ bI gX s) (u F S m g H _ p ((Ok.bind h).imp λx f K C I i L y v o=>?_));refine t K C f g I _ i ((Ok.bind y).imp λxs l J A G q z w n r=>?_);exact w J A G q (bD.refl ..) _ ⟨v,n,rfl,o.grow z i.fit,r⟩
theorem aZ.more{K:ay}{F N:ag->Prop}{S:Nat->ag->Prop}{n:ak}{m:St}{H:Hp}(r:aZ K F S n m H)(p:∀b,N b->¬U S b/\∃o,H b=aa o):aZ K (λb=>F b\/N b) S n m H:=by
 have mono:∀x v,a_ K H F x v->a_ K H (λb=>F b\/N b) x v:=a_.mono (λ_ h=>.inl h) (λ_ _ _ q=>q) (λ_ _ q _=>q);have f:∀x v,Reps K H F x v->Reps K H (λb=>F b\/N b) x v:=Reps.mono (λ_ h=>.inl h) (λ_ _ _ q=>q) (λ_ _ q _=>q);refine⟨r.len,λb h=>h.elim (r.ex b) λz=>(p b z).2,λi pv e=>?_,λi s e=>?_,λi b h=>?_,r.dist⟩
 .obtain⟨v,l,g⟩:=r.val i pv e;exact⟨v,l,mono _ _ g⟩
 .obtain⟨v,l,g⟩:=r.own i s e;exact⟨v,l,g.mono mono f λ_ _ _ z=>z⟩
 .obtain⟨l,g,t⟩:=r.foot i b h;exact⟨l,λz=>z.elim g λw=>(p b w).1 ⟨i,h⟩,t⟩
def oV:PO->Option PV
 |.lst xs=>aa (.lst xs)
 |_=>ae
def dF(d:ak->R PO):ak->R PV:=λε=>(d ε).bind λf ε1=>aE (oV f) ε1
theorem DN.de{d:ak->R PO}(h:DN X E e d):DE X E e (dF d):=λF S ε r H Q v q=>by
 unfold dF at q;refine h F S ε r H Q v ?_;cases i:d ε with
 |no=>rw[i]at q;exact q.elim
 |er c t=>rw[i]at q;exact q
 |ok A s=>
  rw[i]at q;intro N l m x g a p G n;cases A with
  |dK f=>exact q.elim
  |lls O=>exact q.elim
  |ins C fs=>exact q.elim
  |dT f=>exact q.elim
  |dN f=>exact q.elim
  |inl C fs y xs=>exact q.elim
  |lst xs=>
   have L:∀b,p b->¬U l b/\∃o,m b=aa o:=λb z=>let ⟨_,_,x3,o,x4,_⟩:=n b z;⟨x3,o,x4⟩
   obtain⟨⟨u,J,I⟩,K⟩:=G;have M:bD (U S) (U l) F (λb=>N b\/p b) H m:=⟨λb z=>.inl (g.fro b z),g.keep,g.there,λb z=>z.elim (g.fnew b) λw=>.inr (.inl (n b w).1),g.onew⟩
   exact q _ l m (x.more L) M _ ⟨a,u,rfl,.inl J,.inr ((K a).mpr rfl),Reps.mono (λ_ z=>.inl z) (λ_ _ _ z=>z) (λ_ _ z _=>z) _ _ I⟩
def bQ(xs:List PV):Option PV:=if xs.length<=1000 then aa (.tup xs)else ae
def fj(xs:List PV):Option PO:=if xs.length<=1000 then aa (.lst xs)else ae
def dL{g:Type}(f:List PV->Option g)(j:ak->R (List PV)):ak->R g:=λε=>(j ε).bind λxs ε1=>aE (f xs) ε1
def PL(K:ay)(r:List V->Hp->VK->Prop)(f:List PV->Option PV):Prop:=∀(F:ag->Prop) (H:Hp) (xs:List PV) (h:List V) (Q:VK) (pv:PV),Reps K H F xs h->f xs=aa pv->(∀w i g,Al F i H g->a_ K g i pv w->Q w g)->r h H Q
def kN(K:ay)(r:List V->Hp->VK->Prop)(f:List PV->Option PO):Prop:=∀(F:ag->Prop) (H:Hp) (xs:List PV) (i:List V) (Q:VK) (l:PO),(∀a,F a->∃o,H a=aa o)->Reps K H F xs i->f xs=aa l ->
 (∀a h g m,Al F h H g->fU K g h l a m->(∀b,m b->H b=ae/\¬h b/\∃o,g b=aa o/\eK o)->Q (.ref a) g)->r i H Q
theorem BJ{r:List V->Hp->VK->Prop}{f:List PV->Option PV}(y:PL X.K r f)(z:DA X E es j){F:ag->Prop}{S:Nat->ag->Prop}{m:ak}{g:St}{H:Hp}{Q:VK}(t:aZ X.K F S m g H)(h:Ok X.K E g F S H (dL f j m) (λpv _ p _ l=>∀v,a_ X.K l p pv v->Q v l)):pW X es g H λxs o=>r xs o Q:=by
 refine z F S m g H _ t ((Ok.bind h).imp λxs q C A o u G i s x=>?_);cases e:f xs with
 |none=>rw[e]at i;exact i.elim
 |some pv=>rw[e]at i;exact y C o xs s Q pv x e λw p l al n=>i p A l (u.al al) al.grow w n
theorem oX{O i F l:ag->Prop}{H f:Hp}(g:bD O i F l H f){b:ag}(h:f b=ae):H b=ae:=by
 cases q:H b with
 |none=>rfl
 |some o=>obtain⟨o',e⟩:=g.there b o q;rw[h]at e;cases e
theorem u0{r:List V->Hp->VK->Prop}{f:List PV->Option PO}(M:kN X.K r f)(N:DA X E es j){F:ag->Prop}{S:Nat->ag->Prop}{q:ak}{l:St}{H:Hp}{Q:VK}(J:aZ X.K F S q l H)(h:Ok X.K E l F S H (dL f j q) (λt _ p W g=>∀a n,fU X.K g p t a n->(∀b,n b->H b=ae/\¬p b/\¬U W b/\∃o,g b=aa o/\eK o)->Q (.ref a) g)):pW X es l H λxs u=>r xs u Q:=by
 refine N F S q l H _ J ((Ok.bind h).imp λxs y Y T u s O m I L=>?_);cases e:f xs with
 |none=>rw[e]at m;exact m.elim
 |some t=>
  rw[e]at m;refine M Y u xs I Q t s.ex L e λa p g n al K P=>m p T g (s.al al) al.grow a n K λb z=>?_;obtain⟨v,G,o,C,A⟩:=P b z;refine⟨oX O v,G,λ⟨i,w⟩=>?_,o,C,A⟩;obtain⟨_,_,Z,x,_⟩:=s.foot i b w;rw[v]at x;cases x
theorem A6{n:Nat}(h:n<=1000):n<=bd:=lK (Ra h)
theorem NK{K:ay}:PL K (λxs H Q=>xs.length<=bd/\∀p,H p=ae->Q (.ref p) (upd H p (.tup xs))) bQ:=λF H xs h Q pv f e q=>by
 unfold bQ at e;split at e
 .cases e;refine⟨by rw[f.len];exact A6 (by assumption),λp g=>q _ F _ (Al.new0 g) ⟨p,h,rfl,upd_same,(Al.new0 g).reps f⟩⟩
 .cases e
theorem sE{K:ay}{F:ag->Prop}{H:Hp}{l:ag}{xs:List PV}{f:List V}(h:H l=ae)(g:Reps K H F xs f):fU K (upd H l (.lst f)) F (.lst xs) l (λb=>b=l):=⟨⟨f,upd_same,(Al.new0 h).reps g⟩,λb=>rh⟩
theorem sL{F:ag->Prop}{H:Hp}{l:ag}{o:HO}(g:H l=ae)(i:∀a,F a->∃o,H a=aa o)(h:eK o):∀b,b=l->H b=ae/\¬F b/\∃f,(upd H l o) b=aa f/\eK f:=λb z=>by
 subst z;exact⟨g,(λw=>by obtain⟨o,q⟩:=i b w;rw[g]at q;cases q),o,upd_same,h⟩
theorem Sz{K:ay}:kN K (λxs H Q=>xs.length<=bd/\∀p,H p=ae->Q (.ref p) (upd H p (.lst xs))) fj:=λF H xs i Q l h g e q=>by
 unfold fj at e;split at e
 .cases e;exact⟨by rw[g.len];exact A6 (by assumption),λp f=>q p F _ _ (Al.new0 f) (sE f g) (sL f h trivial)⟩
 .cases e
theorem cS{x1}(h:DA X E es j):DE X E (.Tuple es x1 pos) (dL bQ j):=λF S i g H Q f q=>b7 (Mc gX) (BJ NK h f q)
theorem uG(h:DA X E es j):DN X E (.List es pos) (dL fj j):=λF S i g H Q f q=>b7 (S7 gX) (u0 Sz h f q)
theorem lB(h:DA X E es j):DE X E (.List es pos) (dF (dL fj j)):=(uG h).de
variable{x:Str}{p:Pos}{m T:String}{r:List V->Hp->VK->Prop}{f:List PV->Option PV}{A:List PV->Option PO}
theorem cV(u:eC X (.builtin m) r)(l:PL X.K r f)(o:X.mg x=ae)(i:eM x=aa (.builtin m))(v:DA X E (e::es) j)(s:Gl X x:=by rfl)(n:x≠"__name__":=by decide)(h:(x==("__debug__":Str))=aj:=by decide)(t:aN (e::es) X.env=(aj,aL e X.env)::aN es X.env:=by rfl) (w:(c_ pos (aN es X.env)).any (·.1)=aj:=by rfl):DE X E (.Call (.Name x p) (e::es) [] pos) (dL f j):=λF S z y H Q g q=>b7 (pe u s o i gX n h t w) (BJ l v g q)
theorem sj(u:eC X (.builtin m) r)(l:kN X.K r A)(o:X.mg x=ae)(i:eM x=aa (.builtin m))(v:DA X E (e::es) j)(s:Gl X x:=by rfl)(n:x≠"__name__":=by decide)(h:(x==("__debug__":Str))=aj:=by decide)(t:aN (e::es) X.env=(aj,aL e X.env)::aN es X.env:=by rfl) (w:(c_ pos (aN es X.env)).any (·.1)=aj:=by rfl):DN X E (.Call (.Name x p) (e::es) [] pos) (dL A j):=λF S z y H Q g q=>b7 (pe u s o i gX n h t w) (u0 l v g q)
theorem zi(u:eC X (.type T) r)(l:PL X.K r f)(o:X.mg x=ae)(i:eM x=aa (.type T))(v:DA X E (e::es) j)(s:Gl X x:=by rfl)(n:x≠"__name__":=by decide)(h:(x==("__debug__":Str))=aj:=by decide)(t:aN (e::es) X.env=(aj,aL e X.env)::aN es X.env:=by rfl) (w:(c_ pos (aN es X.env)).any (·.1)=aj:=by rfl):DE X E (.Call (.Name x p) (e::es) [] pos) (dL f j):=λF S z y H Q g q=>b7 (yK u s o i gX n h t w) (BJ l v g q)
theorem Ba(u:eC X (.type T) r)(l:kN X.K r A)(o:X.mg x=ae)(i:eM x=aa (.type T))(v:DA X E (e::es) j)(s:Gl X x:=by rfl)(n:x≠"__name__":=by decide)(h:(x==("__debug__":Str))=aj:=by decide)(t:aN (e::es) X.env=(aj,aL e X.env)::aN es X.env:=by rfl) (w:(c_ pos (aN es X.env)).any (·.1)=aj:=by rfl):DN X E (.Call (.Name x p) (e::es) [] pos) (dL A j):=λF S z y H Q g q=>b7 (yK u s o i gX n h t w) (u0 l v g q)
theorem gM{r:R2}{f:PV->PV->Option PV}(l:mY X r)(n:P2 X.K r f)(q:DE X E a B)(o:DE X E b db)(i:GZ b:=by exact λ_ _=>rfl):DE X E (.Subscript a b pos) (d2 f B db):=λF S t s H Q g h=>b7 (N6 l bI bI i) (yZ n q o g h)
def BG(X:Cx)(e:Option az):TO:=λg H Q=>Bx (∀h s,Inv X h g H s->au (ax X.prog X.w) X.A (evalPart e X.env) (λu l=>∃o i,Inv X h g i l/\n9 u o/\Q o i) X.xe s)
theorem Ei{o:Option az}:L2.PO X o (BG X o):=λg s _ _ _ I h=>h.run g s I
theorem Ik{o:Option az}{t:TO}(h:L2.PO X o t){g:St}{H:Hp}{Q:Option Int->Hp->Prop}(q:t g H Q):BG X o g H Q:=⟨λi s I=>h i s g H Q I q⟩
def DO(X:Cx)(E:XK)(e:Option az)(d:ak->R (Option Int)):Prop:=∀F S h g H Q,aZ X.K F S h g H->Ok X.K E g F S H (d h) (λo _ _ _ i=>Q o i)->BG X e g H Q
def b9:ak->R (Option Int):=λε=>.ok ae ε
def nL:PV->Option Int
 |.int i=>aa i
 |_=>ae
def bT(d:ak->R PV):ak->R (Option Int):=λε=>(d ε).bind λx ε1=>aE ((nL x).map aa) ε1
theorem iP:DO X E ae b9:=λF S l i H Q g h=>Ik NX (h F S H g (bD.refl ..))
theorem gL(u:DE X E e d):DO X E (aa e) (bT d):=λF S o l H Q s h=>by
 refine Ik (PR bI) (u F S o l H _ s ((Ok.bind h).imp λx n z w y t C g v q=>?_));cases x <;> first|exact(show False from g).elim|skip
 rename_i i;exact⟨i,q,g z w y t (bD.refl ..)⟩
def bV{i:Type}(f:PV->Option Int->Option Int->Option i)(d:ak->R PV)(o n:ak->R (Option Int)):ak->R i:=λε=>(d ε).bind λx ε1=>(o ε1).bind λl h=>(n h).bind λu g=>aE (f x l u) g
def GK(K:ay)(r:V->Option Int->Option Int->Hp->VK->Prop)(f:PV->Option Int->Option Int->Option PV):Prop:=∀(F:ag->Prop) (H:Hp) (x:PV) (h i:Option Int) (v:V) (Q:VK) (pv:PV),a_ K H F x v->f x h i=aa pv->(∀w l g,Al F l H g->a_ K g l pv w->Q w g)->r v h i H Q
theorem iu{r:V->Option Int->Option Int->Hp->VK->Prop}{f:PV->Option Int->Option Int->Option PV}{z C:Option az}{I G:ak->R (Option Int)}{O:Pos}(W:nu X r)(Y:GK X.K r f)(he:DE X E e d)(Z:DO X E z I)(P:DO X E C G):DE X E (.Subscript e (.Slice z C ae O) pos) (bV f d I G):=λF S K i H Q M h=>by
 refine b7 (OP W bI Ei Ei) (he F S K i H _ M ((Ok.bind h).imp λx o F1 S1 H1 y g1 h1 v L=>?_));refine Z F1 S1 o i H1 _ y ((Ok.bind h1).imp λl n F2 S2 H2 t g2 h2=>?_);refine P F2 S2 n i H2 _ t ((Ok.bind h2).imp λu J F3 S3 H3 N g3 g=>?_);cases s:f x l u with
 |none=>rw[s]at g;exact g.elim
 |some pv=>rw[s]at g;exact Y F3 H3 x l u v Q pv ((L.grow g2 y.fit).grow g3 t.fit) s λw F' H' al q=>g F' S3 H' (N.al al) al.grow w q
end
inductive aK where
 |next|ret (s:Slot)|brk|cont
def nG(K:ay)(H:Hp)(F:ag->Prop)(s:Slot)(v:V)(c:ag->Prop):Prop:=match s with
 |.val pv=>a_ K H F pv v/\∀b,¬c b
 |.own d=>∃a,v=.ref a/\fU K H F d a c
 |.none=>False
def jz(b:List Nat)(c a:St):Prop:=∀i∈b,a[i]?=c[i]?
theorem jz.refl(a:List Nat)(b:St):jz a b b:=λ_ _=>rfl
theorem jz.trans{c:List Nat}{g f d:St}(a:jz c g f)(b:jz c f d):jz c g d:=λi h=>(b i h).trans (a i h)
theorem jz.set{a:List Nat}{b:St}{i:Nat}{x:Option V}(h:i∉a):jz a b (b.set i x):=λj c=>by rw[fe (by rintro rfl;exact h c)]
def y6(f:ag->Prop)(c:Nat->ag->Prop)(d:Hp)(a:ag->Prop):Prop:=∀b,a b->¬f b/\¬U c b/\∃o,d b=aa o/\eK o
def iw(K:ay)(E:XK)(i:List Nat)(j:St)(F:ag->Prop)(S:Nat->ag->Prop)(H:Hp)(r:R aK)(D:lu):Prop:=match r with
 |.ok .next f=>∀g h a d,aZ K g h f a d->bD (U S) (U h) F g H d->jz i j a->D.nx a d
 |.ok .brk f=>∀g h a d,aZ K g h f a d->bD (U S) (U h) F g H d->jz i j a->D.bk a d
 |.ok .cont f=>∀g h a d,aZ K g h f a d->bD (U S) (U h) F g H d->jz i j a->D.ct a d
 |.ok (.ret s) f=>∀v g h a d l,aZ K g h f a d->bD (U S) (λb=>U h b\/l b) F g H d->jz i j a->nG K d g s v l->y6 g h d l->D.rt v d
 |.er c f=>∀x g h a d,aZ K g h f a d->bD (U S) (U h) F g H d->jz i j a->E c x d
 |.no=>False
def DS(X:Cx)(E:XK)(b:List Nat)(f:ba)(d:ak->R aK):Prop:=∀F S c a H D,aZ X.K F S c a H->iw X.K E b a F S H (d c) D->wpS X f D a H
def gy(X:Cx)(E:XK)(b:List Nat)(f:List ba)(d:ak->R aK):Prop:=∀F S c a H D,aZ X.K F S c a H->iw X.K E b a F S H (d c) D->qr X f D a H
section
variable{K:ay}{E:XK}{b:List Nat}{d i:St}{F m:ag->Prop}{S j:Nat->ag->Prop}{H l:Hp}{D:lu}
theorem iw.from{r:R aK}(h:iw K E b d F S H r D)(g:bD (U S) (U j) F m H l)(p:jz b d i):iw K E b i m j l r D:=by
 cases r with
 |no=>exact h
 |er c w=>exact λx u q a t n g' o=>h x u q a t n (g.trans g') (p.trans o)
 |ok f w=>
  cases f with
  |next=>exact λu q a t n g' o=>h u q a t n (g.trans g') (p.trans o)
  |brk=>exact λu q a t n g' o=>h u q a t n (g.trans g') (p.trans o)
  |cont=>exact λu q a t n g' o=>h u q a t n (g.trans g') (p.trans o)
  |ret s=>exact λv u q a t y n g' o=>h v u q a t y n (g.trans g') (p.trans o)
theorem iw.bindE{o:Type}{r:R o}{k:o->ak->R aK}(h:iw K E b d F S H (r.bind k) D):Ok K E d F S H r (λa f m j l=>iw K E b d m j l (k a f) D):=by
 cases r with
 |no=>exact h
 |er c g=>exact λx t q s p n=>h x t q d s p n (jz.refl _ _)
 |ok a g=>exact λt q s p n=>h.from n (jz.refl _ _)
end
section
variable{X:Cx}{E:XK}{pin:List Nat}{l:ba}{rest:List ba}{d d1 d2:ak->R aK}{e:az}{de:ak->R PV}{pos:Pos}
def dD:ak->R aK:=λa=>.ok .next a
theorem gQ:gy X E pin [] dD:=λF S c a H D b h=>B1 LW (h F S a H b (bD.refl ..) (jz.refl _ _))
def aR(d1 d2:ak->R aK):ak->R aK:=λa=>match d1 a with
 |.ok .next ε1=>d2 ε1
 |r=>r
theorem bq(t:DS X E pin l d1)(q:gy X E pin rest d2):gy X E pin (l::rest) (aR d1 d2):=λF S i m H D n h=>by
 refine B1 (KG FD sX) (t F S i m H {D with nx:=qr X rest D} n ?_);unfold aR at h;split at h
 .rename_i g v;rw[v];exact λy w b x o u p=>q y w g b x D o (h.from u p)
 .rename_i r j;generalize d1 i=r1 at h j;cases r1 with
  |no=>exact h
  |er c a=>exact h
  |ok f a=>
   cases f with
   |next=>exact absurd rfl (j a)
   |brk=>exact h
   |cont=>exact h
   |ret s=>exact h
theorem bp(f:DS X E pin l d1):gy X E pin [l] d1:=λF S b a H D c h=>B1 (LQ FD) (f F S b a H D c h)
def vJ(f:aK):ak->R aK:=λa=>.ok f a
def Cf(d:ak->R PV):ak->R aK:=λb=>(d b).bind λ_ a=>.ok .next a
def bY(d:ak->R PV):ak->R aK:=λa=>(d a).bind λx ε1=>.ok (.ret (.val x)) ε1
theorem bD.cup{O c F i:ag->Prop}{H f:Hp}(g:bD O c F i H f):bD O (λb=>c b\/False) F i H f:=⟨g.fro,g.keep,g.there,g.fnew,λa h=>h.elim (g.onew a) iE⟩
theorem dv(j:DE X E e de):DS X E pin (.Return (aa e) pos) (bY de):=λF S c a H D g h=>jh (AD bI) (j F S c a H _ g (h.bindE.imp λx b p n o i q m v f=>m v p n a o (λ_=>False) i (bD.refl ..).cup (jz.refl _ _) ⟨f,λ_ z=>z⟩ λ_ z=>z.elim))
theorem S8:DS X E pin (.Return ae pos) (vJ (.ret (.val .non))):=λF S c a H D b h=>jh TQ (h _ F S a H (λ_=>False) b (bD.refl ..).cup (jz.refl _ _) ⟨rfl,λ_ z=>z⟩ λ_ z=>z.elim)
def kW(i:Nat):ak->R aK:=λa=>match a[i]? with
 |some (.own b)=>.ok (.ret (.own b)) (a.set i .none)
 |_=>.no
theorem aZ.drop{K:ay}{F:ag->Prop}{S:Nat->ag->Prop}{c:ak}{o:St}{H:Hp}(r:aZ K F S c o H)(i:Nat):aZ K F (λj b=>S j b/\j≠i) (c.set i .none) o H:=by
 have no:∀{j s},(c.set i .none)[j]?=aa s->s≠.none->j≠i/\c[j]?=aa s:=λ{j s} e t=>by
  by_cases f:i=j
  .subst f;by_cases u:i<c.length
   .rw[gF u]at e;exact absurd (dZ e).symm t
   .rw[t8 (by rw[g_];lia)]at e;cases e
  .rw[fe f]at e;exact⟨ef f,e⟩
 refine⟨by rw[g_];exact r.len,r.ex,λj pv e=>r.val j pv (no e (by intro z;cases z)).2,λj g e=>?_,λj b h=>?_,λj k b n m=>r.dist j k b n.1 m.1⟩
 .obtain⟨f,e⟩:=no e (by intro z;cases z);obtain⟨a,n,m⟩:=r.own j g e;have v:(λb=>S j b/\j≠i)=S j:=by funext b;simp[f]
  exact⟨a,n,by rw[v];exact m⟩
 .obtain⟨⟨g,q⟩,p⟩:=r.foot j b h.1;exact⟨⟨g,by rw[fe (ef h.2)];exact q⟩,p⟩
theorem yu(i:Nat){x:Str}{p:Pos}(s:X.N[i]?=aa x:=by rfl)(n:eD X.env.scope x:=by first|exact Or.inl rfl|exact Or.inr (Or.inl rfl)|exact Or.inr (Or.inr rfl))(r:(x==("__debug__":Str))=aj:=by decide)(u:(x==("__classdict__":Str))=aj:=by decide):DS X E pin (.Return (aa (.Name x p)) pos) (kW i):=λF S v f H D c h=>by
 unfold kW at h;split at h
 .rename_i g e;obtain⟨a,t,m⟩:=c.own i g e;refine jh (AD (fE s n r u)) ⟨_,t,h _ F (λj b=>S j b/\j≠i) f H (S i) (c.drop i) ⟨λ_ z=>z,λ_ _ z _=>z,λ_ o z=>⟨o,z⟩,λ_ z=>.inl z,λb z=>?_⟩ (jz.refl _ _) ⟨a,rfl,m⟩ λb z=>?_⟩
  .rcases z with⟨j,z,_⟩|z
   .exact .inl ⟨j,z⟩
   .exact .inl ⟨i,z⟩
  .exact⟨(c.foot i b z).2.1,λ⟨j,w,q⟩=>q (c.dist j i b w z),(c.foot i b z).2.2⟩
 .exact h.elim
theorem aZ.set{K:ay}{F:ag->Prop}{S:Nat->ag->Prop}{f:ak}{m:St}{H:Hp}{i:Nat}{pv:PV}{v:V}(r:aZ K F S f m H)(h:a_ K H F pv v):aZ K F (λj b=>S j b/\j≠i) (f.set i (.val pv)) (m.set i (aa v)) H:=by
 have s:=r.drop i;have len:(f.set i (.val pv)).length=(m.set i (aa v)).length:=by rw[g_,g_];exact r.len
 refine⟨len,r.ex,λj p e=>?_,λj n e=>?_,λj b h=>?_,s.dist⟩
 .by_cases c:i=j
  .subst c;have g:i<f.length:=by have:=(d7.mp e).1;rw[g_]at this;exact this
   rw[gF g]at e;cases e;exact⟨v,gF (by rw[<-r.len];exact g),h⟩
  .rw[fe c]at e;obtain⟨w,q,o⟩:=r.val j p e;exact⟨w,by rw[fe c];exact q,o⟩
 .have c:i≠j:=by
   rintro rfl;have g:i<f.length:=by have:=(d7.mp e).1;rw[g_]at this;exact this
   rw[gF g]at e;cases e
  rw[fe c]at e;obtain⟨a,q,o⟩:=r.own j n e;have x:(λb=>S j b/\j≠i)=S j:=by funext b;simp[ef c]
  exact⟨a,by rw[fe c];exact q,by rw[x];exact o⟩
 .obtain⟨⟨n,t⟩,u⟩:=s.foot j b h;refine⟨⟨n,?_⟩,u⟩;rw[fe (ef h.2)]at t ⊢;exact t
theorem bD.less{S:Nat->ag->Prop}{F:ag->Prop}{H:Hp}(i:Nat):bD (U S) (U λj b=>S j b/\j≠i) F F H H:=⟨λ_ z=>z,λ_ _ z _=>z,λ_ o z=>⟨o,z⟩,λ_ z=>.inl z,λb ⟨j,z⟩=>.inl ⟨j,z.1⟩⟩
theorem aZ.setOwn{K:ay}{F:ag->Prop}{S:Nat->ag->Prop}{q:ak}{v:St}{H:Hp}{i:Nat}{s:PO}{a:ag}{n:ag->Prop}(r:aZ K F S q v H)(o:i<q.length)(h:fU K H F s a n)(t:y6 F S H n):aZ K F (λj b=>(S j b/\j≠i)\/(j=i/\n b)) (q.set i (.own s)) (v.set i (aa (.ref a))) H:=by
 have A:=r.drop i;refine⟨by rw[g_,g_];exact r.len,r.ex,λj p e=>?_,λj g e=>?_,λj b h=>?_,λj k b f c=>?_⟩
 .have m:i≠j:=by rintro rfl;rw[gF o]at e;cases e
  rw[fe m]at e;obtain⟨w,f,c⟩:=r.val j p e;exact⟨w,by rw[fe m];exact f,c⟩
 .by_cases m:i=j
  .subst m;rw[gF o]at e;cases e;have u:(λb=>(S i b/\i≠i)\/(i=i/\n b))=n:=by funext b;simp
   exact⟨a,gF (by rw[<-r.len];exact o),by rw[u];exact h⟩
  .rw[fe m]at e;obtain⟨C,f,c⟩:=r.own j g e;have u:(λb=>(S j b/\j≠i)\/(j=i/\n b))=S j:=by funext b;simp[ef m]
   exact⟨C,by rw[fe m];exact f,by rw[u];exact c⟩
 .rcases h with h|⟨rfl,h⟩
  .obtain⟨⟨g,x⟩,B⟩:=A.foot j b h;refine⟨⟨g,?_⟩,B⟩;rw[fe (ef h.2)]at x ⊢;exact x
  .obtain⟨z,D,y⟩:=t b h;exact⟨⟨s,gF o⟩,z,y⟩
 .rcases f with f|⟨rfl,f⟩ <;> rcases c with c|⟨rfl,c⟩
  .exact r.dist j k b f.1 c.1
  .exact absurd ⟨j,f.1⟩ (t b c).2.1
  .exact absurd ⟨k,c.1⟩ (t b f).2.1
  .rfl
def cp(i:Nat)(d:ak->R PV):ak->R aK:=λa=>(d a).bind λx ε1=>.ok .next (ε1.set i (.val x))
theorem fQ(i:Nat){x:Str}{p:Pos}(t:X.N.Nodup)(s:DE X E e de)(o:i∉pin:=by decide)(q:X.N[i]?=aa x:=by rfl)(m:Loc X.env.scope x:=by first|exact Or.inl rfl|exact Or.inr rfl)(n:kD e (aa (.Name x p)) pos.line X.env=pure aj:=by rfl)(r:X.fn x=ah\/X.env.scope.names.lookup x=aa .local:=by first|exact .inl rfl|exact .inr rfl):DS X E pin (.Assign [.Name x p] e pos) (cp i de):=λF S c a H D g h=>jh (Ib t q m bI n r) (s F S c a H _ g (h.bindE.imp λx b y A w j z u v f=>u y _ _ w (j.set f) (bD.less i) (jz.set o)))
def eY(i:Nat)(d:ak->R PO):ak->R aK:=λa=>(d a).bind λx ε1=>if i<ε1.length then .ok .next (ε1.set i (.own x))else .no
theorem mw(i:Nat){x:Str}{p:Pos}{dn:ak->R PO}(J:X.N.Nodup)(I:DN X E e dn)(B:i∉pin:=by decide)(C:X.N[i]?=aa x:=by rfl)(y:Loc X.env.scope x:=by first|exact Or.inl rfl|exact Or.inr rfl)(A:kD e (aa (.Name x p)) pos.line X.env=pure aj:=by rfl)(G:X.fn x=ah\/X.env.scope.names.lookup x=aa .local:=by first|exact .inl rfl|exact .inr rfl):DS X E pin (.Assign [.Name x p] e pos) (eY i dn):=λF S q o H D t h=>by
 refine jh (Ib J C y bI A G) (I F S q o H _ t ?_);unfold eY at h;cases n:dn q with
 |no=>rw[n]at h;exact h.elim
 |er c s=>rw[n]at h;exact λx P L N v K=>h x P L o N v K (jz.refl _ _)
 |ok Q g=>
  rw[n]at h;simp only[R.bind_ok]at h;intro O W M u f a T w r;by_cases m:i<g.length
  .rw[if_pos m]at h;refine h O _ _ M (u.setOwn m w λb z=>(r b z).2) ⟨f.fro,f.keep,f.there,f.fnew,λb ⟨j,z⟩=>?_⟩ (jz.set B);rcases z with z|⟨_,z⟩
   .exact f.onew b ⟨j,z.1⟩
   .exact .inr (r b z).1
  .rw[if_neg m]at h;exact h.elim
theorem gW{c:az}{a b:List ba}{t:ak->R Bool}(r:DT X E c t)(u:gy X E pin a d1)(s:gy X E pin b d2):DS X E pin (.If c a b pos) (cE t d1 d2):=λF S p g H D q h=>by
 refine jh (Th qx sX sX) (r F S p g H _ q (h.bindE.imp λk f o m n i v j=>?_));cases k with
 |true=>exact qB (u o m f g n D i j)
 |false=>exact qc (s o m f g n D i j)
def A8:ak->R aK:=λ_=>.no
theorem Ia{a:List ba}:gy X E pin a A8:=λ_ _ _ _ _ _ _ h=>h.elim
def dQ(r:R aK):R aK:=match r with
 |.er _ _=>.no
 |r=>r
theorem me(h:DS X.nox E0 pin l d):DS X E pin l (λa=>dQ (d a)):=λF S a b H D i q=>Bx.mk λm s I=>by
 have q:iw X.K E pin b F S H (dQ (d a)) D:=q;have j:iw X.K E0 pin b F S H (d a) D:=by
  cases e:d a with
  |no=>rw[e]at q;exact q
  |er c g=>rw[e]at q;exact q.elim
  |ok f g=>rw[e]at q;cases f <;> exact q
 exact eG ((h F S a b H D i j).run m s (I.wish _)) (λ_ _ z=>z.unwish) λ_ _ z=>z.elim
def tz(X:Cx)(f a:az):TI:=λb H h=>Bx (∀c s,Inv X c b H s->au (ax X.prog X.w) X.A (aL a X.env) (λv g=>au (ax X.prog X.w) X.A (mD v) (ux X c b f h) X.xe g) X.xe s)
theorem Cy{b a:az}:PI X b a (tz X b a):=λc s _ _ _ I h=>h.run c s I
theorem FE{f a:az}{t:TI}(h:PI X f a t){b:St}{H:Hp}{c:It->Hp->Prop}(q:t b H c):tz X f a b H c:=⟨λg s I=>h g s b H c I q⟩
def DI(X:Cx)(E:XK)(p a:az)(d:ak->R (List PV)):Prop:=∀F S ε c H m,aZ X.K F S ε c H ->
 Ok X.K E c F S H (d ε) (λg _ o q i=>∀J f n,Reps X.K i o g f->f.length<=bd->Walk J f n->(∀h j b,bD (U q) (U h) o j i b->n b)->m J i)->tz X p a c H m
def iB(i:Nat)(c:ak->R aK):List PV->ak->R aK
 |[],b=>.ok .next b
 |x::xs,b=>match c (b.set i (.val x))with
  |.ok .next a=>iB i c xs a
  |.ok .cont a=>iB i c xs a
  |.ok .brk a=>.ok .next a
  |r=>r
def et(i:Nat)(a:ak->R (List PV))(db:ak->R aK):ak->R aK:=λε=>(a ε).bind λxs ε1=>iB i db xs ε1
theorem nt(i:Nat){x:Str}{p:Pos}{o:az}{r:List ba}{Z:ak->R (List PV)}{B:ak->R aK}(N:CH (ax X.prog X.w) X.A X.env X.xe)(hc:X.calm=ah)(hN:X.N.Nodup)(hi:DI X E (.Name x p) o Z)(hb:gy X E pin r B)(hp:i∉pin:=by decide) (z:X.N[i]?=aa x:=by rfl) (O:Loc X.env.scope x:=by first|exact Or.inl rfl|exact Or.inr rfl) (hs:∀x,n6 o X.env x=pure x:=by intro _;rfl)(hf:X.fn x=ah\/X.env.scope.names.lookup x=aa .local:=by first|exact .inl rfl|exact .inr rfl):DS X E pin (.For (.Name x p) o r [] pos) (et i Z B):=λF S ε σ H D rl h=>by
 refine jh (OU N hc Cy (IK hN z O hf) sX hs) (hi F S ε σ H _ rl (h.bindE.imp λxs G F1 S1 H1 Y g1 h1 J vs RR W hz hw keep=>?_));refine Q4 hw (λk a n=>∃t u m,aZ X.K t u m a n/\bD (U S1) (U u) F1 t H1 n/\iw X.K E pin a t u n (iB i B (xs.drop k) m) D) ⟨F1,S1,G,Y,bD.refl ..,h1⟩ (λk a n _ ⟨t,u,m,_,g,_⟩=>keep u t n g) ?_ ?_
 .rintro k v a n hv ⟨t,u,m,L,A,q⟩;obtain⟨x,z,rx⟩:=W.back hv;have hk:k<xs.length:=(d7.mp z).1;have ed:xs.drop k=x::xs.drop (k+1):=by rw[zL hk];congr 1;exact(d7.mp z).2
  rw[ed]at q;have I:=rx.grow A Y.fit;have r2:=L.set (i:=i) I;have P:bD (U u) (U λj b=>u j b/\j≠i) t t n n:=bD.less i;show qr X r _ (a.set i (aa v)) n;refine hb t _ _ _ n _ r2 ?_;unfold iB at q;have q:=q.from P (jz.set (x:=aa v) hp);cases e:B (m.set i (.val x))with
  |no=>rw[e]at q;exact q
  |er c w=>rw[e]at q;exact q
  |ok f w=>
   rw[e]at q;cases f with
   |next=>exact λT Q C H3 K y M=>⟨T,Q,w,K,(A.trans P).trans y,q.from y M⟩
   |cont=>exact λT Q C H3 K y M=>⟨T,Q,w,K,(A.trans P).trans y,q.from y M⟩
   |brk=>exact q
   |ret s=>exact q
 .rintro a n ⟨t,u,m,L,A,q⟩;have O:vs.length=xs.length:=W.len;rw[O,List.drop_length]at q;exact q t u a n L (bD.refl ..) (jz.refl _ _)
def gm(t:ak->R Bool)(b:ak->R aK):Nat->ak->R aK
 |0,_=>.no
 |n+1,ε=>(t ε).bind λk ε1=>match k with
  |false=>.ok .next ε1
  |true=>match b ε1 with
   |.ok .next a=>gm t b n a
   |.ok .cont a=>gm t b n a
   |.ok .brk a=>.ok .next a
   |r=>r
theorem Gv{c:az}{n:List ba}{t:ak->R Bool}{j:ak->R aK}(P:ak->Nat)(G:CH (ax X.prog X.w) X.A X.env X.xe)(W:DT X E c t)(Y:gy X E pin n j):DS X E pin (.While c n [] pos) (λv=>gm t j (P v) v):=λF S v σ H D Q h=>by
 refine jh (SD G qx sX) ⟨λm b u=>∃y x a,aZ X.K y x a b u/\iw X.K E pin b y x u (gm t j m a) D,⟨P v,F,S,v,Q,h⟩,?_⟩;rintro m i H1 ⟨F1,Z,A,T,q⟩;cases m with
 |zero=>exact q.elim
 |succ m=>
  refine W F1 Z A i H1 _ T (q.bindE.imp λk p N K L O g2 g=>?_);cases k with
  |false=>exact qc (g N K i L O (bD.refl ..) (jz.refl _ _))
  |true=>
   refine qB ⟨λb u=>∃y x a,aZ X.K y x a b u/\iw X.K E pin b y x u (gm t j m a) D,λb u w=>⟨m,mJ m,w⟩,Y N K p i L _ O ?_⟩;have g:iw X.K E pin i N K L (match j p with
    |.ok .next a=>gm t j m a
    |.ok .cont a=>gm t j m a
    |.ok .brk a=>.ok .next a
    |r=>r) D:=g
   cases e:j p with
   |no=>rw[e]at g;exact g
   |er c o=>rw[e]at g;exact g
   |ok f o=>
    rw[e]at g;cases f with
    |next=>exact λM J z H3 B I C=>⟨M,J,o,B,g.from I C⟩
    |cont=>exact λM J z H3 B I C=>⟨M,J,o,B,g.from I C⟩
    |brk=>exact g
    |ret s=>exact g
end
def yR(K:ay)(E:XK)(i:List V)(F:ag->Prop)(S:Nat->ag->Prop)(H:Hp)(r:R Slot)(Q:VK):Prop:=match r with
 |.ok s h=>∀v d f a g,aZ K d f h (i.map aa) a->bD (U S) (λb=>U f b\/g b) F d H a->nG K a d s v g->y6 d f a g->(∀b,g b->H b=ae)->Q v a
 |.er c h=>∀x d f a,aZ K d f h (i.map aa) a->bD (U S) (U f) F d H a->E c x a
 |.no=>False
def bJ(K:ay)(g:ak->R Slot):Sp:=λa H Q E=>∃F S b,aZ K F S b (a.map aa) H/\yR K E a F S H (g b) Q
structure cN(CX:gz)(P:aS)(w:aG)(K:ay)(mg:Str->Option ai)(base:aB)(x:Str)(k:Nat)(ps:List Str)(sp:Sp):Prop where
 ex:∃f fd,mg x=aa (.ref f)/\lq P w K mg base CX k f fd ps sp/\Binds K fd ps []/\qQ K (.ref f)=ah
def back:ak->ak->Option ak
 |[],_=>aa []
 |.own _::a,.own c::b=>(back a b).map (.own c::·)
 |.own _::_,_=>ae
 |s::a,_::b=>(back a b).map (s::·)
 |_::_,[]=>ae
theorem yc:∀{a c b:ak},back a c=aa b->b.length=a.length/\∀(i:Nat) (s:Slot),b[i]?=aa s->(∃g f,a[i]?=aa (.own g)/\c[i]?=aa (.own f)/\s=.own f)\/(a[i]?=aa s/\∀g,s≠.own g)
 |[],_,b,h=>by cases h;exact⟨rfl,λi s e=>by simp at e⟩
 |.own g::a,.own f::c,b,h=>by
  unfold back at h;cases e:back a c with
  |none=>rw[e]at h;cases h
  |some r=>
   rw[e]at h;cases h;obtain⟨l,q⟩:=yc e;refine⟨by simp[l],λi s d=>?_⟩;cases i with
   |zero=>simp at d;subst d;exact .inl ⟨g,f,rfl,rfl,rfl⟩
   |succ i=>simpa using q i s (by simpa using d)
 |.own g::a,.none::c,b,h=>by cases h
 |.own g::a,.val _::c,b,h=>by cases h
 |.own g::a,[],b,h=>by cases h
 |.none::a,[],b,h=>by cases h
 |.val _::a,[],b,h=>by cases h
 |.none::a,x::c,b,h=>by
  have h:(back a c).map (Slot.none::·)=aa b:=by unfold back at h;cases x <;> exact h
  cases e:back a c with
  |none=>rw[e]at h;cases h
  |some r=>
   rw[e]at h;cases h;obtain⟨l,q⟩:=yc e;refine⟨by simp[l],λi s d=>?_⟩;cases i with
   |zero=>simp at d;subst d;exact .inr ⟨rfl,λ_ z=>by cases z⟩
   |succ i=>simpa using q i s (by simpa using d)
 |.val pv::a,x::c,b,h=>by
  have h:(back a c).map (Slot.val pv::·)=aa b:=by unfold back at h;cases x <;> exact h
  cases e:back a c with
  |none=>rw[e]at h;cases h
  |some r=>
   rw[e]at h;cases h;obtain⟨l,q⟩:=yc e;refine⟨by simp[l],λi s d=>?_⟩;cases i with
   |zero=>simp at d;subst d;exact .inr ⟨rfl,λ_ z=>by cases z⟩
   |succ i=>simpa using q i s (by simpa using d)
def bj(n:Nat)(d:ak->R aK):ak->R Slot:=λf=>match d (f++bK n .none)with
 |.ok (.ret r) a=>(aE (back f a) []).bind λb _=>.ok r b
 |.ok .next a=>(aE (back f a) []).bind λb _=>.ok (.val .non) b
 |.er c a=>(aE (back f a) []).bind λb _=>.er c b
 |_=>.no
section
variable{K:ay}{F u:ag->Prop}{S o:Nat->ag->Prop}{c l m:ak}{f:St}{H t:Hp}{d:List V}
theorem aZ.start(r:aZ K F S c (d.map aa) H)(n:Nat):aZ K F S (c++bK n .none) (d.map aa++bK n ae) H:=by
 have y:c.length=(d.map aa).length:=r.len;have no:∀{j:Nat}{s:Slot},(c++bK n Slot.none)[j]?=aa s->s≠.none->c[j]?=aa s:=λ{j s} e x=>by
  by_cases A:j<c.length
  .rw[jM A]at e;exact e
  .rw[qR ∅,List.getElem?_replicate]at e;split at e
   .exact absurd (dZ e).symm x
   .cases e
 have p:∀{j:Nat}{v:Option V},(d.map aa)[j]?=aa v->(d.map aa++bK n ae)[j]?=aa v:=λ{j v} e=>by rw[jM (d7.mp e).1];exact e
 refine⟨by simp[y],r.ex,λj pv e=>?_,λj a e=>?_,λj b h=>?_,r.dist⟩
 .obtain⟨v,i,g⟩:=r.val j pv (no e (by intro z;cases z));exact⟨v,p i,g⟩
 .obtain⟨v,i,g⟩:=r.own j a (no e (by intro z;cases z));exact⟨v,p i,g⟩
 .obtain⟨⟨a,q⟩,w⟩:=r.foot j b h;exact⟨⟨a,by rw[jM (d7.mp q).1];exact q⟩,w⟩
theorem FG{i:PO}{a:ag}{n:ag->Prop}(h:fU K H F i a n)(j:eR i=ah):∀b,n b↔b=a:=by
 cases i with
 |lst xs=>exact h.2
 |dK g=>exact h.2
 |lls p=>cases j
 |ins C fs=>exact h.2
 |dT g=>exact h.2
 |dN g=>exact h.2
 |inl C fs y xs=>cases j
theorem NZ{g:PO}{a:ag}{i:ag->Prop}(h:fU K H F g a i):i a:=by
 cases g with
 |lst xs=>exact(h.2 a).mpr rfl
 |dK b=>exact(h.2 a).mpr rfl
 |lls j=>obtain⟨n,_,_,_,_,w⟩:=h;exact(w a).mpr (.inl rfl)
 |ins C fs=>exact(h.2 a).mpr rfl
 |dT b=>exact(h.2 a).mpr rfl
 |dN b=>exact(h.2 a).mpr rfl
 |inl C fs y xs=>obtain⟨_,_,_,_,_,_,_,_,_,_,w⟩:=h;exact(w a).mpr (.inl rfl)
theorem aZ.back{X:ag->Prop}{C:List Nat}{n:Nat}(B:aZ K F S c (d.map aa) H)(r:aZ K u o l f t)(g:bD (U S) X F u H t)(p:jz C (d.map aa++bK n ae) f)(P:∀(i:Nat) (s:PO),c[i]?=aa (.own s)->i∈C)(Q:back c l=aa m):∃A,aZ K u A m (d.map aa) t/\(∀b,U A b->U o b)/\((∀(i:Nat) (s:PO),c[i]?=aa (.own s)->eR s=ah)->∀b,U S b->U A b):=by
 obtain⟨L,E⟩:=yc Q;have inj:∀(i:Nat) (s:PO),c[i]?=aa (.own s)->∃a,(d.map aa)[i]?=aa (aa (.ref a))/\f[i]?=aa (aa (.ref a))/\fU K H F s a (S i):=λi s e=>by obtain⟨a,x,y⟩:=B.own i s e;refine⟨a,x,?_,y⟩;rw[p i (P i s e),jM (d7.mp x).1];exact x
 have bk:∀(i:Nat) (s:PO),c[i]?=aa (.own s)->∃w,m[i]?=aa (.own w)/\l[i]?=aa (.own w):=λi s e=>by
  have M:i<m.length:=by rw[L];exact(d7.mp e).1
  rcases E i m[i] (by simp[M])with⟨p1,p2,q1,q2,q3⟩|⟨q1,q2⟩
  .exact⟨p2,by rw[fg M,q3],q2⟩
  .rw[e]at q1;exact absurd (dZ q1).symm (q2 s)
 refine⟨λi b=>o i b/\∃s,c[i]?=aa (.own s),⟨by rw[L];exact B.len,r.ex,λi pv e=>?_,λi s e=>?_,λi b h=>?_,λi j b x y=>r.dist i j b x.1 y.1⟩,λb ⟨i,h⟩=>⟨i,h.1⟩,λO b ⟨i,h⟩=>?_⟩
 .rcases E i _ e with⟨_,_,_,_,z⟩|⟨q1,_⟩
  .cases z
  .obtain⟨v,x,y⟩:=B.val i pv q1;exact⟨v,x,y.grow g B.fit⟩
 .rcases E i _ e with⟨p1,p2,q1,q2,q3⟩|⟨_,q2⟩
  .cases q3;obtain⟨a,x,y,N⟩:=inj i p1 q1;obtain⟨W,D,G⟩:=r.own i s q2;rw[y]at D;cases D;refine⟨a,x,?_⟩;have T:(λb=>o i b/\∃s,c[i]?=aa (.own s))=o i:=by funext b;exact propext ⟨λz=>z.1,λz=>⟨z,p1,q1⟩⟩
   rw[T];exact G
  .exact absurd rfl (q2 s)
 .obtain⟨s,q⟩:=h.2;obtain⟨w,J,I⟩:=bk i s q;exact⟨⟨w,J⟩,(r.foot i b h.1).2⟩
 .obtain⟨⟨s,q⟩,_⟩:=B.foot i b h;obtain⟨a,x,y,N⟩:=inj i s q;obtain⟨w,J,I⟩:=bk i s q;obtain⟨W,D,G⟩:=r.own i w I;rw[y]at D;cases D;have e:b=a:=(FG N (O i s q) b).mp h;exact⟨i,e ▸ NZ G,s,q⟩
end
theorem yN{K:ay}{E:XK}{a:List V}{F:ag->Prop}{S:Nat->ag->Prop}{H:Hp}{r:R Slot}{Q:VK}(h:yR K E a F S H r Q):r≠.no:=λz=>by rw[z]at h;exact h
theorem EC{K:ay}{g:ak->R Slot}{m:Nat}(f:∀a,g a≠.no->a.length=m):∀b H Q E,bJ K g b H Q E->b.length=m:=λb H Q E ζ=>by obtain⟨F,S,a,c,ok⟩:=ζ;have:=f a (yN ok);have d:=c.len;rw[cn]at d;lia
theorem Im{X:Cx}{E:XK}{t:List ba}{N O:List Str}{s:List V}{H:Hp}{Q:VK}{n:Nat}{g:ak->R Slot}{d:ak->R aK}{y:List Nat}(hn:N.length=O.length+n)(bo:∀a,g a≠.no->a.length=O.length) (jQ:∀a,g a≠.no->∀(i:Nat) po,a[i]?=aa (.own po)->i∈y) (Y:∀a p m,g a=.ok p m->(∃pv,p=.val pv)\/∀(i:Nat) po,a[i]?=aa (.own po)->eR po=ah) (hg:∀a,g a≠.no->bj n d a=g a)(hb:gy X E y t d) (iH:bJ X.K g s H Q E):qr X t {nx:=λ_ l=>Q .non l,rt:=Q} (L2.start N s) H:=by
 obtain⟨F,S,a,K,ok⟩:=iH;have hl:=bo a (yN ok);have h2:=K.len;rw[cn]at h2;have es:L2.start N s=s.map aa++bK n ae:=by unfold L2.start;rw[show N.length-s.length=n by lia]
 rw[es];refine hb F S _ _ H _ (K.start n) ?_;have T:=jQ a (yN ok);have Z:=hg a (yN ok);have J:=Y a;rw[<-Z]at ok J;unfold bj at ok J;generalize d (a++bK n .none)=r at ok J ⊢;cases r with
 |no=>exact ok
 |er c h=>
  intro x q B j l C f D;have ok:yR X.K E s F S H ((aE (back a h) []).bind λm _=>.er c m) Q:=ok;cases e:back a h with
  |none=>rw[e]at ok;exact ok.elim
  |some m=>rw[e]at ok;obtain⟨A,u,o,_⟩:=K.back C f D T e;exact ok x q A l u ⟨f.fro,f.keep,f.there,f.fnew,λb z=>f.onew b (o b z)⟩
 |ok fl h=>
  have G:∀(p:Slot),(∀m,back a h=aa m->(∃pv,p=.val pv)\/∀(i:Nat) po,a[i]?=aa (.own po)->eR po=ah)->yR X.K E s F S H ((aE (back a h) []).bind λm _=>.ok p m) Q->∀(v:V) q B j l I,aZ X.K q B h j l->bD (U S) (λb=>U B b\/I b) F q H l->jz y (s.map aa++bK n ae) j->nG X.K l q p v I->y6 q B l I->Q v l:=by
   intro p M ok v q B j l I C f D P L;cases e:back a h with
   |none=>rw[e]at ok;exact ok.elim
   |some m=>
    rw[e]at ok;obtain⟨A,u,o,W⟩:=K.back C f D T e;refine ok v q A l I u ⟨f.fro,f.keep,f.there,f.fnew,λb z=>f.onew b (z.imp (o b) id)⟩ P (λb z=>⟨(L b z).1,λw=>(L b z).2.1 (o b w),(L b z).2.2⟩) λb z=>?_;rcases M m e with⟨pv,rfl⟩|hf
    .exact absurd z (P.2 b)
    rcases f.onew b (.inr z)with w|w
    .exact absurd (o b (W hf b w)) (L b z).2.1
    .exact w
  cases fl with
  |brk=>exact ok.elim
  |cont=>exact ok.elim
  |ret p=>exact G p (λm e=>J p m (by show(aE (back a h) []).bind _=_;rw[e];rfl)) ok
  |next=>exact λq B j l C f D=>G (.val .non) (λ_ _=>.inl ⟨_,rfl⟩) ok .non q B j l (λ_=>False) C ⟨f.fro,f.keep,f.there,f.fnew,λb z=>z.elim (f.onew b) iE⟩ D ⟨rfl,λ_ z=>z⟩ λ_ z=>z.elim
theorem Es{f:ag}{p:iD}{C:gz}{P:aS}{w:aG}{K:ay}{u:Str->Option ai}{j:aB}{x b:Str}{h:ba}{N l:List Str}{k n:Nat}{g:ak->R Slot}{d:ak->R aK}{m:List Nat}(Y:qf K x b h f p)(X:b8 N l (a8 h))(O:N.length=l.length+n)(hb:∀(kV o t:ai) (z:Option ag) (B v:ai) (q:List ai),q.length=l.length->fZ (iY x b (j5 h) (fX h) (a8 h) .none kV o t z B v) ⟨q,[]⟩=pure (l.zip q))(y:∀c,g c≠.no->c.length=l.length) (I:∀c,g c≠.no->∀(i:Nat) po,c[i]?=aa (.own po)->i∈m) (F:∀c r W,g c=.ok r W->(∃pv,r=.val pv)\/∀(i:Nat) po,c[i]?=aa (.own po)->eR po=ah) (S:∀c,g c≠.no->bj n d c=g c)(J:∀(A:aV) (a:List Env) (s:am) (H:Hp) (E:XK),Room k (A.deeper (jt b (a8 h) s.heap.objs.size f p.code))->gy (iO C P w K u j N b (a8 h) f p.code A a s H E) E m (fX h) d):lq P w K u j C (k+1) f p l (bJ K g):=by obtain⟨oc,od,kV,o,t,z,B,v,D,rfl,G,T⟩:=Y.ex;exact Kw G T X (EC y) λA a s H Z Q E M L=>⟨_,sX,Im O y I F S (J A a s H E M) L⟩
theorem GI{f:ag}{t:iD}{z:gz}{P:aS}{w:aG}{K:ay}{v:Str->Option ai}{l:aB}{x b:Str}{j:ba}{N m:List Str}{k n:Nat}{g:ak->R Slot}{d:ak->R aK}{p:List Nat}(O:qf K x b j f t)(M:b8 N m (a8 j))(D:N.length=m.length+n)(G:∀(kV u B:ai) (L:Option ag) (q I:ai) (r:List ai),r.length=m.length->fZ (iY x b (j5 j) (fX j) (a8 j) .none kV u B L q I) ⟨r,[]⟩=pure (m.zip r))(J:∀c,g c≠.no->c.length=m.length) (y:∀c,g c≠.no->∀(i:Nat) o,c[i]?=aa (.own o)->i∈p/\eR o=ah) (F:∀c,g c≠.no->bj n d c=g c)(C:∀(f:ag) (q:ai) (A:aV) (a:List Env) (s:am) (H:Hp) (E:XK),Room k (A.deeper (jt b (a8 j) s.heap.objs.size f q))->gy (iO z P w K v l N b (a8 j) f q A a s H E) E p (fX j) d):lq P w K v l z (k+1) f t m (bJ K g):=Es O M D G J (λc h i o e=>(y c h i o e).1) (λc Q S h=>.inr λi o e=>(y c (by rw[h];exact nofun) i o e).2) F λA a s H E=>C f t.code A a s H E
theorem T9{u:gz}{P:aS}{w:aG}{K:ay}{p:Str->Option ai}{c:aB}{x:Str}{b:ba}{N j:List Str}{k n:Nat}{g:ak->R Slot}{d:ak->R aK}{l:List Nat}(D:cD K p x b)(M:b8 N j (a8 b))(B:N.length=j.length+n)(t:∀(kV q v:ai) (L:Option ag) (m I:ai) (o:List ai),o.length=j.length->fZ (iY x x (j5 b) (fX b) (a8 b) .none kV q v L m I) ⟨o,[]⟩=pure (j.zip o))(J:∀a,g a≠.no->a.length=j.length) (y:∀a,g a≠.no->∀(i:Nat) po,a[i]?=aa (.own po)->i∈l/\eR po=ah) (F:∀a,g a≠.no->bj n d a=g a)(z:∀(f:ag) (m:ai) (A:aV) (h:List Env) (s:am) (H:Hp) (E:XK),Room k (A.deeper (jt x (a8 b) s.heap.objs.size f m))->gy (iO u P w K p c N x (a8 b) f m A h s H E) E l (fX b) d):cN u P w K p c x (k+1) j (bJ K g):=by obtain⟨f,G,C,r⟩:=D.ex;exact⟨f,G,C,GI r M B t J y F z,r.binds t,r.kp⟩
abbrev cq:=Sum PV Nat
def jy(K:ay)(b:St)(F:ag->Prop)(H:Hp):List cq->List V->Prop
 |[],a=>a=[]
 |.inl pv::c,a=>∃v r,a=v::r/\a_ K H F pv v/\jy K b F H c r
 |.inr i::c,a=>∃v r,a=v::r/\b[i]?=aa (aa v)/\jy K b F H c r
def DG(X:Cx)(E:XK)(g:List az)(d:ak->R (List cq)):Prop :=
 ∀F S b a H Q,aZ X.K F S b a H->Ok X.K E a F S H (d b) (λh _ i _ f=>∀c,jy X.K a i f h c->Q c f)->pW X g a H Q
section
variable{X:Cx}{E:XK}{e:az}{b:List az}{de:ak->R PV}{c:ak->R (List cq)}{f:Pos}
def bA:ak->R (List cq):=λε=>.ok [] ε
def gV(d:ak->R PV)(c:ak->R (List cq)):ak->R (List cq):=λε=>(d ε).bind λx ε1=>(c ε1).bind λxs a=>.ok (.inl x::xs) a
def gO(i:Nat)(c:ak->R (List cq)):ak->R (List cq):=λd=>match d[i]? with
 |some (.own _)=>(c d).bind λxs a=>.ok (.inr i::xs) a
 |_=>.no
theorem bB:DG X E [] bA:=λF S g d H Q a h=>qe j6 (h F S H a (bD.refl ..) _ rfl)
theorem L3(s:DE X E e de)(r:DG X E b c)(q:aN (e::b) X.env=(aj,aL e X.env)::aN b X.env:=by rfl):DG X E (e::b) (gV de c):=λF S j d H Q n h=>by refine qe (iQ bI gX q) (s F S j d H _ n ((Ok.bind h).imp λx a D z B g G u v m=>?_));refine r D z a d B _ g ((Ok.bind u).imp λxs i C y A o w t l p=>?_);exact t C y A o (bD.refl ..) _ ⟨v,l,rfl,m.grow w g.fit,p⟩
theorem gP(i:Nat){x:Str}{p:Pos}(u:DG X E b c)(w:X.N[i]?=aa x:=by rfl)(s:eD X.env.scope x:=by first|exact Or.inl rfl|exact Or.inr (Or.inl rfl)|exact Or.inr (Or.inr rfl))(v:(x==("__debug__":Str))=aj:=by decide)(z:(x==("__classdict__":Str))=aj:=by decide) (t:aN (.Name x p::b) X.env=(aj,aL (.Name x p) X.env)::aN b X.env:=by rfl):DG X E (.Name x p::b) (gO i c):=λF S m j H Q d h=>by
 unfold gO at h;split at h
 .rename_i q e;obtain⟨a,g,_⟩:=d.own i q e;refine qe (iQ (fE w s v z) gX t) ⟨_,g,u F S m j H _ d ((Ok.bind h).imp λxs l C A B o D y n r=>?_)⟩;exact y C A B o (bD.refl ..) _ ⟨_,n,rfl,g,r⟩
 .exact h.elim
end
def d_(a:ak):List cq->Option ak
 |[]=>aa []
 |.inl pv::b=>(d_ a b).map (.val pv::·)
 |.inr i::b=>match a[i]? with
  |some (.own c)=>(d_ a b).map (.own c::·)
  |_=>ae
def fi:ak->List cq->ak->ak
 |a,.inl _::c,_::b=>fi a c b
 |a,.inr i::c,s::b=>fi (a.set i s) c b
 |a,_,_=>a
def cF:List cq->List Nat
 |[]=>[]
 |.inl _::as=>cF as
 |.inr i::as=>i::cF as
theorem Gf:∀{as:List cq}{i:Nat},i∈cF as↔∃k:Nat,as[k]?=aa (.inr i)
 |[],i=>by simp[cF]
 |.inl _::as,i=>by
  unfold cF;rw[Gf];constructor
  .rintro⟨k,h⟩;exact⟨k+1,by simpa using h⟩
  .rintro⟨k,h⟩;cases k with
   |zero=>simp at h
   |succ k=>exact⟨k,by simpa using h⟩
 |.inr j::as,i=>by
  unfold cF;rw[bC,Gf];constructor
  .rintro(rfl|⟨k,h⟩)
   .exact⟨0,rfl⟩
   .exact⟨k+1,by simpa using h⟩
  .rintro⟨k,h⟩;cases k with
   |zero=>simp at h;exact .inl h.symm
   |succ k=>exact .inr ⟨k,by simpa using h⟩
theorem yC{d:ak}:∀{a:List cq}{c:ak},d_ d a=aa c->c.length=a.length/\∀(k:Nat) (s:Slot),c[k]?=aa s->(∃pv,a[k]?=aa (.inl pv)/\s=.val pv)\/∃i f,a[k]?=aa (.inr i)/\d[i]?=aa (.own f)/\s=.own f
 |[],c,h=>by cases h;exact⟨rfl,λk s e=>by simp at e⟩
 |.inl pv::a,c,h=>by
  unfold d_ at h;cases e:d_ d a with
  |none=>rw[e]at h;cases h
  |some r=>
   rw[e]at h;cases h;obtain⟨l,q⟩:=yC e;refine⟨by simp[l],λk s b=>?_⟩;cases k with
   |zero=>simp at b;exact .inl ⟨pv,rfl,b.symm⟩
   |succ k=>simpa using q k s (by simpa using b)
 |.inr i::a,c,h=>by
  unfold d_ at h;split at h
  .rename_i f g;cases e:d_ d a with
   |none=>rw[e]at h;cases h
   |some r=>
    rw[e]at h;cases h;obtain⟨l,q⟩:=yC e;refine⟨by simp[l],λk s b=>?_⟩;cases k with
    |zero=>simp at b;exact .inr ⟨i,f,rfl,g,b.symm⟩
    |succ k=>simpa using q k s (by simpa using b)
  .cases h
theorem xL:∀(c:List cq) (a b:ak),(fi a c b).length=a.length
 |[],a,b=>by cases b <;> rfl
 |.inl _::c,a,[]=>rfl
 |.inr _::c,a,[]=>rfl
 |.inl _::c,a,s::b=>xL c a b
 |.inr i::c,a,s::b=>by show(fi (a.set i s) c b).length=_;rw[xL,g_]
theorem tm:∀(a:List cq) (b c:ak) (j:Nat),j∉cF a->(fi b a c)[j]?=b[j]?
 |[],b,c,j,_=>by cases c <;> rfl
 |.inl _::a,b,[],j,_=>rfl
 |.inr _::a,b,[],j,_=>rfl
 |.inl _::a,b,s::c,j,h=>tm a b c j h
 |.inr i::a,b,s::c,j,h=>by
  have d:¬(j=i\/j∈cF a):=by simpa[cF]using h
  show(fi (b.set i s) a c)[j]?=_;rw[tm a _ c j λz=>d (.inr z),fe λz=>d (.inl z.symm)]
theorem um:∀(a:List cq) (b c:ak) (j k:Nat) (s:Slot),(cF a).Nodup->j<b.length->a[k]?=aa (.inr j)->c[k]?=aa s->(fi b a c)[j]?=aa s
 |[],b,c,j,k,s,_,_,h,_=>by simp at h
 |_::a,b,[],j,k,s,_,_,_,h=>by simp at h
 |.inl _::a,b,t::c,j,0,s,_,_,h,_=>by simp at h
 |.inl _::a,b,t::c,j,k+1,s,nd,hj,h,g=>um a b c j k s nd hj (by simpa using h) (by simpa using g)
 |.inr i::a,b,t::c,j,0,s,nd,hj,h,g=>by simp at h g;subst h g;have d:i∉cF a:=(kE.mp nd).1;show(fi (b.set i t) a c)[i]?=_;rw[tm a _ c i d,gF hj]
 |.inr i::a,b,t::c,j,k+1,s,nd,hj,h,g=>um a (b.set i t) c j k s (kE.mp nd).2 (by rw[g_];exact hj) (by simpa using h) (by simpa using g)
theorem jy.len{K:ay}{b:St}{F:ag->Prop}{H:Hp}:∀{a:List cq}{vs:List V},jy K b F H a vs->vs.length=a.length
 |[],_,h=>by rw[show _=[] from h];rfl
 |.inl _::a,_,⟨v,r,e,_,h⟩=>by rw[e,eh,eh,jy.len h]
 |.inr _::a,_,⟨v,r,e,_,h⟩=>by rw[e,eh,eh,jy.len h]
theorem jy.val{K:ay}{d:St}{F:ag->Prop}{H:Hp}:∀{as:List cq}{c:List V}{k:Nat}{pv:PV},jy K d F H as c->as[k]?=aa (.inl pv)->∃v,c[k]?=aa v/\a_ K H F pv v
 |[],_,k,_,_,e=>by simp at e
 |.inl x::as,_,0,pv,⟨v,r,e,h,_⟩,q=>by simp at q;subst q e;exact⟨v,rfl,h⟩
 |.inr _::as,_,0,pv,_,q=>by simp at q
 |.inl x::as,_,k+1,pv,⟨v,r,e,_,h⟩,q=>by obtain⟨w,a,b⟩:=jy.val (k:=k) h (by simpa using q);subst e;exact⟨w,by simpa using a,b⟩
 |.inr x::as,_,k+1,pv,⟨v,r,e,_,h⟩,q=>by obtain⟨w,a,b⟩:=jy.val (k:=k) h (by simpa using q);subst e;exact⟨w,by simpa using a,b⟩
theorem jy.own{K:ay}{c:St}{F:ag->Prop}{H:Hp}:∀{as:List cq}{d:List V}{k i:Nat},jy K c F H as d->as[k]?=aa (.inr i)->∃v,d[k]?=aa v/\c[i]?=aa (aa v)
 |[],_,k,_,_,e=>by simp at e
 |.inr x::as,_,0,pv,⟨v,r,e,h,_⟩,q=>by simp at q;subst q e;exact⟨v,rfl,h⟩
 |.inl _::as,_,0,pv,_,q=>by simp at q
 |.inl x::as,_,k+1,pv,⟨v,r,e,_,h⟩,q=>by obtain⟨w,a,b⟩:=jy.own (k:=k) h (by simpa using q);subst e;exact⟨w,by simpa using a,b⟩
 |.inr x::as,_,k+1,pv,⟨v,r,e,_,h⟩,q=>by obtain⟨w,a,b⟩:=jy.own (k:=k) h (by simpa using q);subst e;exact⟨w,by simpa using a,b⟩
section
variable{K:ay}{F y:ag->Prop}{S m:Nat->ag->Prop}{c s f:ak}{t:St}{H u:Hp}{as:List cq}{d:List V}
def ml(as:List cq)(S:Nat->ag->Prop)(k:Nat)(b:ag):Prop:=∃i,as[k]?=aa (.inr i)/\S i b
theorem yh(b:ag)(h:U (ml as S) b):U S b:=let ⟨_,i,_,h⟩:=h;⟨i,h⟩
theorem zj:∀{as:List cq}{i k l:Nat},(cF as).Nodup->as[k]?=aa (.inr i)->as[l]?=aa (.inr i)->k=l
 |[],_,_,_,_,h,_=>by simp at h
 |.inl _::as,i,0,_,_,h,_=>by simp at h
 |.inl _::as,i,_,0,_,_,h=>by simp at h
 |.inl _::as,i,k+1,l+1,nd,h1,h2=>by rw[zj (as:=as) (i:=i) (k:=k) (l:=l) nd (by simpa using h1) (by simpa using h2)]
 |.inr j::as,i,0,0,_,_,_=>rfl
 |.inr j::as,i,0,l+1,nd,h1,h2=>by simp at h1;subst h1;exact absurd (Gf.mpr ⟨l,by simpa using h2⟩) (kE.mp nd).1
 |.inr j::as,i,k+1,0,nd,h1,h2=>by simp at h2;subst h2;exact absurd (Gf.mpr ⟨k,by simpa using h1⟩) (kE.mp nd).1
 |.inr j::as,i,k+1,l+1,nd,h1,h2=>by rw[zj (as:=as) (i:=i) (k:=k) (l:=l) (kE.mp nd).2 (by simpa using h1) (by simpa using h2)]
theorem aZ.cal(r:aZ K F S c t H)(B:jy K t F H as d)(J:d_ c as=aa s)(I:(cF as).Nodup):aZ K F (ml as S) s (d.map aa) H:=by
 obtain⟨E,A⟩:=yC J;have C:∀{k:Nat}{v:V},d[k]?=aa v->(d.map aa)[k]?=aa (aa v):=λ{k v} e=>by rw[kF,e];rfl
 refine⟨by rw[E,cn,B.len],r.ex,λk pv e=>?_,λk D e=>?_,λk b h=>?_,λk l b g o=>?_⟩
 .rcases A k _ e with⟨p,q1,n⟩|⟨_,_,_,_,z⟩
  .cases n;obtain⟨v,x,w⟩:=B.val q1;exact⟨v,C x,w⟩
  .cases z
 .rcases A k _ e with⟨_,_,z⟩|⟨i,p,q1,n,q3⟩
  .cases z
  .cases q3;obtain⟨v,x,w⟩:=B.own q1;obtain⟨a,b1,b2⟩:=r.own i D n;rw[w]at b1;cases b1;have L:ml as S k=S i:=by
    funext b;exact propext ⟨λζ=>by obtain⟨j,g,o⟩:=ζ;rw[q1]at g;cases g;exact o,λh=>⟨i,q1,h⟩⟩
   exact⟨a,C x,by rw[L];exact b2⟩
 .obtain⟨i,g,o⟩:=h;obtain⟨⟨D,q⟩,n⟩:=r.foot i b o;have G:k<s.length:=by rw[E];exact(d7.mp g).1
  refine⟨?_,n⟩;rcases A k s[k] (by simp[G])with⟨_,z,_⟩|⟨j,p,z1,z2,z3⟩
  .rw[g]at z;cases z
  .exact⟨p,by rw[fg G,z3]⟩
 .obtain⟨i,x,w⟩:=g;obtain⟨j,b1,b2⟩:=o;have:=r.dist i j b w b2;subst this;exact zj I x b1
theorem aZ.called{O':ag->Prop}(r:aZ K F S c t H)(ha:jy K t F H as d)(hs:d_ c as=aa s)(P:(cF as).Nodup)(N:aZ K y m f (d.map aa) u)(g:bD (U (ml as S)) O' F y H u)(hO:∀b,U m b->O' b)(L:∀(k:Nat) i,as[k]?=aa (.inr i)->∃C,f[k]?=aa (.own C)):∃Y,aZ K y Y (fi c as f) t u/\bD (U S) (U Y) F y H u/\∀b,U Y b->U m b\/U S b:=by
 have up:∀{k:Nat}{v:V},(d.map aa)[k]?=aa (aa v)->d[k]?=aa v:=λ{k v} e=>by
  rw[kF]at e;cases q:d[k]? with
  |none=>rw[q]at e;cases e
  |some x=>rw[q]at e;cases e;rfl
 have fit:Fit (U (ml as S)) F H:=λb h=>r.fit b (yh b h);have J:∀i C,c[i]?=aa (.own C)->i<c.length:=λi C e=>(d7.mp e).1;have lt:∀(k:Nat) i,as[k]?=aa (.inr i)->i<c.length:=λk i e=>by
  obtain⟨hl,hg⟩:=yC hs;have D:k<s.length:=by rw[hl];exact(d7.mp e).1
  rcases hg k s[k] (by simp[D])with⟨_,z,_⟩|⟨j,p,z1,z2,z3⟩
  .rw[e]at z;cases z
  .rw[e]at z1;cases z1;exact J _ _ z2
 refine⟨λj b=>(∃k:Nat,as[k]?=aa (.inr j)/\m k b)\/(j∉cF as/\S j b),⟨by rw[xL];exact r.len,N.ex,λj pv e=>?_,λj C e=>?_,λj b h=>?_,λi j b A B=>?_⟩,⟨g.fro,λb o e n=>g.keep b o e λz=>n (yh b z),g.there,λa z=>(g.fnew a z).imp id λw=>w.imp id (yh a),λb ⟨j,z⟩=>?_⟩,λb ⟨j,z⟩=>?_⟩
 .by_cases G:j∈cF as
  .obtain⟨k,D⟩:=Gf.mp G;obtain⟨C,q⟩:=L k j D;rw[um as c f j k _ P (lt k j D) D q]at e;cases e
  .rw[tm as c f j G]at e;obtain⟨v,A,B⟩:=r.val j pv e;exact⟨v,A,B.grow g fit⟩
 .by_cases G:j∈cF as
  .obtain⟨k,D⟩:=Gf.mp G;obtain⟨po',q⟩:=L k j D;rw[um as c f j k _ P (lt k j D) D q]at e;cases e;obtain⟨a,A,B⟩:=N.own k C q;obtain⟨v,Q,X⟩:=ha.own D;rw[up A]at Q;cases Q;have W:(λb=>(∃k:Nat,as[k]?=aa (.inr j)/\m k b)\/(j∉cF as/\S j b))=m k:=by
    funext b;refine propext ⟨λz=>?_,λz=>.inl ⟨k,D,z⟩⟩;rcases z with⟨l,z1,z2⟩|⟨z,_⟩
    .rw[zj P D z1];exact z2
    .exact absurd G z
   exact⟨a,X,by rw[W];exact B⟩
  .rw[tm as c f j G]at e;obtain⟨a,A,B⟩:=r.own j C e;have W:(λb=>(∃k:Nat,as[k]?=aa (.inr j)/\m k b)\/(j∉cF as/\S j b))=S j:=by
    funext b;refine propext ⟨λz=>?_,λz=>.inr ⟨G,z⟩⟩;rcases z with⟨l,z1,z2⟩|⟨_,z⟩
    .exact absurd (Gf.mpr ⟨l,z1⟩) G
    .exact z
   have h3:fU K u y C a (S j):=by refine B.mono (λ_ _ q=>q.grow g fit) (λ_ _ q=>q.grow g fit) λb o z q=>g.keep b o q λ⟨l,i,M,I⟩=>?_;have:=r.dist i j b I z;subst this;exact G (Gf.mpr ⟨l,M⟩)
   exact⟨a,A,by rw[W];exact h3⟩
 .rcases h with⟨k,A,B⟩|⟨A,B⟩
  .obtain⟨⟨C,q⟩,T⟩:=N.foot k b B;exact⟨⟨C,um as c f j k _ P (lt k j A) A q⟩,T⟩
  .obtain⟨⟨C,q⟩,T,o,O,q4⟩:=r.foot j b B;have no:¬U (ml as S) b:=λζ=>by obtain⟨l,i,M,I⟩:=ζ;have:=r.dist i j b I B;subst this;exact A (Gf.mpr ⟨l,M⟩)
   refine⟨⟨C,by rw[tm as c f j A];exact q⟩,λz=>?_,o,g.keep b o O no,q4⟩;rcases g.fnew b z with w|w|w
   .exact T w
   .rw[O]at w;cases w
   .exact no w
 .have E:∀{i j:Nat}{b:ag},(∃k:Nat,as[k]?=aa (.inr i)/\m k b)->(j∉cF as/\S j b)->False:=λ{i j b} ⟨k,M,I⟩ ⟨w3,Z⟩=>by
   obtain⟨_,_,o,O,_⟩:=r.foot j b Z;rcases g.onew b (hO b ⟨k,I⟩)with⟨l,i',z1,z2⟩|z
   .have:=r.dist i' j b z2 Z;subst this;exact w3 (Gf.mpr ⟨l,z1⟩)
   .rw[O]at z;cases z
  rcases A with A|A <;> rcases B with B|B
  .obtain⟨k,Q,X⟩:=A;obtain⟨l,b1,b2⟩:=B;have:=N.dist k l b X b2;subst this;rw[Q]at b1;cases b1;rfl
  .exact(E A B).elim
  .exact(E B A).elim
  .exact r.dist i j b A.2 B.2
 .rcases z with⟨k,_,z⟩|⟨_,z⟩
  .rcases g.onew b (hO b ⟨k,z⟩)with w|w
   .exact .inl (yh b w)
   .exact .inr w
  .exact .inl ⟨j,z⟩
 .rcases z with⟨k,_,z⟩|⟨_,z⟩
  .exact .inl ⟨k,z⟩
  .exact .inr ⟨j,z⟩
end
def DR(X:Cx)(E:XK)(e:az)(d:ak->R Slot):Prop :=
 ∀F S f a H Q,aZ X.K F S f a H->Ok X.K E a F S H (d f) (λs _ h i c=>∀v g,nG X.K c h s v g->(∀b,g b->H b=ae/\¬h b/\¬U i b/\∃o,c b=aa o/\eK o)->Q v c)->jA X e a H Q
def fc:List cq->ak->Bool
 |[],_=>ah
 |.inl _::as,_::ss=>fc as ss
 |.inr _::as,.own _::ss=>fc as ss
 |_,_=>aj
theorem nz:∀{as:List cq}{ss:ak},fc as ss=ah->∀(k:Nat) i,as[k]?=aa (.inr i)->∃a,ss[k]?=aa (.own a)
 |[],_,_,k,i,h=>by simp at h
 |.inl _::as,s::ss,q,0,i,h=>by simp at h
 |.inl _::as,s::ss,q,k+1,i,h=>by simpa using nz (as:=as) (ss:=ss) (by unfold fc at q;exact q) k i (by simpa using h)
 |.inr _::as,.own a::ss,q,0,i,h=>⟨a,rfl⟩
 |.inr _::as,.own a::ss,q,k+1,i,h=>by simpa using nz (as:=as) (ss:=ss) (by unfold fc at q;exact q) k i (by simpa using h)
 |.inr _::as,.val _::ss,q,k,i,h=>by cases q
 |.inr _::as,.none::ss,q,k,i,h=>by cases q
 |.inl _::as,[],q,k,i,h=>by cases q
 |.inr _::as,[],q,k,i,h=>by cases q
def eW{f:Type}(d:ak)(b:List cq)(r:R f):R f:=match r with
 |.ok s a=>if fc b a then .ok s (fi d b a)else .no
 |.er c a=>if fc b a then .er c (fi d b a)else .no
 |.no=>.no
def aU(g:ak->R Slot)(c:ak->R (List cq)):ak->R Slot:=λε=>(c ε).bind λa ε1=>(aE (if(cF a).Nodup then d_ ε1 a else ae) ε1).bind λb ε1=>eW ε1 a (g b)
section
variable{l:gz}{X:Cx}{E:XK}{pin:List Nat}{e:az}{es:List az}{j:ak->R (List cq)}{pos:Pos}{x:Str}{k:Nat}{m:List Str}{g:ak->R Slot}{p:Pos}{d:ak->R Slot}
theorem Hv{K:ay}{F0 r:ag->Prop}{S0 B:Nat->ag->Prop}{a:ak}{F:St}{H n:Hp}{c:List cq}{Y:List V}{Q:VK}(u:aZ K r B a F n)(g1:bD (U S0) (U B) F0 r H n)(O:jy K F r n c Y)(q:Ok K E F r B n ((aE (if(cF c).Nodup then d_ a c else ae) a).bind λC a=>eW a c (g C)) λs _ t T h=>∀v D,nG K h t s v D->(∀b,D b->H b=ae/\¬t b/\¬U T b/\∃o,h b=aa o/\eK o)->Q v h):bJ K g Y n Q E:=by
 have q:=Ok.bind q;by_cases A:(cF c).Nodup
 .rw[if_pos A]at q;cases es:d_ a c with
  |none=>rw[es]at q;exact q.elim
  |some C=>
   rw[es]at q;have q:=q r B n u (bD.refl ..);dsimp only at q;refine⟨r,ml c B,C,u.cal O es A,?_⟩;cases N:g C with
   |no=>rw[N]at q;exact q.elim
   |er cv P=>
    rw[N]at q;intro y t T h I M;unfold eW at q;dsimp only at q;by_cases f:fc c P=ah
    .rw[if_pos f]at q;obtain⟨S,G,L,_⟩:=u.called O es A I M (λ_ z=>z) (nz f);exact q y t S h G L
    .rw[if_neg f]at q;exact q.elim
   |ok s P=>
    rw[N]at q;intro v t T h D I M rv J Z;unfold eW at q;dsimp only at q;by_cases f:fc c P=ah
    .rw[if_pos f]at q;obtain⟨S,G,L,u2⟩:=u.called O es A I M (λ_ z=>.inl z) (nz f);refine q t S h G L v D rv λb z=>⟨oX g1 (Z b z),(J b z).1,λw=>?_,(J b z).2.2⟩
     rcases u2 b w with w|⟨i,w⟩
     .exact(J b z).2.1 w
     .obtain⟨_,_,o,W,_⟩:=u.foot i b w;rw[Z b z]at W;cases W
    .rw[if_neg f]at q;exact q.elim
 .rw[if_neg A]at q;exact q.elim
theorem bM(c:cN l X.prog X.w X.K X.mg X.base x k m (bJ X.K g))(s:Room k X.A)(r:sN l X E)(z:DG X E (e::es) j)(v:Gl X x:=by rfl)(w:(x==("__debug__":Str))=aj:=by decide) (B:aN (e::es) X.env=(aj,aL e X.env)::aN es X.env:=by rfl) (A:(c_ pos (aN es X.env)).any (·.1)=aj:=by rfl):DR X E (.Call (.Name x p) (e::es) [] pos) (aU g j):=λF S i a H Q n h=>by obtain⟨f,J,t,G,y,u⟩:=c.ex;refine b7 (Fm G s v t u y .nil r gX w B A) (z F S i a H _ n ((Ok.bind h).imp λK b N L M o C q I D=>?_));rw[f8];exact Hv o C D q
def o_:Slot->Option PV
 |.val pv=>aa pv
 |.own (.lst xs)=>aa (.lst xs)
 |_=>ae
def bn(d:ak->R Slot):ak->R PV:=λε=>(d ε).bind λs ε1=>aE (o_ s) ε1
def vi:Slot->Option PO
 |.own a=>aa a
 |_=>ae
def kr(d:ak->R Slot):ak->R PO:=λb=>(d b).bind λs a=>aE (vi s) a
theorem DR.dn(h:DR X E e d):DN X E e (kr d):=λF S f i H Q t q=>by
 unfold kr at q;refine h F S f i H Q t ?_;cases b:d f with
 |no=>rw[b]at q;exact q.elim
 |er c o=>rw[b]at q;exact q
 |ok s n=>
  rw[b]at q;cases s with
  |none=>exact q.elim
  |val pv=>exact q.elim
  |own G=>intro D B C u y v A r z;obtain⟨a,rfl,w⟩:=r;exact q D B C u y a A w z
theorem DR.de(h:DR X E e d):DE X E e (bn d):=λF S ε f H Q i q=>by
 unfold bn at q;cases b:d ε with
 |no=>rw[b]at q;exact q.elim
 |er c o=>refine h F S ε f H Q i ?_;rw[b]at q ⊢;exact q
 |ok s n=>
  cases s with
  |none=>rw[b]at q;exact q.elim
  |val pv=>refine h F S ε f H Q i ?_;rw[b]at q ⊢;exact λB z A t w v I r G=>q B z A t w v r.1
  |own u=>
   refine h.dn.de F S ε f H Q i ?_;unfold dF kr;rw[b]at q ⊢;cases u with
   |lst xs=>exact q
   |dK a=>exact q
   |lls D=>exact q
   |ins C fs=>exact q
   |dT a=>exact q
   |dN a=>exact q
   |inl C fs y xs=>exact q
def kM(d:ak->R Slot):ak->R aK:=λb=>(d b).bind λs a=>.ok (.ret s) a
theorem r8(B:DR X E e d):DS X E pin (.Return (aa e) pos) (kM d):=λF S n f H D u h=>by
 refine jh (AD bI) (B F S n f H _ u ?_);unfold kM at h;cases i:d n with
 |no=>rw[i]at h;exact h.elim
 |er c r=>rw[i]at h;exact λx N J L A C=>h x N J f L A C (jz.refl _ _)
 |ok s q=>rw[i]at h;intro M I K y a v G t o;exact h v M I f K G y ⟨a.fro,a.keep,a.there,a.fnew,λb z=>z.elim (a.onew b) λw=>.inr (o b w).1⟩ (jz.refl _ _) t λb z=>(o b z).2
def jK(d:ak->R Slot):ak->R aK:=λb=>(d b).bind λ_ a=>.ok .next a
theorem pT(o:DR X E e d)(n:kD e ae pos.line X.env=pure aj:=by rfl):DS X E pin (.Expr e pos) (jK d):=λF S c a H D f h=>jh (By bI n) (o F S c a H _ f (h.bindE.imp λx b t r s i w q v z u y=>q t r a s i (bD.refl ..) (jz.refl _ _)))
end
end Pu
namespace L2
section
variable{X:Cx}{l:List (ag×Obj)}{i:St}{H:Hp}{s:am}{d:dH}{x:Str}{j:List Str}{g:List Nat}
theorem OB{A m N:az}{y:Str}{Z G E:Pos}{F k:Nat}{M:V->Hp->St->Prop}{w:List az}{wi:TI}{ts:TT}{te:TE}(B:jD X d x j g)(hk:k<=g.length)(hc:X.calm=ah)(hi:PI X N m wi)(cZ:∀C r t W O,PG (cH X d j C r t W O) N λv L H Q=>∃vs,vs.length=k+1/\L.length=j.length/\M v H vs/\Q (vs++L.drop (k+1)) H)(ht:∀C r t W O,qC (cH X d j C r t W O) w ts) (he:∀C r t W O,PE (cH X d j C r t W O) A te) (hN:X.N.Nodup) (wL:X.N[F]?=aa y) (wM:Loc X.env.scope y) (wN:kD (.ListComp A [⟨N,m,w,0⟩] d G) (aa (.Name y Z)) E.line X.env=pure ah) (hf:X.fn y=ah\/X.env.scope.names.lookup y=aa .local) (hs:∀x,n6 m X.env x=pure x):PS X (.Assign [.Name y Z] (.ListComp A [⟨N,m,w,0⟩] d G) E) (λD i H=>Cu wi M k ts te g i H λv H'=>D.nx (i.set F (aa v)) H'):=by
 intro l s i H D I h;rw[exec_Assign_Name_used _ _ _ _ wN];refine ar (wpAny_standAt (ar ?_));show au _ X.A (do let _ <-comprehension (.ListComp A [⟨N,m,w,0⟩] d G) d X.env _ (newList []) aj (aL m X.env) (aa (qO (.Name y Z) X.env))) _ _ s;refine ar (eG (?_:au _ X.A _ (λ_ s'=>SP X l D .next s') X.xe s) (λ_ s' hq=>aI (aI hq)) λ_ _ e=>e);refine HD (use:=aa (qO (.Name y Z) X.env)) B hk hc hi cZ ht he hs I h λ{J s6 H3 H5 fp σ5 a f} Y f3 I6 q=>?_;obtain⟨mm,hn6,_⟩:=I6.loc;have J6:Inv X l i _ _:=Y.unblock f3 I6 (Heap.SameBut.refl _ _);have P:J.heap.objs.size≠X.env.locals:=λe=>absurd Y.lt (by rw[<-e];exact fG _);have S:∀z c,X.env.cells.lookup z=aa c->c≠J.heap.objs.size:=λz c e e2=>by obtain⟨vv,oo,ho,_⟩:=Y.cell z c e;exact absurd (bR ho) (by rw[e2];exact fG _)
 refine wpAny_assign_Name (Hw (v:=.ref a) J6 hN wL wM rfl (λs7 I7 ⟨a7,sb7,ha7⟩=>?_) hf);have na7:J.heap.objs.size≠a7:=by
  rcases ha7 with z|z
  .rw[z];exact P
  .exact(S _ _ z).symm
 refine⟨mm,hn6.sameBut sb7 na7,λmS sb=>⟨_,_,?_,q⟩⟩;have T:H5 J.heap.objs.size=ae:=I6.free;refine I7.call' (s':={s7 with heap:=mS}) (ch:=[J.heap.objs.size]) rfl ⟨λb o e n hb K=>?_,λb o e n hb K=>?_,λb o e n K=>n,λb o e K=>?_,λb xs e=>e,λb o u e=>e,λb ps e=>e⟩ ?_ I7.bare λb hb=>?_
 .exact(sb.2 b (by simpa using K)).trans e
 .exact⟨o.slots,(sb.2 b (by simpa using K)).trans (by simpa using e)⟩
 .exact⟨o,(sb.2 b (by simpa using K)).trans e⟩
 .intro b u e;refine(I7.hok b u e).stay (λc v hc q=>(sb.2 c ?_).trans q) (λ_ q=>q) λ_ _ q=>q;rintro rfl;rcases hc with z|z
  .rw[<-z,T]at e;cases e
  .rw[T]at z;cases z
 .have e:b=J.heap.objs.size:=by simpa using hb
  subst e;refine⟨.inr Y.sz,P,S,λp hp e2=>?_⟩;obtain⟨e3,_⟩:=Y.pin p hp;exact absurd (bR e3) (by rw[e2];exact fG _)
theorem Ti{n a:az}{y:Str}{p t o f:Pos}{h:Nat}{m:List az}{wi:TI}{ts:TT}{te:TE}(B:jD X d x j g)(J:X.calm=ah)(F:PI X (.Name x p) a wi)(A:∀C b c r q,qC (cH X d j C b c r q) m ts) (I:∀C b c r q,PE (cH X d j C b c r q) n te) (K:X.N.Nodup) (z:X.N[h]?=aa y) (w:Loc X.env.scope y) (u:kD (.ListComp n [⟨.Name x p,a,m,0⟩] d o) (aa (.Name y t)) f.line X.env=pure ah) (G:X.fn y=ah\/X.env.scope.names.lookup y=aa .local) (E:∀x,n6 a X.env x=pure x):PS X (.Assign [.Name y t] (.ListComp n [⟨.Name x p,a,m,0⟩] d o) f) (λD i H=>Ct wi ts te g i H λv L=>D.nx (i.set h (aa v)) L):=OB B (jO _) J F (Eu B) A I K z w u G E
end
end L2
namespace Pu
open L2
def gA(ε:ak):List Nat->Option (List cq)
 |[]=>aa []
 |j::cap=>match ε[j]? with
  |some (.val pv)=>(gA ε cap).map (.inl pv::·)
  |some (.own _)=>(gA ε cap).map (.inr j::·)
  |_=>ae
def gi{b:Type}(cap:List Nat)(d:ak->R b)(x:PV):ak->R b:=λε=>(aE (gA ε cap) ε).bind λa _=>(aE (if(cF a).Nodup then d_ ε (.inl x::a)else ae) ε).bind λc _=>eW ε (.inl x::a) (d c)
def dq{a:Type}(r:R a):R a:=match r with
 |.er _ _=>.no
 |r=>r
def jF(cap:List Nat)(dt:ak->R Bool)(de:ak->R PV):List PV->List PV->ak->R (List PV)
 |[],a,ε=>.ok a ε
 |x::xs,a,ε=>(dq (gi cap dt x ε)).bind λk ε1=>match k with
  |true=>(dq (gi cap de x ε1)).bind λy b=>jF cap dt de xs (a++[y]) b
  |false=>jF cap dt de xs a ε1
def dG(cap:List Nat)(c:ak->R (List PV))(dt:ak->R Bool)(de:ak->R PV):ak->R PO:=λε=>(c ε).bind λxs ε1=>(jF cap dt de xs [] ε1).bind λb a=>.ok (.lst b) a
theorem Ae{K:ay}{F:ag->Prop}{S:Nat->ag->Prop}{f:ak}{d:St}{H:Hp}(r:aZ K F S f d H):∀{b:List Nat}{i:List cq},gA f b=aa i->∃c,jy K d F H i c/\gT d b=c.map aa
 |[],i,h=>by cases h;exact⟨[],rfl,rfl⟩
 |j::b,i,h=>by
  unfold gA at h;split at h
  .rename_i pv e;cases q:gA f b with
   |none=>rw[q]at h;cases h
   |some bs=>
    rw[q]at h;cases h;obtain⟨c,m,l⟩:=Ae r q;obtain⟨v,g,n⟩:=r.val j pv e;refine⟨v::c,⟨v,c,rfl,n,m⟩,?_⟩;show(d[j]?).join::gT d b=_;rw[g,l];rfl
  .rename_i o e;cases q:gA f b with
   |none=>rw[q]at h;cases h
   |some bs=>
    rw[q]at h;cases h;obtain⟨c,m,l⟩:=Ae r q;obtain⟨a,g,n⟩:=r.own j o e;refine⟨.ref a::c,⟨_,c,rfl,g,m⟩,?_⟩;show(d[j]?).join::gT d b=_;rw[g,l];rfl
  .cases h
theorem EE{K:ay}{E:XK}{F:ag->Prop}{S:Nat->ag->Prop}{s:ak}{f:St}{H:Hp}{G:Type}{b:List Nat}{d:ak->R G}{x:PV}{v:V}{C:G->ak->(ag->Prop)->(Nat->ag->Prop)->Hp->Prop}(r:aZ K F S s f H) (N:a_ K H F x v) (h:Ok K E f F S H (dq (gi b d x s)) C):∃L l,aZ K F L l (aa v::gT f b) H/\Ok K E0 (aa v::gT f b) F L H (d l) (λa _ q _ p=>∃j u,aZ K q u j f p/\bD (U S) (U u) F q H p/\C a j q u p):=by
 unfold gi at h;cases B:gA s b with
 |none=>rw[B]at h;exact h.elim
 |some g=>
  rw[B]at h;simp only[cg,R.bind_ok]at h;by_cases y:(cF g).Nodup
  .rw[if_pos y]at h;cases t:d_ s (.inl x::g)with
   |none=>rw[t]at h;exact h.elim
   |some l=>
    rw[t]at h;simp only[cg,R.bind_ok]at h;obtain⟨w,T,Q⟩:=Ae r B;have o:jy K f F H (.inl x::g) (v::w):=⟨v,w,rfl,N,T⟩
    have n:aa v::gT f b=(v::w).map aa:=by rw[Q];rfl
    have m:(cF (.inl x::g)).Nodup:=y;refine⟨ml (.inl x::g) S,l,by rw[n];exact r.cal o t m,?_⟩;rw[n];cases A:d l with
    |no=>rw[A]at h;exact h.elim
    |er c D=>
     rw[A]at h;unfold eW at h;dsimp only at h;by_cases i:fc (.inl x::g) D=ah
     .rw[if_pos i]at h;exact h.elim
     .rw[if_neg i]at h;exact h.elim
    |ok a D=>
     rw[A]at h;intro q u p O P;unfold eW at h;dsimp only at h;by_cases i:fc (.inl x::g) D=ah
     .rw[if_pos i]at h;obtain⟨M,I,J,_⟩:=r.called o t m O P (λ_ z=>z) (nz i);exact⟨_,M,I,J,h q M p I J⟩
     .rw[if_neg i]at h;exact h.elim
  .rw[if_neg y]at h;exact h.elim
def yk(X:Cx)(a:List az):TT:=λb H Q=>Bx (∀d s,Inv X d b H s->au (ax X.prog X.w) X.A (forIn a ah λc r=>if r=ah then do let ok <-nW c X.env (aL c X.env);pure (ForInStep.yield ok)else pure (ForInStep.yield r)) (TP X d b Q) X.xe s)
def DF(X:Cx)(E:XK)(c:List az)(d:ak->R Bool):Prop:=∀F S f a H Q,aZ X.K F S f a H->Ok X.K E a F S H (d f) (λb _ _ _ g=>Q b g)->yk X c a H Q
def eu:ak->R Bool:=λε=>.ok ah ε
theorem oQ{X:Cx}{E:XK}:DF X E [] eu:=λF S d a H Q b h=>⟨λc s I=>NH c s a H Q I (h F S H b (bD.refl ..))⟩
theorem Bs{X:Cx}{E:XK}{c:az}{d:ak->R Bool}(h:DT X E c d):DF X E [c] d:=λF S b a H Q f q=>⟨λg s I=>IG qx g s a H Q I (h F S b a H Q f q)⟩
theorem Ok.bindB{K:ay}{E:XK}{b:St}{F s:ag->Prop}{S n:Nat->ag->Prop}{H p:Hp}{j i:Type}{D:i->ak->(ag->Prop)->(Nat->ag->Prop)->Hp->Prop}{r:R j}{k:j->ak->R i}(h:Ok K E b F S H (r.bind k) D)(g:bD (U S) (U n) F s H p):Ok K E b s n p r (λa d _ _ _=>Ok K E b F S H (k a d) D):=by
 cases r with
 |no=>exact h
 |er c f=>exact λx t o q l m=>h x t o q l (g.trans m)
 |ok a f=>exact λt o q l m=>h
section
variable{X:Cx}{E:XK}{c:dH}{x:Str}{N':List Str}{cap:List Nat}
theorem bD.stay{O a F d:ag->Prop}{H b:Hp}(g:bD O a F d H b){l:ag}{o:HO}(e:H l=aa o)(n:¬O l)(f:¬F l):b l=aa o/\¬d l/\¬a l :=
 ⟨g.keep l o e n,λz=>(g.fnew l z).elim f λw=>w.elim (λq=>by rw[e]at q;cases q) n,λz=>(g.onew l z).elim n λq=>by rw[e]at q;cases q⟩
theorem aZ.lay{K:ay}{F:ag->Prop}{S:Nat->ag->Prop}{i:ak}{h:St}{H:Hp}{l:ag}{o o':HO}(r:aZ K F S i h H)(v:H l=aa o)(no:eK o)(u:¬F l)(nS:¬U S l):bD (λb=>U S b\/b=l) (U S) F F H (L2.upd H l o')/\Fit (λb=>U S b\/b=l) F H/\aZ K F S i h (L2.upd H l o'):=by
 have f:bD (λb=>U S b\/b=l) (U S) F F H (L2.upd H l o'):=⟨λ_ z=>z,λb o e n=>by rw[br λz=>n (.inr z)];exact e,λb o e=>by
  by_cases m:b=l
  .subst m;exact⟨_,upd_same⟩
  .exact⟨o,by rw[br m];exact e⟩,λ_ z=>.inl z,λ_ z=>.inl (.inl z)⟩
 have g:Fit (λb=>U S b\/b=l) F H:=λb z=>by
  rcases z with z|rfl
  .exact r.fit b z
  .exact⟨u,_,v,no⟩
 refine⟨f,g,r.len,λb z=>let ⟨o,q⟩:=r.ex b z;f.there b o q,λj pv e=>?_,λj t e=>?_,λj b z=>?_,r.dist⟩
 .obtain⟨w,d,a⟩:=r.val j pv e;exact⟨w,d,a.grow f g⟩
 .obtain⟨w,d,a⟩:=r.own j t e;refine⟨w,d,a.mono (λ_ _ q=>q.grow f g) (λ_ _ q=>q.grow f g) λb o z q=>?_⟩;rw[br (by rintro rfl;exact nS ⟨j,z⟩)];exact q
 .obtain⟨d,a,o,s,p⟩:=r.foot j b z;exact⟨d,a,o,by rw[br (by rintro rfl;exact nS ⟨j,z⟩)];exact s,p⟩
theorem bD.lay{O d F h:ag->Prop}{H f:Hp}{l:ag}{o':HO}(g:bD O d F h H f)(a:H l=ae):bD O d F h H (L2.upd f l o'):=by
 refine⟨g.fro,λb o e n=>?_,λb o e=>?_,g.fnew,g.onew⟩
 .rw[br (by rintro rfl;rw[a]at e;cases e)];exact g.keep b o e n
 .obtain⟨i,q⟩:=g.there b o e;exact⟨i,by rw[br (by rintro rfl;rw[a]at e;cases e)];exact q⟩
theorem Gw{elt w:az}{px:Pos}{ifs:List az}{di:ak->R (List PV)}{dt:ak->R Bool}{de:ak->R PV}(hi:DI X E (.Name x px) w di)(ht:∀C d f r p,DF (cH X c N' C d f r p) E0 ifs dt) (he:∀C d f r p,DE (cH X c N' C d f r p) E0 elt de){F:ag->Prop}{S:Nat->ag->Prop}{ε:ak}{j:St}{H:Hp}{Q:VK} (rl:aZ X.K F S ε j H) (h:Ok X.K E j F S H (dG cap di dt de ε) (λpo _ s K g=>∀a Sa,fU X.K g s po a Sa->(∀b,Sa b->H b=ae/\¬s b/\¬U K b/\∃o,g b=aa o/\eK o)->Q (.ref a) g)):Ct (tz X (.Name x px) w) (λj H Q=>∀C d f r p,yk (cH X c N' C d f r p) ifs j H Q) (λj H Q=>∀C d f r p,jA (cH X c N' C d f r p) elt j H Q) cap j H Q:=by
 refine hi F S ε j H _ rl ((Ok.bind h).imp λxs ε1 M S1 H1 r1 g1 h1 J vs RR rs hz hw keep l hl=>?_);have h1:=h1.bind;have hvl:vs.length=xs.length:=rs.len;have a0:Al M M H1 (upd H1 l (.lst [])):=Al.new0 hl;have nF1:¬M l:=λz=>by obtain⟨o,q⟩:=r1.ex l z;rw[hl]at q;cases q
 have nS1:¬U S1 l:=λζ=>by obtain⟨i,z⟩:=ζ;obtain⟨_,_,o,q,_⟩:=r1.foot i l z;rw[hl]at q;cases q
 have hH:H l=ae:=oX g1 hl;refine⟨λi m B g=>m=xs.length-i/\i<=xs.length/\∃s K W O,aZ X.K s K W j g/\bD (U S1) (U K) M s H1 g/\g l=aa (.lst B)/\¬s l/\¬U K l/\Reps X.K g s O B/\B.length<=i /\ Ok X.K E j M S1 H1 (jF cap dt de (xs.drop i) O W) (λys' t P S2 L=>Ok X.K E j P S2 L (R.ok (PO.lst ys') t) (λpo _ s K g=>∀a Sa,fU X.K g s po a Sa->(∀b,Sa b->H b=ae/\¬s b/\¬U K b/\∃o,g b=aa o/\eK o)->Q (.ref a) g)),⟨_,rfl,jO _,M,S1,ε1,[],r1.al a0,a0.grow,upd_same,nF1,nS1,rfl,a9 _,h1⟩,?_⟩;rintro i m B L ⟨rfl,hi,P,S2,t,O,N,I,el,nF2,nS2,n,hyl,q2⟩;have RH:=keep S2 P L I;by_cases bg:i<xs.length
 .obtain⟨v,hv⟩:∃v,vs[i]?=aa v:=⟨_,fg ∅⟩
  obtain⟨go,yl⟩:=(hw L RH i).1 v hv;refine .inr ⟨go,λv' g y=>⟨[aa v'],rfl,rfl,?_⟩⟩;obtain⟨e1,e2⟩:=yl v' g y;subst e1 e2;obtain⟨Z,hx,rx⟩:=rs.back hv;have ed:xs.drop i=Z::xs.drop (i+1):=by rw[zL bg];congr 1;exact(d7.mp hx).2
  rw[ed]at q2;have Y:=rx.grow I r1.fit;have q3:=Ok.bindB q2 I;obtain⟨Sb,ss,rb,okb⟩:=EE N Y q3;intro C d f r p;refine ht C d f r p P Sb ss _ g _ rb (okb.imp λb _ F3 _ H3 _ _ ζ=>?_);obtain⟨T,S3,r3,G,q4⟩:=ζ;obtain⟨el3,nF3,nS3⟩:=G.stay el nS2 nF2;cases b with
  |false=>exact qc ⟨_,∅,rfl,bg,F3,S3,T,O,r3,I.trans G,el3,nF3,nS3,n.grow G N.fit,∅,q4⟩
  |true=>refine qB ?_;have q5:Ok X.K E j M S1 H1 ((dq (gi cap de Z T)).bind λy t=>jF cap dt de (xs.drop (i+1)) (O++[y]) t) _:=q4;obtain⟨Sc,sc,rc,okc⟩:=EE r3 (Y.grow G N.fit) (Ok.bindB q5 (I.trans G));intro C d f r p;refine he C d f r p F3 Sc sc _ H3 _ rc (okc.imp λy _ F4 _ H4 _ _ ⟨ε4,S4,r4,g4,q6⟩ u ru=>?_);obtain⟨el4,nF4,nS4⟩:=g4.stay el3 nS3 nF3;have D:=(n.grow G N.fit).grow g4 r3.fit;obtain⟨gl,A,r5⟩:=r4.lay (o':=.lst (B++[u])) el4 trivial nF4 nS4;have g5:=((I.trans G).trans g4).lay (o':=.lst (B++[u])) hl;refine⟨el4,?_,_,∅,rfl,bg,F4,S4,ε4,O++[y],r5,g5,upd_same,nF4,nS4,(D.grow gl A).app (.one (ru.grow gl A)),by simp;lia,q6⟩;lia
 .have e:i=xs.length:=∅
  subst e;refine .inl ⟨(hw L RH _).2 hvl.symm,?_⟩;rw[List.drop_length]at q2;exact q2 P S2 L N I P S2 L N (bD.refl ..) l (λb=>b=l) ⟨⟨B,el,n⟩,λb=>rh⟩ λb z=>by subst z;exact⟨hH,nF2,nS2,_,el,trivial⟩
theorem l7{j d:az}{m pos:Pos}{i:List az}{o:ak->R (List PV)}{dt:ak->R Bool}{de:ak->R PV}(B:jD X c x N' cap)(v:X.calm=ah)(t:DI X E (.Name x m) d o)(q:∀C a b g f,DF (cH X c N' C a b g f) E0 i dt) (u:∀C a b g f,DE (cH X c N' C a b g f) E0 j de) (r:∀x,n6 d X.env x=pure x:=by intro _;rfl):DN X E (.ListComp j [⟨.Name x m,d,i,0⟩] c pos) (dG cap o dt de):=λF S w l H Q p h=>b7 (Gn (wi:=tz X (.Name x m) d) (ts:=λl H Q=>∀C a b g f,yk (cH X c N' C a b g f) i l H Q) (te:=λl H Q=>∀C a b g f,jA (cH X c N' C a b g f) j l H Q) (pos:=pos) B v Cy (λC a b g f n s l H Q I h=>(h C a b g f).run n s I) (λC a b g f n s l H Q I h=>(h C a b g f).run n s I) r) (Gw t q u p h)
end
theorem Mn(x y:Tx):tS x++tS y=tS (x++y):=by
 show(⟨x.toArray++y.toArray⟩:Str)=⟨(x++y).toArray⟩
 simp
def bF:PV->PV->Option PV
 |.int i,.int j=>aa (.int (i+j))
 |.str x,.str y=>if(x++y).length<=bE then aa (.str (x++y))else ae
 |.tup xs,.tup a=>if xs≠[]/\a≠[]/\xs.length+a.length<=1000 then aa (.tup (xs++a))else ae
 |.lst xs,.lst a=>if xs.length+a.length<=bE then aa (.lst (xs++a))else ae
 |_,_=>ae
def iV:PV->PV->Option PV
 |.int i,.int j=>aa (.int (i-j))
 |_,_=>ae
def vC(i:Int):Bool:=decide (-(2^64)<i/\i<2^64)
def lE:PV->PV->Option PV
 |.int i,.int j=>if vC i||vC j then aa (.int (i*j))else ae
 |.str x,.int j=>if 0<=j/\j<=100/\x.length<=100 then aa (.str (bK j.toNat x).flatten)else ae
 |_,_=>ae
def gR:PV->PV->Option PV
 |.int i,.int j=>if 0<j then aa (.int (i % j))else ae
 |_,_=>ae
def uR:PV->PV->Option PV
 |.int i,.int j=>if 0<=j/\j<=1000000/\i.natAbs<2^64 then aa (.int (i^j.toNat))else ae
 |_,_=>ae
def dP:PV->Option PV
 |.int i=>aa (.int (-i))
 |_=>ae
def GV:R2:=λx y H Q=>∃l b xs a,x=.ref l/\y=.ref b/\Rd H l (.lst xs)/\Rd H b (.lst a)/\xs.length+a.length<=bd/\∀p,H p=ae->Q (.ref p) (upd H p (.lst (xs++a)))
def xU(K:ay):R2:=λx y H Q=>((l8 λi j=>V.int (i+j)) x y H Q\/∃i j,x=.str i/\y=.str j/\i.length+j.length<=bd/\Q (.str (i++j)) H)\/(Fs K x y H Q\/GV x y H Q)
def G6:R2:=λx y H Q=>rI BH (λi j=>.int (i*j)) x y H Q\/∃(z:Tx) (n:Nat),x=tV z/\y=.int n/\n<=100/\z.length<=100/\Q (tV (bK n z).flatten) H
section
variable{X:Cx}{K:ay}
theorem sd:P2 K (l8 λi j=>.int (i-j)) iV:=λF H x y v u Q pv b a e q=>by
 unfold iV at e;split at e
 .cases e;exact⟨_,_,b,a,q _ F H (Al.refl ..) rfl⟩
 .cases e
theorem tG:P2 K (rI (λ_ j=>0<j) λi j=>.int (i % j)) gR:=λF H x y v u Q pv b a e q=>by
 unfold gR at e;split at e
 .split at e
  .cases e;exact⟨_,_,b,a,by assumption,q _ F H (Al.refl ..) rfl⟩
  .cases e
 .cases e
theorem Uf:P2 K (rI FS λi j=>.int (i^j.toNat)) uR:=λF H x y v u Q pv b a e q=>by
 unfold uR at e;split at e
 .split at e
  .cases e;exact⟨_,_,b,a,by assumption,q _ F H (Al.refl ..) rfl⟩
  .cases e
 .cases e
theorem my:P1 K (rU λi=>.int (-i)) dP:=λF H x v Q pv a e q=>by
 unfold dP at e;split at e
 .cases e;exact⟨_,a,q _ F H (Al.refl ..) rfl⟩
 .cases e
theorem B2{c:List (ag×Obj)}{b:St}{H:Hp}{s:am}{l:ag}{xs:List V}(I:Inv X c b H s)(h:Rd H l (.lst xs)):∃(a:List ai) (n:Nat),bt xs a/\s.heap.get? l=aa {cls:=.type "list",data:=.seq a.toArray n}/\xs.length<=bd:=by obtain⟨z,a,n,r,e⟩:=h.ok I.hok;exact⟨a,n,r,e,z⟩
theorem Nb:cb X (iX .Add) GV:=by
 intro B s p H x y v u Q I i g h;obtain⟨l,b,xs,t,rfl,rfl,f,j,A,q⟩:=h;cases i;cases g;obtain⟨c,n,r,e,_⟩:=B2 I f;obtain⟨a,w,d,o,_⟩:=B2 I j;have f:=r.length;have z:=d.length;refine PySem.P.add_list e o ?_ (by rw[cr,cr];lia);have m:c.toArray++a.toArray=(c++a).toArray:=by simp
 rw[m];exact⟨.ref _,_,I.lnew (t':=s.toks) (r.append d) (by rw[cQ];lia),rfl,q _ I.fresh⟩
theorem fW:cb X (iX .Add) (xU X.K):=(U7.or MX).or (U1.or Nb)
theorem fP:P2 K (xU K) bF:=λF H x y v u Q pv l j e q=>by
 unfold bF at e;split at e
 .cases e;exact .inl (.inl ⟨_,_,l,j,q _ F H (Al.refl ..) rfl⟩)
 .rename_i x y;split at e
  .rename_i c;cases e;refine .inl (.inr ⟨_,_,l.1,j.1,?_,?_⟩)
   .rw[kP,kP];rw[cQ]at c;exact cP c kq
   .exact q _ F H (Al.refl ..) ⟨by rw[Mn];rfl,c⟩
  .cases e
 .rename_i xs s;split at e
  .rename_i c;cases e;obtain⟨a,n,rfl,r,f⟩:=l;obtain⟨b,m,rfl,o,d⟩:=j;have h:=f.len;have g:=d.len;refine .inr (.inl ⟨a,b,n,m,rfl,rfl,cR.of r,cR.of o,λz=>c.1 (by rw[z]at h;exact ka h.symm),by rw[h,g];exact A6 c.2.2,λz=>absurd (by rw[z]at g;exact ka g.symm) c.2.1,λ_ p i=>?_⟩);exact q _ F _ (Al.new0 i) ⟨p,_,rfl,upd_same,(Al.new0 i).reps (f.app d)⟩
  .cases e
 .rename_i xs s;split at e
  .rename_i c;cases e;obtain⟨a,n,rfl,r,w,f⟩:=l;obtain⟨b,m,rfl,o,t,d⟩:=j;have h:=f.len;have g:=d.len;refine .inr (.inr ⟨a,b,n,m,rfl,rfl,r,o,by rw[h,g];exact cP c kq,λp i=>?_⟩);exact q _ _ _ (Al.new i) ⟨p,_,rfl,.inl upd_same,.inr rfl,(Al.new i).reps (f.app d)⟩
  .cases e
 .cases e
theorem Bh:cb X (iX .Mult) G6:=UU.or Qd
theorem AT:P2 K G6 lE:=λF H x y v u Q pv b a e q=>by
 unfold lE at e;split at e
 .rename_i i j;split at e
  .rename_i h;cases e;refine .inl ⟨_,_,b,a,?_,q _ F H (Al.refl ..) rfl⟩;rw[zA]at h;exact h.imp of_decide_eq_true of_decide_eq_true
  .cases e
 .rename_i x j;split at e
  .rename_i h;cases e;refine .inr ⟨x,j.toNat,b.1,?_,∅,h.2.2,q _ F H (Al.refl ..) ⟨rfl,?_⟩⟩
   .rw[show u=V.int j from a];congr 1;lia
   .rw[Bm];have c:j.toNat<=100:=∅
    exact cP (zB c h.2.2) (by decide)
  .cases e
 .cases e
def fA(f:Int->Int->Bool):PV->PV->Option PV
 |.int i,.int j=>aa (.bl (f i j))
 |_,_=>ae
theorem lA{f:Int->Int->Bool}:P2 K (l8 λi j=>.bl (f i j)) (fA f):=λF H x y v u Q pv b a e q=>by
 unfold fA at e;split at e
 .cases e;exact⟨_,_,b,a,q _ F H (Al.refl ..) rfl⟩
 .cases e
def d9:PV->Option V
 |.non=>aa .non
 |.bl b=>aa (.bl b)
 |.int i=>aa (.int i)
 |.str x=>aa (tV x)
 |_=>ae
theorem jZ{H:Hp}{F:ag->Prop}{x:PV}{v w:V}(r:a_ K H F x v)(e:d9 x=aa w):v=w:=by
 cases x <;> simp[d9]at e <;> subst e
 .exact r
 .exact r
 .exact r
 .exact r.1
theorem rX{x:PV}{w:V}(e:d9 x=aa w):gk w=ah:=by
 cases x <;> simp[d9]at e <;> subst e <;> rfl
mutual
def cT:PV->PV->Option Bool
 |.tup xs,y=>match y with
  |.tup a=>ip xs a
  |_=>ae
 |.lst xs,y=>match y with
  |.lst a=>ip xs a
  |_=>ae
 |.non,y=>(d9 y).map (dU .non)
 |.bl b,y=>(d9 y).map (dU (.bl b))
 |.int i,y=>(d9 y).map (dU (.int i))
 |.str x,y=>(d9 y).map (dU (tV x))
 |.raw _,_=>ae
 |.exc _,_=>ae
def ip:List PV->List PV->Option Bool
 |[],c=>aa c.isEmpty
 |x::xs,c=>match c with
  |[]=>aa aj
  |y::c=>(cT x y).bind λa=>(ip xs c).map λb=>a&&b
end
mutual
def jj:PV->Nat
 |.tup xs=>jq xs+1
 |.lst xs=>jq xs+1
 |_=>0
def jq:List PV->Nat
 |[]=>0
 |x::xs=>max (jj x) (jq xs)
end
theorem IE{H:Hp}{d a:Nat}{x y:V}{k:Bool}(h:je K H d x y k)(l:d<=a):je K H a x y k:=λX g i b s u v A I f c j=>h X g i b s u v A I f c ∅
theorem yn{H:Hp}{F:ag->Prop}{w:V}{y:PV}{u:V}{k:Bool}{d:Nat}(b:gk w=ah)(e:(d9 y).map (dU w)=aa k)(a:a_ K H F y u):je K H d w u k:=by
 cases q:d9 y with
 |none=>rw[q]at e;cases e
 |some z=>
  rw[q]at e;cases e;rw[jZ a q];exact LP b (rX q)
theorem Lj{H:Hp}{a:ag}{xs b:List V}(h:Rd H a (.lst xs))(g:Rd H a (.lst b)):xs=b:=by
 rcases h with h|⟨o,h⟩ <;> rcases g with g|⟨c,g⟩ <;> rw[h]at g <;> cases g <;> rfl
theorem TY{a:Bool}{e:Nat->Bool}{n m:Nat}:gD (λj=>if j=0 then a else e (j-1)) (n+1) (m+1)=(a&&gD e n m):=by
 unfold gD;rw[show min (n+1) (m+1)=min n m+1 by lia,v9,tP,C3,if_pos rfl,Bool.and_assoc];congr 1;congr 1
 .simp
mutual
theorem A3{H:Hp}{F:ag->Prop}:∀(x y:PV) {v:V}{k:Bool},cT x y=aa k->a_ K H F x v->a_ K H F y v->k=ah
 |.tup xs,y,v,k,e,d,c=>by
  unfold cT at e;split at e
  .obtain⟨a,m,rfl,i,f⟩:=d;obtain⟨b,l,j,g,h⟩:=c;cases j;rw[i]at g;cases g;exact BQ xs _ e f h
  .cases e
 |.lst xs,y,v,k,e,d,c=>by
  unfold cT at e;split at e
  .obtain⟨a,m,rfl,i,_,f⟩:=d;obtain⟨b,l,j,g,_,h⟩:=c;cases j;rw[Lj i g]at f;exact BQ xs _ e f h
  .cases e
 |.non,y,v,k,e,d,c=>by
  unfold cT at e;cases q:d9 y with
  |none=>rw[q]at e;cases e
  |some z=>rw[q]at e;cases e;rw[<-jZ c q,show v=V.non from d];rfl
 |.bl b,y,v,k,e,d,c=>by
  unfold cT at e;cases q:d9 y with
  |none=>rw[q]at e;cases e
  |some z=>rw[q]at e;cases e;rw[<-jZ c q,show v=V.bl b from d];exact beq_self_eq_true b
 |.int b,y,v,k,e,d,c=>by
  unfold cT at e;cases q:d9 y with
  |none=>rw[q]at e;cases e
  |some z=>rw[q]at e;cases e;rw[<-jZ c q,show v=V.int b from d];exact beq_self_eq_true b
 |.str b,y,v,k,e,d,c=>by
  unfold cT at e;cases q:d9 y with
  |none=>rw[q]at e;cases e
  |some z=>rw[q]at e;cases e;rw[<-jZ c q,show v=tV b from d.1];exact beq_self_eq_true (tS b)
 |.raw _,_,_,_,e,_,_=>by unfold cT at e;cases e
 |.exc _,_,_,_,e,_,_=>by unfold cT at e;cases e
theorem BQ{H:Hp}{F:ag->Prop}:∀(xs c:List PV) {d:List V}{k:Bool},ip xs c=aa k->Reps K H F xs d->Reps K H F c d->k=ah
 |[],c,d,k,e,h,f=>by
  unfold ip at e;rw[show d=[] from h]at f;have:=f.len;cases c with
  |nil=>cases e;rfl
  |cons=>simp at this
 |x::xs,c,d,k,e,h,f=>by
  unfold ip at e;obtain⟨v,r,rfl,l,j⟩:=h;cases c with
  |nil=>have:=f.len;simp at this
  |cons y c=>
   obtain⟨p,q,o,n,m⟩:=f;cases o;simp only at e;cases g:cT x y with
   |none=>rw[g]at e;cases e
   |some a=>
    cases i:ip xs c with
    |none=>rw[g,i]at e;cases e
    |some b=>
     rw[g,i]at e;cases e;rw[A3 x y g l n,BQ xs c i j m];rfl
end
mutual
theorem Uj{H:Hp}{F:ag->Prop}:∀(x y:PV) {v u:V}{k:Bool},cT x y=aa k->a_ K H F x v->a_ K H F y u->je K H (jj x) v u k
 |.tup xs,y,v,u,k,e,d,c=>by
  have o:=e;unfold cT at e;split at e
  .rename_i h;obtain⟨a,q,rfl,n,j⟩:=id d;obtain⟨b,p,rfl,m,i⟩:=id c;by_cases g:a=b
   .subst g;rw[A3 _ _ o d c];exact EA
   .obtain⟨f,l,rfl⟩:=va xs h e j i;unfold jj;exact MF (cR.of n) (cR.of m) g l
  .cases e
 |.lst xs,y,v,u,k,e,d,c=>by
  have o:=e;unfold cT at e;split at e
  .rename_i h;obtain⟨a,q,rfl,n,_,j⟩:=id d;obtain⟨b,p,rfl,m,_,i⟩:=id c;by_cases g:a=b
   .subst g;rw[A3 _ _ o d c];exact EA
   .obtain⟨f,l,rfl⟩:=va xs h e j i;unfold jj;exact Kt (.inl n) (.inl m) g l
  .cases e
 |.non,y,v,u,k,e,d,c=>by unfold cT at e;rw[show v=V.non from d];exact yn rfl e c
 |.bl b,y,v,u,k,e,d,c=>by unfold cT at e;rw[show v=V.bl b from d];exact yn rfl e c
 |.int b,y,v,u,k,e,d,c=>by unfold cT at e;rw[show v=V.int b from d];exact yn rfl e c
 |.str b,y,v,u,k,e,d,c=>by unfold cT at e;rw[show v=tV b from d.1];exact yn rfl e c
 |.raw _,_,_,_,_,e,_,_=>by unfold cT at e;cases e
 |.exc _,_,_,_,_,e,_,_=>by unfold cT at e;cases e
theorem va{H:Hp}{F:ag->Prop}:∀(xs c:List PV) {d g:List V}{k:Bool},ip xs c=aa k->Reps K H F xs d->Reps K H F c g -> ∃f:Nat->Bool,(∀(j:Nat) x y,d[j]?=aa x->g[j]?=aa y->je K H (jq xs) x y (f j))/\k=gD f d.length g.length
 |[],c,d,g,k,e,m,i=>by
  unfold ip at e;rw[show d=[] from m];refine⟨λ_=>ah,λj x y h=>by simp at h,?_⟩;have:=i.len;cases e;unfold gD;cases c with
  |nil=>simp at this;simp[this]
  |cons=>rw[this];simp
 |x::xs,c,d,g,k,e,m,i=>by
  unfold ip at e;obtain⟨v,r,rfl,z,w⟩:=m;cases c with
  |nil=>
   cases e;rw[show g=[] from i];exact⟨λ_=>ah,λj x y _ h=>by simp at h,by simp[gD]⟩
  |cons y c=>
   obtain⟨u,C,rfl,B,A⟩:=i;simp only at e;cases l:cT x y with
   |none=>rw[l]at e;cases e
   |some a=>
    cases n:ip xs c with
    |none=>rw[l,n]at e;cases e
    |some b=>
     rw[l,n]at e;cases e;obtain⟨f,t,rfl⟩:=va xs c n w A;refine⟨λj=>if j=0 then a else f (j-1),λj p q s o=>?_,by rw[eh,eh,TY]⟩;cases j with
     |zero=>simp at s o;subst s o;show je K H _ _ _ (if(0:Nat)=0 then a else f (0-1));rw[if_pos rfl];exact IE (Uj x y l z B) (by unfold jq;exact Nat.le_max_left _ _)
     |succ j=>show je K H _ _ _ (if j+1=0 then a else f (j+1-1));rw[if_neg ∅];exact IE (t j p q (by simpa using s) (by simpa using o)) (show jq xs<=max (jj x) (jq xs)from Nat.le_max_right _ _)
end
def eqT(neg:Bool)(x y:PV):Option PV:=match d9 x,d9 y with
 |some v,aa u=>if vf v u then aa (.bl (neg^^decide (v=u)))else ae
 |none,ae=>if jj x<=8 then(cT x y).map λk=>.bl (neg^^k)else ae
 |_,_=>ae
def HM(K:ay):R2:=λx y H Q=>G0 x y H Q\/uJ K aj x y H Q
def Ev(K:ay):R2:=λx y H Q=>F6 x y H Q\/uJ K ah x y H Q
theorem vA(a:X.A.units+64<cLine):cb X (eJ .Eq) (HM X.K):=U3.or (KQ a)
theorem l9(a:X.A.units+64<cLine):cb X (eJ .NotEq) (Ev X.K):=Vf.or (QO a)
theorem HN{H:Hp}{F:ag->Prop}{x y:PV}{v u:V}{k:Bool}{Q:VK}{neg:Bool}(g:d9 x=ae)(e:cT x y=aa k)(w:jj x<=8)(t:a_ K H F x v)(s:a_ K H F y u)(q:Q (.bl (neg^^k)) H):uJ K neg v u H Q:=by
 have c:∀{d:Bool},k=d->Q (.bl (if neg=ah then !d else d)) H:=λ{d} z=>by subst z;cases neg <;> simpa using q
 cases x with
 |tup xs=>
  unfold cT at e;split at e
  .rename_i h;obtain⟨a,j,rfl,p,m⟩:=t;obtain⟨b,i,rfl,o,l⟩:=s;obtain⟨f,n,r⟩:=va xs h e m l;unfold jj at w;exact⟨a,b,j,i,jq xs,f,rfl,rfl,.inr ⟨cR.of p,cR.of o⟩,∅,n,c r⟩
  .cases e
 |lst xs=>
  unfold cT at e;split at e
  .rename_i h;obtain⟨a,j,rfl,p,_,m⟩:=t;obtain⟨b,i,rfl,o,_,l⟩:=s;obtain⟨f,n,r⟩:=va xs h e m l;unfold jj at w;exact⟨a,b,j,i,jq xs,f,rfl,rfl,.inl ⟨.inl p,.inl o⟩,∅,n,c r⟩
  .cases e
 |raw _=>unfold cT at e;cases e
 |exc _=>unfold cT at e;cases e
 |non=>cases g
 |bl _=>cases g
 |int _=>cases g
 |str _=>cases g
theorem uO:P2 K (HM K) (eqT aj):=λF H x y v u Q pv g f e q=>by
 unfold eqT at e;split at e
 .rename_i a b d h;split at e
  .rename_i i;cases e;rw[jZ g d,jZ f h];refine .inl ⟨i,?_⟩;have:=q (.bl (decide (a=b))) F H (Al.refl ..) (by simp[a_]);exact this
  .cases e
 .rename_i d h;split at e
  .rename_i j;cases c:cT x y with
   |none=>rw[c]at e;cases e
   |some k=>
    rw[c]at e;cases e;exact .inr (HN (neg:=aj) d c j g f (q _ F H (Al.refl ..) rfl))
  .cases e
 .cases e
theorem mr:P2 K (Ev K) (eqT ah):=λF H x y v u Q pv g f e q=>by
 unfold eqT at e;split at e
 .rename_i a b d h;split at e
  .rename_i i;cases e;rw[jZ g d,jZ f h];refine .inl ⟨i,?_⟩;have:=q (.bl (!decide (a=b))) F H (Al.refl ..) (by simp[a_]);exact this
  .cases e
 .rename_i d h;split at e
  .rename_i j;cases c:cT x y with
   |none=>rw[c]at e;cases e
   |some k=>
    rw[c]at e;cases e;exact .inr (HN (neg:=ah) d c j g f (q _ F H (Al.refl ..) rfl))
  .cases e
 .cases e
end
end Pu
namespace Pu
open L2
section
variable{X:Cx}{K:ay}
def xo(i j:Tx):Bool:=!(CN (tS j) (tS i) 0 (tS j).length 1).isEmpty
def jG:List PV->Option (List V)
 |[]=>aa []
 |x::xs=>(d9 x).bind λv=>(jG xs).map λr=>v::r
theorem uw{H:Hp}{F:ag->Prop}:∀{xs:List PV}{c a:List V},Reps K H F xs c->jG xs=aa a->c=a/\a.all gk=ah
 |[],_,_,r,e=>by cases e;exact⟨r,rfl⟩
 |x::xs,_,a,⟨v,r,rfl,f,d⟩,e=>by
  unfold jG at e;cases q:d9 x with
  |none=>rw[q]at e;cases e
  |some w=>
   cases b:jG xs with
   |none=>rw[q,b]at e;cases e
   |some i=>
    rw[q,b]at e;cases e;obtain⟨h,g⟩:=uw d b;exact⟨by rw[jZ f q,h],by rw[tP,rX q,g];rfl⟩
def sh(neg:Bool):PV->PV->Option PV
 |.str x,.str y=>aa (.bl (neg^^xo x y))
 |x,.lst a=>(d9 x).bind λv=>(jG a).map λb=>.bl (neg^^uW v b)
 |x,.tup a=>(d9 x).bind λv=>(jG a).map λb=>.bl (neg^^uW v b)
 |_,_=>ae
def Ii(K:ay):R2:=λx y H Q=>(∃i j,x=.str i/\y=.str j/\Q (.bl (!(CN j i 0 j.length 1).isEmpty)) H)\/Bg K aj x y H Q
theorem R9:cb X (eJ .In) (Ii X.K):=UY.or Sk
theorem Ft{H:Hp}{F:ag->Prop}{x:PV}{c:List PV}{v:V}{p:ag}{b:List V}{Q:VK}{neg:Bool}{pv:PV}(g:a_ K H F x v)(i:cC K H p b\/cR K H p b)(h:Reps K H F c b)(e:((d9 x).bind λv=>(jG c).map λf=>PV.bl (neg^^uW v f))=aa pv) (q:∀w,a_ K H F pv w->Q w H):Bg K neg v (.ref p) H Q:=by
 cases a:d9 x with
 |none=>rw[a]at e;cases e
 |some w=>
  cases d:jG c with
  |none=>rw[a,d]at e;cases e
  |some f=>
   rw[a,d]at e;cases e;obtain⟨rfl,j⟩:=uw h d;rw[jZ g a];refine⟨p,b,rfl,i,rX a,j,?_⟩;have:=q _ rfl;cases neg <;> simpa using this
theorem Kz:P2 K (Ii K) (sh aj):=λF H x y v u Q pv d c e q=>by
 unfold sh at e;split at e
 .cases e;exact .inl ⟨_,_,d.1,c.1,by have:=q _ F H (Al.refl ..) rfl;simpa[xo]using this⟩
 .obtain⟨a,h,rfl,g,_,f⟩:=c;exact .inr (Ft (neg:=aj) d (.inl (.inl g)) f e λw b=>q w F H (Al.refl ..) b)
 .obtain⟨a,h,rfl,g,f⟩:=c;exact .inr (Ft (neg:=aj) d (.inr (cR.of g)) f e λw b=>q w F H (Al.refl ..) b)
 .cases e
def bx:List PV->Option PV
 |[.str x]=>aa (.int x.length)
 |[.lst xs]=>aa (.int xs.length)
 |[.tup xs]=>aa (.int xs.length)
 |_=>ae
theorem fk{H:Hp}{F:ag->Prop}{x:PV}{a:List V}(r:Reps K H F [x] a):∃v,a=[v]/\a_ K H F x v:=by obtain⟨v,b,rfl,d,c⟩:=r;rw[show b=[] from c];exact⟨v,rfl,d⟩
theorem iA:PL K (λxs H Q=>∃x n,xs=[x]/\Fe K x H n/\Q (.int n) H) bx:=λF H xs h Q pv c e q=>by
 unfold bx at e;split at e
 .cases e;obtain⟨v,rfl,g⟩:=fk c;rw[g.1];exact⟨_,_,rfl,⟨by rw[kP];exact cP g.2 kq,rfl⟩,by rw[kP];exact q _ F H (Al.refl ..) rfl⟩
 .cases e;obtain⟨v,rfl,a,b,rfl,f,_,d⟩:=fk c;exact⟨_,_,rfl,.inl ⟨b,.inl f,rfl⟩,by rw[d.len];exact q _ F H (Al.refl ..) rfl⟩
 .cases e;obtain⟨v,rfl,a,b,rfl,f,d⟩:=fk c;exact⟨_,_,rfl,.inr ⟨b,cR.of f,rfl⟩,by rw[d.len];exact q _ F H (Al.refl ..) rfl⟩
 .cases e
def sO:List PV->Option PO
 |[.lst xs]=>aa (.lst xs)
 |[.tup xs]=>aa (.lst xs)
 |_=>ae
theorem GY:kN K (λxs H Q=>∃p c,xs=[.ref p]/\(cC K H p c\/cR K H p c)/\∀l,H l=ae->Q (.ref l) (upd H l (.lst c))) sO:=λF H xs j Q m i h e q=>by
 unfold sO at e;split at e
 .cases e;obtain⟨v,rfl,a,d,rfl,g,_,f⟩:=fk h;exact⟨a,d,rfl,.inl (.inl g),λl b=>q l F _ _ (Al.new0 b) (sE b f) (sL b i trivial)⟩
 .cases e;obtain⟨v,rfl,a,d,rfl,g,f⟩:=fk h;exact⟨a,d,rfl,.inr (cR.of g),λl b=>q l F _ _ (Al.new0 b) (sE b f) (sL b i trivial)⟩
 .cases e
def mn:List PV->Option PV
 |[.lst xs]=>aa (.tup xs)
 |[.tup xs]=>aa (.tup xs)
 |_=>ae
theorem yV:PL K (λxs H Q=>∃p d,xs=[.ref p]/\((cC K H p d/\∀l,H l=ae->Q (.ref l) (upd H l (.tup d)))\/(cR K H p d/\Q (.ref p) H))) mn:=λF H xs i Q pv g e q=>by
 unfold mn at e;split at e
 .cases e;obtain⟨v,rfl,a,b,rfl,c,_,f⟩:=fk g;exact⟨a,b,rfl,.inl ⟨.inl c,λl h=>q _ F _ (Al.new0 h) ⟨l,b,rfl,upd_same,(Al.new0 h).reps f⟩⟩⟩
 .cases e;obtain⟨v,rfl,a,b,rfl,c,f⟩:=fk g;exact⟨a,b,rfl,.inr ⟨cR.of c,q _ F H (Al.refl ..) ⟨a,b,rfl,c,f⟩⟩⟩
 .cases e
def e_:List PV->Option (List Tx)
 |[]=>aa []
 |.str x::xs=>(e_ xs).map (x::·)
 |_=>ae
def ao(ls:List Tx):List PV:=ls.map .str
theorem p7(a:List Tx):e_ (ao a)=aa a:=by
 induction a with
 |nil=>rfl
 |cons x a b=>show(e_ (ao a)).map (x::·)=_;rw[b];rfl
theorem pU:∀{xs:List PV}{a:List Tx},e_ xs=aa a->xs=ao a
 |[],a,e=>by cases e;rfl
 |.str x::xs,a,e=>by
  unfold e_ at e;cases q:e_ xs with
  |none=>rw[q]at e;cases e
  |some r=>rw[q]at e;cases e;rw[pU q];rfl
 |.non::_,_,e=>by cases e
 |.bl _::_,_,e=>by cases e
 |.int _::_,_,e=>by cases e
 |.tup _::_,_,e=>by cases e
 |.lst _::_,_,e=>by cases e
 |.raw _::_,_,e=>by cases e
 |.exc _::_,_,e=>by cases e
theorem UV{H:Hp}{F:ag->Prop}:∀{a:List Tx}{b:List V},Reps K H F (ao a) b↔b=cO a/\∀x∈a,x.length<=bE
 |[],b=>by simp[ao,Reps,cO]
 |x::a,b=>by
  show(∃v r,b=v::r/\(v=tV x/\x.length<=bE)/\Reps K H F (ao a) r)↔_;constructor
  .rintro⟨v,r,rfl,⟨rfl,f⟩,h2⟩;obtain⟨rfl,d⟩:=UV.mp h2;exact⟨rfl,λy c=>by
    rcases bC.mp c with rfl|c
    .exact f
    .exact d y c⟩
  .rintro⟨rfl,h⟩;exact⟨tV x,cO a,rfl,⟨rfl,h x (by simp)⟩,UV.mpr ⟨rfl,λy c=>h y (by simp[c])⟩⟩
def mZ:List PV->Option (List Bool)
 |[]=>aa []
 |.bl b::xs=>(mZ xs).map (b::·)
 |_=>ae
theorem GA{H:Hp}{F:ag->Prop}:∀{xs:List PV}{a:List V}{bs:List Bool},Reps K H F xs a->mZ xs=aa bs->a=bs.map V.bl
 |[],_,_,r,e=>by cases e;exact r
 |.bl b::xs,_,bs,⟨v,r,rfl,d,c⟩,e=>by
  unfold mZ at e;cases q:mZ xs with
  |none=>rw[q]at e;cases e
  |some f=>rw[q]at e;cases e;rw[GA c q,show v=V.bl b from d];rfl
 |.non::_,_,_,_,e=>by cases e
 |.str _::_,_,_,_,e=>by cases e
 |.int _::_,_,_,_,e=>by cases e
 |.tup _::_,_,_,_,e=>by cases e
 |.lst _::_,_,_,_,e=>by cases e
 |.raw _::_,_,_,_,e=>by cases e
 |.exc _::_,_,_,_,e=>by cases e
def sR:List PV->Option PV
 |[.lst xs]=>(mZ xs).map λbs=>.bl (bs.all id)
 |_=>ae
theorem IM:PL K (λxs H Q=>∃(p:ag) (bs:List Bool),xs=[.ref p]/\cC K H p (bs.map V.bl)/\Q (.bl (bs.all id)) H) sR:=λF H xs h Q pv f e q=>by
 unfold sR at e;split at e
 .rename_i d;cases b:mZ d with
  |none=>rw[b]at e;cases e
  |some bs=>
   rw[b]at e;cases e;obtain⟨v,rfl,a,i,rfl,c,_,g⟩:=fk f;rw[GA g b]at c;exact⟨a,bs,rfl,.inl c,q _ F H (Al.refl ..) rfl⟩
 .cases e
def tw:PV->Option String
 |.non=>aa "NoneType"
 |.bl _=>aa "bool"
 |.int _=>aa "int"
 |.str _=>aa "str"
 |.tup _=>aa "tuple"
 |.lst _=>aa "list"
 |_=>ae
def eF:List PV->Option PV
 |[x,.raw (.ty T)]=>(tw x).bind λt=>(eV [] (.type t) (.type T)).map λb=>.bl b
 |_=>ae
theorem pY:eC X (.builtin "isinstance") (λxs H Q=>∃x t T b,xs=[x,.ty T]/\jo X.K H x (.type t)/\eV X.K (.type t) (.type T)=aa b/\Q (.bl b) H):=by
 intro l s g H xs i Q I r h;obtain⟨x,t,T,b,rfl,ty,e,q⟩:=h;cases r with
 |cons f d=>
  cases d with
  |cons c a=>
   cases a;cases c;exact NB I f ty e λj=>⟨.bl b,H,I.tok _,rfl,q⟩
theorem Oh{H:Hp}{F:ag->Prop}{x:PV}{v:V}{t:String}(r:a_ K H F x v)(e:tw x=aa t):jo K H v (.type t):=by
 cases x with
 |non=>cases e;rw[show v=V.non from r];exact .non
 |bl b=>cases e;rw[show v=V.bl b from r];exact .bl b
 |int b=>cases e;rw[show v=V.int b from r];exact .int b
 |str b=>cases e;rw[show v=tV b from r.1];exact .str _
 |tup xs=>cases e;obtain⟨a,d,rfl,c,_⟩:=r;exact .tup c
 |lst xs=>
  cases e;obtain⟨a,d,rfl,c,_⟩:=r;rcases c with c|⟨o,c⟩
  .exact .lst c
  .exact .frz c
 |raw _=>cases e
 |exc _=>cases e
theorem qw:PL K (λxs H Q=>∃x t T b,xs=[x,.ty T]/\jo K H x (.type t)/\eV K (.type t) (.type T)=aa b/\Q (.bl b) H) eF:=λF H xs i Q pv d e q=>by
 unfold eF at e;split at e
 .rename_i x T;cases a:tw x with
  |none=>rw[a]at e;cases e
  |some t=>
   cases c:eV [] (.type t) (.type T)with
   |none=>rw[a,gG,c]at e;cases e
   |some b=>
    rw[a,gG,c]at e;cases e;obtain⟨v,j,rfl,h,g⟩:=d;obtain⟨u,rfl,f⟩:=fk g;rw[show u=V.ty T from f];exact⟨v,t,T,b,rfl,Oh h a,c,q _ F H (Al.refl ..) rfl⟩
 .cases e
theorem p8{E:XK}{x:Str}{T:String}{f:Pos}(c:X.mg x=ae)(a:eM x=aa (.type T))(d:Gl X x:=by rfl)(b:x≠"__name__":=by decide)(g:(x==("__debug__":Str))=aj:=by decide):DE X E (.Name x f) (dC (.raw (.ty T))):=λF S i h H Q r q=>b7 (Oa (v:=.ty T) d c a rfl b g) (q F S H r (bD.refl ..) _ rfl)
def bG:PV->PV->Option PV
 |.lst xs,.int i=>gB xs i
 |.tup xs,.int i=>gB xs i
 |.str x,.int i=>(gB x i).map λc=>.str [c]
 |_,_=>ae
theorem EJ{H:Hp}{F:ag->Prop}{xs:List PV}{a:List V}{i:Int}{x:PV}(r:Reps K H F xs a)(e:gB xs i=aa x):∃v,gB a i=aa v/\a_ K H F x v:=by
 unfold gB at e ⊢;rw[r.len];cases q:kQ xs.length i with
 |none=>rw[q]at e;cases e
 |some j=>rw[q]at e;exact r.get e
theorem g7:P2 K (HI K) bG:=λF H x y v u Q pv b f e q=>by
 unfold bG at e;split at e
 .rename_i xs i;obtain⟨a,d,rfl,j,_,g⟩:=b;obtain⟨w,m,l⟩:=EJ g e;exact .inl ⟨a,d,i,w,rfl,f,.inl j,m,q _ F H (Al.refl ..) l⟩
 .rename_i xs i;obtain⟨a,d,rfl,j,g⟩:=b;obtain⟨w,m,l⟩:=EJ g e;exact .inr (.inl ⟨a,d,i,w,rfl,f,cR.of j,m,q _ F H (Al.refl ..) l⟩)
 .rename_i x i;cases h:gB x i with
  |none=>rw[h]at e;cases e
  |some c=>
   rw[h]at e;cases e;rw[b.1];exact .inr (.inr ⟨_,i,c,rfl,f,by rw[kP];exact cP b.2 kq,by rw[o7];exact h,q _ F H (Al.refl ..) ⟨rfl,by show 1<=bE;decide⟩⟩)
 .cases e
def eU{a:Type}(xs:List a)(b c:Option Int):List a:=(xs.drop (HT.sIx xs.length 0 b)).take (HT.sIx xs.length xs.length c-HT.sIx xs.length 0 b)
theorem PB{a:Type}(xs:List a)(b c:Option Int):(eU xs b c).length<=xs.length:=by unfold eU;rw[lc,mE];lia
def bZ:PV->Option Int->Option Int->Option PV
 |.str x,a,b=>aa (.str (eU x a b))
 |.lst xs,a,b=>aa (.lst (eU xs a b))
 |.tup xs,a,b=>if HT.sIx xs.length 0 a=0/\HT.sIx xs.length xs.length b=xs.length then ae else aa (.tup (eU xs a b))
 |_,_,_=>ae
def Ge(K:ay):V->Option Int->Option Int->Hp->VK->Prop:=λx a b H Q=>GG x a b H Q\/(F_ K x a b H Q\/Hm K x a b H Q)
theorem iz:nu X (Ge X.K):=UT.or (UW.or Nt)
theorem Fa{H:Hp}{F:ag->Prop}{xs:List PV}{a:List V}(r:Reps K H F xs a)(b c:Option Int):Reps K H F (eU xs b c) (oU a b c):=by unfold eU oU;rw[r.len];exact(r.drop _).take _
theorem ix:GK K (Ge K) bZ:=λF H x h i v Q pv b e q=>by
 unfold bZ at e;split at e
 .cases e;rw[b.1];refine .inl ⟨_,rfl,by rw[kP];exact cP b.2 kq,?_⟩;refine q _ F H (Al.refl ..) ⟨?_,cP (PB ..) b.2⟩;unfold mf eU;rw[kP,o7];rfl
 .cases e;obtain⟨a,f,rfl,g,_,d⟩:=b;exact .inr (.inl ⟨a,f,rfl,.inl g,λp c=>q _ _ _ (Al.new c) ⟨p,_,rfl,.inl upd_same,.inr rfl,(Al.new c).reps (Fa d h i)⟩⟩)
 .split at e
  .cases e
  .rename_i j;cases e;obtain⟨a,f,rfl,g,d⟩:=b;exact .inr (.inr ⟨a,f,rfl,cR.of g,by rw[d.len];exact j,λp c=>q _ _ _ (Al.new0 c) ⟨p,_,rfl,upd_same,(Al.new0 c).reps (Fa d h i)⟩⟩)
 .cases e
variable{E:XK}{g l a b:az}{d:ak->R PV}{m:ak->R (List PV)}{p f:Pos}
def gY:PV->Option (List PV)
 |.lst xs=>aa xs
 |.tup xs=>aa xs
 |.str x=>aa (x.map λc=>.str [c])
 |_=>ae
def bP(d:ak->R PV):ak->R (List PV):=λε=>(d ε).bind λx ε1=>aE (gY x) ε1
theorem AU{H:Hp}{F:ag->Prop}:∀(x:Tx),Reps K H F (x.map λc=>PV.str [c]) (x.map sg)
 |[]=>rfl
 |c::x=>⟨sg c,x.map sg,rfl,⟨rfl,by show 1<=bE;decide⟩,AU x⟩
theorem jn(he:DE X E l d):DI X E g l (bP d):=λF S ε Z H Rr rl h=>Bx.mk λaf s I=>by
 have w:=he F S ε Z H (λv r=>∃B D u x,aZ X.K B D u Z r/\a_ X.K r B x v/\Ok X.K E Z B D r (aE (gY x) u) (λpvs _ F' S' H'=>∀J L RR,Reps X.K H' F' pvs L->L.length<=bd->Walk J L RR->(∀S'' F'' Y,bD (U S') (U S'') F' F'' H' Y->RR Y)->Rr J H')) rl
  ((Ok.bind h).imp λx u B D r G g1 q v N=>⟨B,D,u,x,G,N,q⟩)
 refine aM (w.run af s I) λv c ζ=>?_;obtain⟨x,r,y,rx,B,D,u,pv,G,N,q⟩:=ζ;cases pv with
 |lst xs=>
  obtain⟨a,M,rfl,C,hF,ra⟩:=N;cases rx;obtain⟨O,rr,pp,P⟩:=y.list (.inl C);refine C4 pp.isList ?_;refine⟨c.heap.objs.size,[c.heap.objs.size],_,_,r,rfl,y.kept (t':=c.toks) λb o e=>bu _ e,Pg a _,⟨_,cI _ rfl,rfl,rfl⟩,λb T=>?_,q B D r G (bD.refl ..) (At X.K a) M (λH=>cC X.K H a M) ra P Py λS2 F2 H2 g2=>.inl (g2.lst G.fit hF C)⟩;have e:b=c.heap.objs.size:=by simpa using T
  subst e;exact y.fpOk (a9 _) (y.hok.fresh (a9 _))
 |tup xs=>
  obtain⟨a,M,rfl,C,ra⟩:=N;cases rx;obtain⟨O,rr,pp,P⟩:=y.tuple (cR.of C);refine wpAny_pyIter_tuple (show c.heap.IsTuple a O.toArray from pp) ?_;refine⟨c.heap.objs.size,[c.heap.objs.size],_,_,r,rfl,y.kept (t':=c.toks) λb o e=>bu _ e,Se a _,⟨_,cI _ rfl,rfl,rfl⟩,λb T=>?_,q B D r G (bD.refl ..) (BL X.K a) M (λH=>cR X.K H a M) ra P K4 λS2 F2 H2 g2=>cR.of (g2.imm G.fit C id)⟩;have e:b=c.heap.objs.size:=by simpa using T
  subst e;exact y.fpOk (a9 _) (y.hok.fresh (a9 _))
 |str z=>
  obtain⟨rfl,P⟩:=N;obtain⟨t,rfl⟩:=rx;have qq:Rr (vG (tS z)) r:=q B D r G (bD.refl ..) (vG (tS z)) (z.map sg) (λ_=>True) (AU z) (by rw[cn];exact cP P kq) (by have:=Qw (z:=tS z);rw[o7]at this;exact this) λ_ _ _ _=>trivial;have W:∀(n:String) (j:Nat->aB->Prop),(∀i h,j i h->∃o n L,h.get? c.heap.objs.size=aa o/\o.cls=.type n/\o.data=.fields L /\ ["enumerate","zip","dict_itemiterator","dict_reverseitemiterator","odict_iterator","itertools.zip_longest","itertools.pairwise"].contains n=aj) ->
    (∀(A:aV) (i:Nat) (s:am) (Q:ai->am->Prop) (E:ai->am->Prop),j i s.heap->Q (.ref c.heap.objs.size) s->au (ax X.prog X.w) A (mD (.ref c.heap.objs.size)) Q E s) ->
    (∀A:aV,A.handled=ae->Walks X.prog X.w A c.heap.objs.size [c.heap.objs.size] [c.heap.objs.size] (tS z).cps.size (SignAt (tS z)) j) ->
    j 0 (c.heap.push {cls:=.type n,data:=.fields #[.str (tS z) t,.int 0 0]}) ->
    ux X af Z g Rr (.ref c.heap.objs.size) {c with heap:=c.heap.push {cls:=.type n,data:=.fields #[.str (tS z) t,.int 0 0]}}:=λn j q h2 h3 h4=>by
   refine⟨c.heap.objs.size,[c.heap.objs.size],j,vG (tS z),r,rfl,y.kept (t':=c.toks) λb o e=>bu _ e,RP q h2 h3,h4,λb T=>?_,qq⟩;have e:b=c.heap.objs.size:=by simpa using T
   subst e;exact y.fpOk (a9 _) (y.hok.fresh (a9 _))
  cases C:(tS z).cps.all (· < 128)
  .refine wpAny_pyIter_wide C (W "str_iterator" (λi h=>h.IsStrIter c.heap.objs.size "str_iterator" (tS z) t i) (λi h ⟨o,e1,e2,e3⟩=>⟨o,_,_,e1,e2,e3,by decide⟩) (λA i s Q E st h=>wpAny_pyIter_striter_wide st h) (λA' hA=>Walks.strWide hA _ (tS z) t) ⟨_,cI _ rfl,rfl,rfl⟩)
  .refine wpAny_pyIter_ascii C (W "str_ascii_iterator" (λi h=>h.IsStrIter c.heap.objs.size "str_ascii_iterator" (tS z) t i) (λi h ⟨o,e1,e2,e3⟩=>⟨o,_,_,e1,e2,e3,by decide⟩) (λA i s Q E st h=>wpAny_pyIter_striter_ascii st h) (λA' hA=>Walks.strAscii hA _ (tS z) t) ⟨_,cI _ rfl,rfl,rfl⟩)
 |non=>exact(show False from q).elim
 |bl _=>exact(show False from q).elim
 |int _=>exact(show False from q).elim
 |raw _=>exact(show False from q).elim
 |exc _=>exact(show False from q).elim
def ik(c:Int)(n:Nat):List PV:=(dy n).map λi=>PV.int (c+(i:Nat))
theorem LJ{H:Hp}{F:ag->Prop}(c:Int)(n:Nat):Reps K H F (ik c n) (sG c n):=by
 unfold ik sG
 induction (dy n)with
 |nil=>rfl
 |cons x xs h=>exact⟨_,_,rfl,rfl,h⟩
def nE:List PV->Option (List PV)
 |[.int j]=>if j<=1000000/\-1000000<=j then aa (ik 0 j.toNat)else ae
 |_=>ae
theorem Ar(w:X.mg "range"=ae)(y:DA X E [a] m)(x:Gl X "range":=by rfl)(u:aN [a] X.env=[(aj,aL a X.env)]:=by rfl):DI X E g (.Call (.Name "range" p) [a] [] f) (dL nE m):=λF S o i H I r h=>by
 refine FE (TV x w gX u) (y F S o i H _ r ((Ok.bind h).imp λxs n B z A s G c C t=>?_));unfold nE at c;split at c
 .rename_i j;split at c
  .rename_i D;obtain⟨v,rfl,q⟩:=fk t;refine⟨j,by rw[show v=V.int j from q],∅,∅,c B z A s (bD.refl ..) _ _ _ (LJ 0 j.toNat) (by rw[AK,k_];lia) NP λ_ _ _ _=>trivial⟩
  .exact c.elim
 .exact c.elim
end
section
variable{K:ay}{F:ag->Prop}{S:Nat->ag->Prop}{f:ak}{l:St}{H:Hp}{i:Nat}{p m:List PV}{d:List V}{a:ag}
theorem aZ.lstAt(r:aZ K F S f l H)(e:f[i]?=aa (.own (.lst p))):∃a c,l[i]?=aa (aa (.ref a))/\H a=aa (.lst c)/\Reps K H F p c/\S i a/\∀b,S i b->b=a:=by obtain⟨a,o,⟨c,n,j⟩,g⟩:=r.own i _ e;exact⟨a,c,o,n,j,(g a).mpr rfl,λb h=>(g b).mp h⟩
theorem aZ.upd(r:aZ K F S f l H)(e:f[i]?=aa (.own (.lst p)))(D:l[i]?=aa (aa (.ref a)))(h:Reps K H F m d):aZ K F S (f.set i (.own (.lst m))) l (upd H a (.lst d))/\bD (U S) (U S) F F H (upd H a (.lst d)):=by
 obtain⟨N,J,E,M,L,x,B⟩:=r.lstAt e;rw[D]at E;cases E;have A:i<f.length:=(d7.mp e).1;have g:bD (U S) (U S) F F H (L2.upd H a (.lst d)):=⟨λ_ z=>z,λb o q n=>by rw[br (by rintro rfl;exact n ⟨i,x⟩)];exact q,λb o q=>by
  by_cases C:b=a
  .subst C;exact⟨_,upd_same⟩
  .exact⟨o,by rw[br C];exact q⟩,λ_ z=>.inl z,λ_ z=>.inl z⟩
 refine⟨⟨by rw[g_];exact r.len,λb z=>let ⟨o,q⟩:=r.ex b z;g.there b o q,λj pv q=>?_,λj y q=>?_,λj b z=>?_,r.dist⟩,g⟩
 .have s:i≠j:=by rintro rfl;rw[gF A]at q;cases q
  rw[fe s]at q;obtain⟨v,u,t⟩:=r.val j pv q;exact⟨v,u,t.grow g r.fit⟩
 .by_cases s:i=j
  .subst s;rw[gF A]at q;cases q;exact⟨a,D,⟨d,upd_same,h.grow g r.fit⟩,λb=>⟨B b,λz=>by rw[z];exact x⟩⟩
  .rw[fe s]at q;obtain⟨c,u,t⟩:=r.own j y q;refine⟨c,u,t.mono (λ_ _ z=>z.grow g r.fit) (λ_ _ z=>z.grow g r.fit) λb o z w=>?_⟩;rw[br (by rintro rfl;exact s (r.dist i j b x z))];exact w
 .obtain⟨⟨y,u⟩,t,o,I,G⟩:=r.foot j b z;by_cases s:i=j
  .subst s;rw[B b z];exact⟨⟨_,gF A⟩,by rw[<-B b z];exact t,_,upd_same,trivial⟩
  .exact⟨⟨y,by rw[fe s];exact u⟩,t,o,by rw[br (by rintro rfl;exact s (r.dist i j b x z))];exact I,G⟩
end
section
variable{X:Cx}{E:XK}{pin:List Nat}{e b:az}{de db:ak->R PV}{d:Pos}
def eE(a:ak)(i:Nat):Option (List PV):=match a[i]? with
 |some (.own (.lst xs))=>aa xs
 |_=>ae
theorem ji{a:ak}{i:Nat}{xs:List PV}(h:eE a i=aa xs):a[i]?=aa (.own (.lst xs)):=by
 unfold eE at h;split at h
 .cases h;assumption
 .cases h
def nB(i:Nat)(de:ak->R PV):ak->R aK:=λc=>(aE (eE c i) c).bind λ_ c=>(de c).bind λy a=>(aE (eE a i) a).bind λxs a=>if xs.length<bE then .ok .next (a.set i (.own (.lst (xs++[y]))))else .no
theorem Bt(i:Nat){x:Str}{p f c:Pos}(M:DE X E e de)(P:X.N[i]?=aa x:=by rfl)(J:eD X.env.scope x:=by first|exact Or.inl rfl|exact Or.inr (Or.inl rfl)|exact Or.inr (Or.inr rfl))(N:(x==("__debug__":Str))=aj:=by decide)(bv:(x==("__classdict__":Str))=aj:=by decide) (Y:j9 (.Name x p) "append" X.env (aL (.Name x p) X.env)=aL (.Name x p) X.env:=by rfl)(W:((c_ c (aN [e] X.env)).all (λx=>!x.1)&&(qW c (qX [] X.env)).all (λx=>x.1.isSome)&&decide ([e].length+([]:List jN).length+(if([]:List jN).isEmpty then 0 else 1)<30))=ah:=by rfl)(T:(f.endLine == c.line)=ah:=by rfl) (w:aN [e] X.env=(aj,aL e X.env)::aN [] X.env:=by rfl) (Q:(c_ c (aN [] X.env)).any (·.1)=aj:=by rfl)(K:kD (.Call (.Attribute (.Name x p) "append" f) [e] [] c) ae d.line X.env=pure aj:=by rfl):DS X E pin (.Expr (.Call (.Attribute (.Name x p) "append" f) [e] [] c) d) (nB i de):=λF S r o H D s h=>by
 unfold nB at h;cases n:eE r i with
 |none=>rw[n]at h;exact h.elim
 |some z=>
  rw[n]at h;simp only[cg,R.bind_ok]at h;obtain⟨a,A,m,O,_,_,_⟩:=s.lstAt (ji n);refine jh (By (vx C_ PySem.F.slot_list_append PySem.F.type_list_append GT (fE P J N bv) (iQ bI j6 w) Y W T w Q) K) ⟨.ref a,m,.inl ⟨rfl,_,cC.of O⟩,?_⟩;refine M F S r o H _ s (h.bindE.imp λy l F1 S1 H1 u g1 q v C=>?_);cases j:eE l i with
  |none=>rw[j]at q;exact q.elim
  |some xs=>
   rw[j]at q;simp only[cg,R.bind_ok]at q;obtain⟨a',B,g,I,t,_,_⟩:=u.lstAt (ji j);rw[m]at g;cases g;split at q
   .rename_i L;obtain⟨G,Z⟩:=u.upd (ji j) m (t.app (.one C));exact⟨a,B,v,rfl,rfl,I,by rw[t.len];exact fY L kq,q F1 S1 o _ G Z (jz.refl _ _)⟩
   .exact q.elim
def O_:V->List V->Hp->VK->Prop:=λx c H Q=>∃l b xs a,x=.ref l/\c=[.ref b]/\H l=aa (.lst xs)/\Rd H b (.lst a)/\xs.length+a.length<=bd/\Q .non (L2.upd H l (.lst (xs++a)))
theorem PY:vM X "list.extend" O_:=by
 intro L s A H x C v D Q I j m h;obtain⟨l,b,xs,B,rfl,rfl,i,t,J,q⟩:=h;cases j;obtain⟨u,rfl,o⟩:=m.one;cases o;obtain⟨z,c,n,r,K,e⟩:=I.lstM i;obtain⟨a,p,g,w,_⟩:=B2 I t;have G:=g.length;have f:c.toArray.size+a.toArray.size<=bd:=by rw[cr,cr];lia
 have y:¬(!c.toArray.isEmpty&&Je (c.toArray.size+a.toArray.size))=ah:=by rw[RA f,Bool.and_false];exact fq
 refine tR F.slot_list_extend ⟨_,e,rfl⟩ F.entry_list_extend (F.args_list_extend_2 _ _)
  (AutoSeq1.list_extend_list_list_0 l c.toArray n b a.toArray p y (by rw[cr];lia) ∅) ⟨e,w,?_⟩
 refine⟨.non,_,I.lset (its':=c++a) i e (by simp) (r.append g) ?_,rfl,q⟩;rw[cQ];lia
def yv(i:Nat)(de:ak->R PV):ak->R aK:=λc=>(aE (eE c i) c).bind λ_ c=>(de c).bind λy a=>(aE (eE a i) a).bind λxs a=>match y with
 |.lst f=>if xs.length+f.length<=bE then .ok .next (a.set i (.own (.lst (xs++f))))else .no
 |_=>.no
theorem Gd(i:Nat){x:Str}{p g f:Pos}(P:DE X E e de)(Y:X.N[i]?=aa x:=by rfl)(M:eD X.env.scope x:=by first|exact Or.inl rfl|exact Or.inr (Or.inl rfl)|exact Or.inr (Or.inr rfl))(Q:(x==("__debug__":Str))=aj:=by decide)(bv:(x==("__classdict__":Str))=aj:=by decide) (h1:j9 (.Name x p) "extend" X.env (aL (.Name x p) X.env)=aL (.Name x p) X.env:=by rfl)(h2:((c_ f (aN [e] X.env)).all (λx=>!x.1)&&(qW f (qX [] X.env)).all (λx=>x.1.isSome)&&decide ([e].length+([]:List jN).length+(if([]:List jN).isEmpty then 0 else 1)<30))=ah:=by rfl)(h3:(g.endLine == f.line)=ah:=by rfl) (A:aN [e] X.env=(aj,aL e X.env)::aN [] X.env:=by rfl) (Z:(c_ f (aN [] X.env)).any (·.1)=aj:=by rfl)(N:kD (.Call (.Attribute (.Name x p) "extend" g) [e] [] f) ae d.line X.env=pure aj:=by rfl):DS X E pin (.Expr (.Call (.Attribute (.Name x p) "extend" g) [e] [] f) d) (yv i de):=λF S s r H D t h=>by
 unfold yv at h;cases o:eE s i with
 |none=>rw[o]at h;exact h.elim
 |some B=>
  rw[o]at h;simp only[cg,R.bind_ok]at h;obtain⟨a,C,n,W,_,_,_⟩:=t.lstAt (ji o);refine jh (By (vx C_ PySem.F.slot_list_extend PySem.F.type_list_extend PY (fE Y M Q bv) (iQ bI j6 A) h1 h2 h3 A Z) N) ⟨.ref a,n,.inl ⟨rfl,_,cC.of W⟩,?_⟩;refine P F S s r H _ t (h.bindE.imp λy m F1 S1 H1 z g1 q v J=>?_);cases l:eE m i with
  |none=>rw[l]at q;exact q.elim
  |some xs=>
   rw[l]at q;simp only[cg,R.bind_ok]at q;obtain⟨a',G,j,L,w,_,_⟩:=z.lstAt (ji l);rw[n]at j;cases j;split at q
   .rename_i ys;split at q
    .rename_i O;obtain⟨c,I,rfl,T,_,u⟩:=J;obtain⟨K,g2⟩:=z.upd (ji l) n (w.app u);exact⟨a,c,G,I,rfl,rfl,L,T,by rw[w.len,u.len];exact cP O kq,q F1 S1 r _ K g2 (jz.refl _ _)⟩
    .exact q.elim
   .exact q.elim
def za(i:Nat)(db de:ak->R PV):ak->R aK:=λf=>(de f).bind λy c=>(aE (eE c i) c).bind λ_ c=>(db c).bind λk a=>(aE (eE a i) a).bind λxs a=>match k with
 |.int k=>match kQ xs.length k with
  |some j=>.ok .next (a.set i (.own (.lst (xs.set j y))))
  |none=>.no
 |_=>.no
theorem Qs(i:Nat){x:Str}{p c:Pos}(Y:DE X E b db)(T:DE X E e de)(hN:X.N[i]?=aa x:=by rfl)(O:eD X.env.scope x:=by first|exact Or.inl rfl|exact Or.inr (Or.inl rfl)|exact Or.inr (Or.inr rfl))(W:(x==("__debug__":Str))=aj:=by decide)(bv:(x==("__classdict__":Str))=aj:=by decide) (ha:∀v,qO (.Subscript (.Name x p) b c) X.env v=(do
   let ov <-nZ [v] (aL (.Name x p) X.env)
   let iv <-nZ [v,ov] (aL b X.env)
   standAt c
   nZ [v,ov,iv] (setItem ov iv v)
   release [v,ov,iv] []):=by intro _;rfl) (P:swapsWithSole [.Subscript (.Name x p) b c] e d.line X.env=pure aj:=by rfl) (N:swappedStores [.Subscript (.Name x p) b c] e X.env=pure ae:=by rfl)
  (h1:(assignEach [.Subscript (.Name x p) b c] X.env).map (·.2)=[qO (.Subscript (.Name x p) b c) X.env]:=by rfl):DS X E pin (.Assign [.Subscript (.Name x p) b c] e d) (za i db de):=λF S A n H D K h=>by
 refine jh (Oc bI (J9 (fE hN O W bv) bI Tq ha) P N h1) (T F S A n H _ K (h.bindE.imp λy g F1 S1 H1 r g1 q v I=>?_));cases t:eE g i with
 |none=>rw[t]at q;exact q.elim
 |some B=>
  rw[t]at q;simp only[cg,R.bind_ok]at q;obtain⟨a,C,s,Z,_,_,_⟩:=r.lstAt (ji t);refine⟨.ref a,s,Y F1 S1 g n H1 _ r (q.bindE.imp λk o F2 S2 H2 z g2 f u J=>?_)⟩;cases m:eE o i with
  |none=>rw[m]at f;exact f.elim
  |some xs=>
   rw[m]at f;simp only[cg,R.bind_ok]at f;obtain⟨a',G,l,M,w,_,_⟩:=z.lstAt (ji m);rw[s]at l;cases l;split at f
   .rename_i k;split at f
    .rename_i j Q;obtain⟨L,g3⟩:=z.upd (ji m) s (w.set (I.grow g2 r.fit) j);exact⟨a,G,k,j,rfl,J,M,by rw[w.len];exact Q,f F2 S2 n _ L g3 (jz.refl _ _)⟩
    .exact f.elim
   .exact f.elim
end
mutual
def imm:PV->Bool
 |.lst _=>aj
 |.tup xs=>nr xs
 |_=>ah
def nr:List PV->Bool
 |[]=>ah
 |x::xs=>imm x&&nr xs
end
mutual
theorem a_.imm{K:ay}{H:Hp}{F g:ag->Prop}:∀(x:PV) {v:V},imm x=ah->a_ K H F x v->a_ K H g x v
 |.non,_,_,h=>h
 |.bl _,_,_,h=>h
 |.int _,_,_,h=>h
 |.str _,_,_,h=>h
 |.raw _,_,_,h=>h
 |.exc _,_,_,h=>h
 |.lst _,_,e,_=>by simp[Pu.imm]at e
 |.tup xs,_,e,⟨a,b,f,d,c⟩=>⟨a,b,f,d,Reps.imm xs (by simpa[Pu.imm]using e) c⟩
theorem Reps.imm{K:ay}{H:Hp}{F g:ag->Prop}:∀(xs:List PV) {a:List V},nr xs=ah->Reps K H F xs a->Reps K H g xs a
 |[],_,_,h=>h
 |x::xs,_,e,⟨v,r,f,d,c⟩=>by
  have b:imm x=ah/\nr xs=ah:=by simpa[nr]using e
  exact⟨v,r,f,a_.imm x b.1 d,Reps.imm xs b.2 c⟩
end
section
variable{K:ay}{F:ag->Prop}{S:Nat->ag->Prop}{d:ak}{c:St}{H:Hp}{i:Nat}{f:List PV}
theorem aZ.look(r:aZ K F S d c H)(e:d[i]?=aa (.own (.lst f))):∃a,c[i]?=aa (aa (.ref a))/\¬F a/\a_ K H (λb=>F b\/b=a) (.lst f) (.ref a)/\(∀b,F b\/b=a->∃o,H b=aa o) /\ (∀{h g},Al (λb=>F b\/b=a) h H g->Al F (λb=>h b/\b≠a) H g):=by
 obtain⟨a,m,q,l,p,n,s⟩:=r.lstAt e;have j:¬F a:=(r.foot i a n).2.1;refine⟨a,q,j,⟨a,m,rfl,.inl l,.inr rfl,Reps.mono (λ_ z=>.inl z) (λ_ _ _ z=>z) (λ_ _ z _=>z) _ _ p⟩,λb z=>z.elim (r.ex b) λz=>by rw[z];exact⟨_,l⟩,λ{h g} al=>⟨λb z=>⟨al.fro b (.inl z),by rintro rfl;exact j z⟩,al.same,λb z=>?_⟩⟩;rcases al.fnew b z.1 with(w|w)|w
 .exact .inl w
 .exact absurd w z.2
 .exact .inr w
end
section
variable{X:Cx}{E:XK}{e b:az}{de db:ak->R PV}{d p:Pos}{x y:Str}{l T:String}{r:List V->Hp->VK->Prop}{f:List PV->Option PV}{g:List PV->Option PO}
def qd(o:Option PV):Option PV:=o.bind λv=>if imm v then aa v else ae
theorem KB{o:Option PV}{v:PV}(h:qd o=aa v):o=aa v/\imm v=ah:=by
 cases o with
 |none=>cases h
 |some w=>
  have h:(if imm w then aa w else ae)=aa v:=h;split at h
  .cases h;exact⟨rfl,by assumption⟩
  .cases h
def HA:PO->Bool
 |.lst xs=>nr xs
 |_=>aj
def kx{c:Type}(f:List PV->Option c)(i:Nat):ak->R c:=λa=>(aE (eE a i) a).bind λxs a=>aE (f [.lst xs]) a
theorem TR{F:ag->Prop}{S:Nat->ag->Prop}{m:ak}{j:St}{H:Hp}{Q:VK}{i:Nat}(A:PL X.K r f)(s:aZ X.K F S m j H)(h:Ok X.K E j F S H (kx (λxs=>qd (f xs)) i m) (λpv _ u _ c=>∀v,a_ X.K c u pv v->Q v c)):∃a,j[i]?=aa (aa (.ref a))/\r [.ref a] H Q:=by
 unfold kx at h;cases q:eE m i with
 |none=>rw[q]at h;exact h.elim
 |some xs=>
  rw[q]at h;simp only[cg,R.bind_ok]at h;obtain⟨a,C,I,z,B,t⟩:=s.look (ji q);refine⟨a,C,?_⟩;cases o:qd (f [.lst xs])with
  |none=>rw[o]at h;exact h.elim
  |some pv=>rw[o]at h;obtain⟨G,D⟩:=KB o;exact A _ H [.lst xs] [.ref a] Q pv (.one z) G λw u c al n=>h _ S c (s.al (t al)) (t al).grow w (a_.imm pv D n)
theorem Hj(i:Nat)(z:eC X (.builtin l) r)(s:PL X.K r f)(u:X.mg x=ae)(n:eM x=aa (.builtin l))(A:X.N[i]?=aa y:=by rfl)(D:eD X.env.scope y:=by first|exact Or.inl rfl|exact Or.inr (Or.inl rfl)|exact Or.inr (Or.inr rfl))(w:(y==("__debug__":Str))=aj:=by decide) (G:(y==("__classdict__":Str))=aj:=by decide) (v:Gl X x:=by rfl) (t:x≠"__name__":=by decide) (m:(x==("__debug__":Str))=aj:=by decide) {c:Pos}(h:aN [.Name y c] X.env=(aj,aL (.Name y c) X.env)::aN [] X.env:=by rfl) (C:(c_ d (aN [] X.env)).any (·.1)=aj:=by rfl):DE X E (.Call (.Name x p) [.Name y c] [] d) (kx (λxs=>qd (f xs)) i):=λF S J I H Q j q=>by obtain⟨a,B,o⟩:=TR s j q;exact b7 (pe z v u n (iQ (fE A D w G) j6 h) t m h C) ⟨_,B,o⟩
def sW(o:Option PO):Option PO:=o.bind λv=>if HA v then aa v else ae
theorem RY{F:ag->Prop}{S:Nat->ag->Prop}{s:ak}{q:St}{H:Hp}{Q:VK}{i:Nat}(hp:kN X.K r g)(v:aZ X.K F S s q H)(h:Ok X.K E q F S H (kx (λxs=>sW (g xs)) i s) (λA _ I S' n=>∀a t,fU X.K n I A a t->(∀b,t b->H b=ae/\¬I b/\¬U S' b/\∃o,n b=aa o/\eK o)->Q (.ref a) n)):∃a,q[i]?=aa (aa (.ref a))/\r [.ref a] H Q:=by
 unfold kx at h;cases G:eE s i with
 |none=>rw[G]at h;exact h.elim
 |some xs=>
  rw[G]at h;simp only[cg,R.bind_ok]at h;obtain⟨a,ea,nF,W,B,L⟩:=v.look (ji G);refine⟨a,ea,?_⟩;cases D:g [.lst xs]with
  |none=>rw[D]at h;exact h.elim
  |some A=>
   rw[D]at h;cases A with
   |dK m=>exact h.elim
   |lls ki=>exact h.elim
   |ins C fs=>exact h.elim
   |dT m=>exact h.elim
   |dN m=>exact h.elim
   |inl C fs y xs=>exact h.elim
   |lst u=>
    have h:Ok X.K E q F S H (aE (if nr u then aa (PO.lst u)else ae) s) _:=h;split at h
    .rename_i hi;refine hp _ H [.lst xs] [.ref a] Q _ B (.one W) D λc I n t al Y fr=>h _ S n (v.al (L al)) (L al).grow c t ?_ λb z=>?_
     .obtain⟨⟨P,o1,o2⟩,Z⟩:=Y;exact⟨⟨P,o1,Reps.imm u hi o2⟩,Z⟩
     .obtain⟨J,O,o,N,M⟩:=fr b z;refine⟨J,λw=>O w.1,λ⟨j,w⟩=>?_,o,N,M⟩;obtain⟨_,_,o',K,_⟩:=v.foot j b w;rw[J]at K;cases K
    .exact h.elim
theorem QA(i:Nat)(z:eC X (.builtin l) r)(s:kN X.K r g)(u:X.mg x=ae)(n:eM x=aa (.builtin l))(A:X.N[i]?=aa y:=by rfl)(D:eD X.env.scope y:=by first|exact Or.inl rfl|exact Or.inr (Or.inl rfl)|exact Or.inr (Or.inr rfl))(w:(y==("__debug__":Str))=aj:=by decide) (G:(y==("__classdict__":Str))=aj:=by decide) (v:Gl X x:=by rfl) (t:x≠"__name__":=by decide) (m:(x==("__debug__":Str))=aj:=by decide) {c:Pos}(h:aN [.Name y c] X.env=(aj,aL (.Name y c) X.env)::aN [] X.env:=by rfl) (C:(c_ d (aN [] X.env)).any (·.1)=aj:=by rfl):DN X E (.Call (.Name x p) [.Name y c] [] d) (kx (λxs=>sW (g xs)) i):=λF S J I H Q j q=>by obtain⟨a,B,o⟩:=RY s j q;exact b7 (pe z v u n (iQ (fE A D w G) j6 h) t m h C) ⟨_,B,o⟩
end
end Pu
namespace Pu
open L2
def lr(h:aB)(e T:ag)(c g:ai):Prop:=∃a b f d,h.get? e=aa a/\a.cls=c/\(a.data=.fields b/\a.dict=ae)/\b[1]?=aa (.ref T)/\T≠e/\h.get? T=aa f/\f.data=.fields d/\d[3]?=aa g
def Made(h:aB)(e:ag)(c:ai):Prop:=∃a b,h.get? e=aa a/\a.cls=c/\(a.data=.fields b/\a.dict=ae)/\b[1]?=aa .none
structure Kp(fs:List ag)(X:ag->Prop)(h h':aB):Prop where
 keep:∀b o,h.get? b=aa o->b∉fs->¬X b->h'.get? b=aa o
 slot:∀b o,h.get? b=aa o->b∈fs->¬X b->∃sl,h'.get? b=aa {o with slots:=sl}
 there:∀b o,h.get? b=aa o->∃o',h'.get? b=aa o'
theorem Kp.trans{fs:List ag}{X Y:ag->Prop}{h g f:aB}(a:Kp fs X h g)(b:Kp fs Y g f):Kp fs (λc=>X c\/Y c) h f where
 keep:=λc o e n x=>b.keep c o (a.keep c o e n λz=>x (.inl z)) n λz=>x (.inr z)
 slot:=λc o e n x=>by obtain⟨j,e1⟩:=a.slot c o e n λz=>x (.inl z);obtain⟨d,i⟩:=b.slot c _ e1 n λz=>x (.inr z);exact⟨d,i⟩
 there:=λc o e=>let ⟨o',e'⟩:=a.there c o e;b.there c o' e'
theorem Kp.imp{fs d:List ag}{X Y:ag->Prop}{h j:aB}(a:Kp fs X h j)(f:∀b,b∈fs->b∈d)(g:∀b o,h.get? b=aa o->X b->Y b):Kp d Y h j where
 keep:=λc o e n x=>a.keep c o e (λz=>n (f c z)) λz=>x (g c o e z)
 slot:=λc o e n x=>by
  by_cases i:c∈fs
  .exact a.slot c o e i λz=>x (g c o e z)
  .exact⟨o.slots,a.keep c o e i λz=>x (g c o e z)⟩
 there:=a.there
theorem NA(f:Array ai->Array ai)(o:Obj):(om f o).dict=o.dict:=by
 obtain⟨c,d,dt,a⟩:=o;cases dt <;> rfl
section
variable{M:Model}{A:aV}{E:ai->am->Prop}{s:am}
theorem FH{y:aB}{l:Env}{g:List Env}{L e:ag}{v:Obj}{F:Array ai}{z:ai}{UA:Bool}{Q:Unit->am->Prop}(Z:A.frames=aa (l::g)) (O:s.heap.FunFrames y (l::g)) (hf:l.frame=aa L) (P:s.heap.get? e=aa v) (H:v.data=.fields F) (Y:v.dict=ae) (u:1<F.size)(h:∀J T,Kp (fR (l::g)) (λb=>b=e) s.heap J->lr J e T v.cls .none->s.heap.objs.size<=T->Q () {s with heap:=J}):au M A (do let a <-frameOf l;let r <-entryPlaceOf L UA;let b <-EntryCells.newEntry z a .none (ez L) .none r;ol (.ref e) 1 b) (λ_ X=>au M A (zM (.ref e) ae) Q E X) E s:=by
 have w:e∉(l::g).filterMap (·.frame):=λhm=>by obtain⟨_,o,D,W⟩:=O.mem hm;rw[P]at D;injection D with D;subst D;exact W F H
 refine ar (wpAny_frameOf_fun Z O hf λc d=>?_);refine ar (wpAny_entryPlaceOf λr S=>?_);unfold EntryCells.newEntry newFields;refine ar (n_ ?_ (S.sizeOk5 _ _ _ _ _));have n:c.get? e=aa v:=(d.2.1 e w).trans P;have m:=bu (h:=c) {cls:=.type "traceback",dict:=ae,data:=.fields ([z,.ref L,.none,ez L,.none]++(if r.isEmpty then bK 6 Value.none else r)).toArray} n;refine t7 m H u ?_;have B:c.objs.size≠e:=mC (bR n);have j:=wd H (·.setIfInBounds 1 (Value.ref c.objs.size));have i:=pA (om (·.setIfInBounds 1 (Value.ref c.objs.size))) m (Da j);have p:=(pB (c.push {cls:=.type "traceback",dict:=ae,data:=.fields ([z,.ref L,.none,ez L,.none]++(if r.isEmpty then bK 6 Value.none else r)).toArray}) (om (·.setIfInBounds 1 (Value.ref c.objs.size))) (ef B)).trans (cI c rfl);unfold zM;refine ar (qT i j (x:=.ref c.objs.size) (by simp[u]) ?_);rw[if_pos (show(Value.ref c.objs.size != Value.none)=ah from by simp)];refine t7 p rfl (by simp only[cr,cQ,eh,j_] <;> lia) (h _ c.objs.size ?_ ?_ ?_)
 .have keep:∀b o,b≠e->c.get? b=aa o ->
    (((c.push {cls:=.type "traceback",dict:=ae,data:=.fields ([z,.ref L,.none,ez L,.none]++(if r.isEmpty then bK 6 Value.none else r)).toArray}).update e (om (·.setIfInBounds 1 (Value.ref c.objs.size)))).update c.objs.size (om (·.setIfInBounds 3 ((ae:Option ag).elim Value.none λf=>ez f)))).get? b=aa o:=λb o C t=>by
   have I:c.objs.size≠b:=mC (bR t);rw[pB _ _ I,pB _ _ (ef C)];exact bu _ t
  refine⟨λb o t N G=>keep b o G ((d.2.1 b N).trans t),λb o t N G=>?_,λb o t=>?_⟩
  .obtain⟨K,q⟩:=d.2.2 b o t;exact⟨K,keep b _ G q⟩
  .by_cases C:b=e
   .subst C;exact⟨_,(pB _ _ B).trans i⟩
   .obtain⟨K,q⟩:=d.2.2 b o t;exact⟨_,keep b _ C q⟩
 .refine⟨_,_,_,_,(pB _ _ B).trans i,Obj.cls_mapFields _ _,⟨j,by rw[NA];exact Y⟩,by simp[u],B,pA _ p (Da (wd rfl _)),wd rfl _,by first | (simp;done) | (rcases S with rfl|⟨_,_,_,_,_,_,_,rfl⟩ <;> simp)⟩
 .exact mG d.1.symm
theorem QD{f:aB}{d:Env}{a:List Env}{L e:ag}{c:ai}{Q:Unit->am->Prop}(o:A.frames=aa (d::a))(q:s.heap.FunFrames f (d::a))(i:d.frame=aa L)(p:Made s.heap e c)(h:∀g T,Kp (fR (d::a)) (λb=>b=e) s.heap g->lr g e T c .none->s.heap.objs.size<=T->Q () {s with heap:=g}):au M A (leaving d (.ref e)) Q E s:=by obtain⟨u,t,j,r,⟨l,n⟩,m⟩:=p;subst r;unfold leaving noteFrame;simp only[i];refine ar (ar (qT j l m ?_));rw[if_neg (by decide)];exact FH o q i j l n (qY.mp m).1 h
theorem G5{l:aB}{g:Env}{outer:List Env}{L e T:ag}{c:ai}{Q:Unit->am->Prop}(G:A.frames=aa (g::outer))(K:s.heap.FunFrames l (g::outer))(t:g.frame=aa L)(I:lr s.heap e T c .none)(h:∀j T',Kp (fR (g::outer)) (λb=>b=e\/b=T) s.heap j->lr j e T' c .none->s.heap.objs.size<=T'->Q () {s with heap:=j}):au M A (noteFrame (.ref e) g) (λ_ B=>au M A (zM (.ref e) ae) Q E B) E s:=by
 obtain⟨P,r,S,y,u,D,⟨v,C⟩,x,F,n,m,w⟩:=I;subst D;unfold noteFrame;simp only[t];refine ar (qT u v x ?_);rw[if_pos (show(Value.ref T != Value.none)=ah from by simp)];refine ar (qT n m w ?_);rw[if_neg (show ¬((Value.none == ez L)=ah)from by simp[ez])];refine ar (t7 n m (qY.mp w).1 ?_);have a:∀b,b≠T->(s.heap.update T (om (·.setIfInBounds 3 Value.none))).get? b=s.heap.get? b:=λb d=>pB _ _ (ef d);have f:∀b o,s.heap.get? b=aa o->(∀r,o.data≠.fields r)->b≠T:=λb o d p q=>by rw[q,n]at d;injection d with d;subst d;exact p y m
 refine FH G (K.of_keeps λb o d p=>⟨o,(a b (f b o d p)).trans d,rfl⟩) t ((a e (ef F)).trans u) v C (qY.mp x).1 λj T' k N J=>?_;have H:Kp (fR (g::outer)) (λb=>b=T) s.heap (s.heap.update T (om (·.setIfInBounds 3 Value.none))):=by
  refine⟨λb o d _ i=>(a b i).trans d,λb o d _ i=>⟨o.slots,(a b i).trans d⟩,λb o d=>?_⟩;by_cases i:b=T
  .subst i;exact⟨_,pA _ n (Da (wd m _))⟩
  .exact⟨o,(a b i).trans d⟩
 refine h j T' ((H.trans k).imp (λ_ z=>z) λb o _ z=>z.symm) N ?_;have O:(s.heap.update T (om (·.setIfInBounds 3 Value.none))).objs.size<=T':=J;rwa[Jt]at O
theorem Sy{f:aB}{d:Env}{a:List Env}{L e T:ag}{c:ai}{Q:Unit->am->Prop}(j:A.frames=aa (d::a))(m:s.heap.FunFrames f (d::a))(n:d.frame=aa L)(l:lr s.heap e T c .none)(h:∀g i,Kp (fR (d::a)) (λb=>b=e\/b=T) s.heap g->lr g e i c .none->s.heap.objs.size<=i->Q () {s with heap:=g}):au M A (leaving d (.ref e)) Q E s:=by unfold leaving;exact ar (G5 j m n l h)
theorem R_{e T:ag}{c C:ai}{Q:Unit->am->Prop}(z:lr s.heap e T c C)(h:∀l,Kp [] (λb=>b=T) s.heap l->lr l e T c .none->Q () {s with heap:=l}):au M A (zM (.ref e) ae) Q E s:=by
 obtain⟨y,u,D,v,n,x,⟨p,w⟩,r,m,q,j,B⟩:=z;have t:3<v.size:=(qY.mp B).1;have a:∀b,b≠T->(s.heap.update T (om (·.setIfInBounds 3 ((ae:Option ag).elim Value.none λf=>ez f)))).get? b=s.heap.get? b:=λb g=>pB _ _ (ef g);have d:=pA (om (·.setIfInBounds 3 ((ae:Option ag).elim Value.none λf=>ez f))) q (Da (wd j _));unfold zM;refine ar (qT n p r ?_);rw[if_pos (show(Value.ref T != Value.none)=ah from by simp)];refine t7 q j t (h _ ⟨λb o g _ i=>(a b i).trans g,λb o g _ i=>⟨o.slots,(a b i).trans g⟩,λb o g=>?_⟩ ⟨y,u,_,_,(a e (ef m)).trans n,x,⟨p,w⟩,r,m,d,wd j _,by simp[t]⟩);by_cases i:b=T
 .subst i;exact⟨_,d⟩
 .exact⟨o,(a b i).trans g⟩
end
def cm(P:aS)(w:aG):gz:=λb H s E e s'=>∃(a T:ag) (c:ai) (d:Hp),e=.ref a/\s'.os=s.os/\nV s'.gens/\Un (fR b) [] H d s.heap s'.heap/\dz P w d s'.heap/\lr s'.heap a T c .none /\
 (s.heap.get? a=ae/\s.heap.get? T=ae/\d a=ae/\d T=ae)/\E c ae d
theorem Kr{P:aS}{w:aG}{H:Hp}{h:aB}{a:ag}{o:HO}(x:cz P w H h a o):∃u,h.get? a=aa u:=by
 cases o with
 |lst xs=>obtain⟨_,_,_,_,e⟩:=x;exact⟨_,e⟩
 |tup xs=>obtain⟨_,_,_,⟨o,e,_⟩,_⟩:=x;exact⟨_,e⟩
 |dK b=>obtain⟨_,_,_,_,o,_,_,e,_⟩:=x;exact⟨_,e⟩
 |dT b=>obtain⟨_,_,_,_,o,_,_,e,_⟩:=x;exact⟨_,e⟩
 |dN b=>obtain⟨_,_,_,_,o,_,_,e,_⟩:=x;exact⟨_,e⟩
 |set S n=>obtain⟨o,_,_,_,e,_⟩:=x;exact⟨_,e⟩
 |ins C l fs=>obtain⟨_,_,_,e,_⟩:=x;exact⟨_,e⟩
 |own y=>exact x
 |xd fs=>obtain⟨_,⟨_,_,_,e,_⟩,_⟩:=x;exact⟨_,e⟩
 |rng i j=>obtain⟨_,_,_,e⟩:=x;exact⟨_,e⟩
 |frz g u=>obtain⟨e,_⟩:=x;exact⟨_,e⟩
 |tbl d=>obtain⟨_,e,_⟩:=x;exact⟨_,e⟩
 |met f y=>exact⟨_,x⟩
 |ext c=>obtain⟨_,e,_⟩:=x;exact e
theorem MM{P:aS}{w:aG}{H:Hp}{h:aB}{a:ag}(x:dz P w H h)(e:h.get? a=ae):H a=ae:=by
 cases q:H a with
 |none=>rfl
 |some u=>obtain⟨o,z⟩:=Kr (x a u q);rw[e]at z;cases z
theorem tq{fs:List ag}{H c:Hp}{h b:aB}{a:ag}(u:Un fs [] H c h b)(e:b.get? a=ae):h.get? a=ae:=by
 cases q:h.get? a with
 |none=>rfl
 |some o=>obtain⟨d,z⟩:=u.there a o q (by simp);rw[e]at z;cases z
theorem B_{fs a:List ag}{H p:Hp}{h l j:aB}{X:ag->Prop}(u:Un fs [] H p h l)(k:Kp a X l j)(r:∀b o,h.get? b=aa o->b∈a->b∈fs)(g:∀b o,h.get? b=aa o->¬X b):Un fs [] H p h j where
 keep:=λb o e n d c=>k.keep b o (u.keep b o e n d c) (λz=>d (r b o e z)) (g b o e)
 slot:=λb o e n d c=>by
  obtain⟨q,m⟩:=u.slot b o e n d c;by_cases i:b∈a
  .obtain⟨f,s⟩:=k.slot b _ m i (g b o e);exact⟨f,s⟩
  .exact⟨q,k.keep b _ m i (g b o e)⟩
 free:=u.free
 there:=λb o e c=>let ⟨o',e'⟩:=u.there b o e c;k.there b o' e'
 tups:=u.tups
 frzs:=u.frzs
 tbls:=u.tbls
theorem Bi{P:aS}{w:aG}{fs:List ag}{H:Hp}{h d:aB}{X:ag->Prop}(x:dz P w H h)(k:Kp fs X h d)(f:∀b∈fs,H b=ae)(g:∀b,X b->H b=ae):dz P w H d:=λb u e=>
 (x b u e).stay (λc v a q=>k.keep c v q (λz=>by
   have:=f c z;rcases a with rfl|a
   .rw[e]at this;cases this
   .rw[a]at this;cases this) λz=>by
   have:=g c z;rcases a with rfl|a
   .rw[e]at this;cases this
   .rw[a]at this;cases this) (λ_ q=>q) λ_ _ q=>q
section
variable{P:aS}{w:aG}{K:ay}{n:Str->Option ai}{l:aB}{N:List Str}{j:Str}{g:dH}{f:ag}{p:ai}{A:aV}{i:List Env}{d:am}{m:Hp}{E:XK}
theorem cL:sN (cm P w) (iO (cm P w) P w K n l N j g f p A i d m E) E:=λaf X H s e s' I h=>by
 obtain⟨a,T,c,W,rfl,G,J,un,y,O,⟨Q,S,F,Y⟩,M⟩:=h;have r:=I.call' (s':=s') (ch:=[]) G un y J (λb z=>absurd z (by simp));refine Sy (L:=d.heap.objs.size) I.ok.frames r.stack rfl O λZ D k B x=>?_;have qp:(iO (cm P w) P w K n l N j g f p A i d m E).ex=[]:=rfl;have u:d.heap.get? a=ae:=tq I.base Q;have C:d.heap.get? T=ae:=tq I.base S;have v:d.heap.get? D=ae:=tq r.base (vQ x);have t:∀b o,d.heap.get? b=aa o->b≠a/\b≠T:=λb o e=>⟨(by rintro rfl;rw[u]at e;cases e),(by rintro rfl;rw[C]at e;cases e)⟩
 refine⟨a,D,c,W,rfl,r.os,r.bare,B_ r.base k (λb o e z=>?_) (λb o e z=>z.elim (t b o e).1 (t b o e).2),Bi r.hok k r.stkFree (λb z=>by rcases z with rfl|rfl <;> assumption),B,⟨u,v,F,r.hok.fresh x⟩,M⟩;rcases bC.mp (I.stkSub b z)with q|q
 .exact absurd (bR e) (by rw[q];exact fG _)
 .exact q
end
section
variable{X:Cx}{E:XK}{pin:List Nat}{e:az}{de:ak->R PV}{x:Str}{C:ag}{i:List ai}{d f B:String}{l g j:Pos}
def DU(X:Cx)(E:XK):Prop:=∀(n:List (ag×Obj)) (m:St) (H:Hp) (s:am) (a:ag) (c:ai) (h:aB),Inv X n m H s->(∀b o,s.heap.get? b=aa o->h.get? b=aa o)->Made h a c->s.heap.get? a=ae->(E c ae H)->X.xe (.ref a) {s with heap:=h}
def oW(c:ai)(de:ak->R PV):ak->R aK:=λb=>(de b).bind λ_ a=>.er c a
theorem PH{h c:aB}{e:ag}{a:ai}{b:List ai}(m:Heap.MadeExcOf h c e a b):Made c e a:=by obtain⟨t,n,_,_⟩:=m.there;exact⟨_,_,n,rfl,⟨rfl,rfl⟩,rfl⟩
theorem Bz(hx:DU X E)(hc:X.calm=ah)(O:OwnCls x C i d X.mg X.base)(P:ExcBaseFacts B d f i)(he:DE X.nox E0 e de)(hg:Gl X x:=by rfl)(hd:(x==("__debug__":Str))=aj:=by decide)(L:aN [e] X.env=[(aj,aL e X.env)]:=by rfl):DS X E pin (.Raise (aa (.Call (.Name x l) [e] [] g)) ae j) (oW (.ref C) (λt=>dq (de t))):=λF S t n H D Y q=>Bx.mk λM s I=>by
 obtain⟨Q,N,nm,Z,bs,hdct,sn,sub,ab,col,dd,k0,k1,k2,k3,k5,mN,hC,hN,G,T⟩:=O.obj;refine wpAny_Raise_call_subT (C:=C) (nm:=nm) (q:=Z) (N:=N) (bs:=bs) (bm:=Q) (hdct:=hdct) (sn:=sn) (sub:=sub) (ab:=ab) (col:=col) (dd:=dd) (k0:=k0) (k1:=k1) (k2:=k2) (k3:=k3) (k5:=k5)
  P (mN:=mN) (T.hasType P.hasBase) (I.ok.hd hc) (by rw[L];rfl) G (tE I hg O.bound ⟨rfl,?_⟩ hd)
 have q2:Ok X.K E0 n F S H (de t) (λ_ b r o p=>iw X.K E pin n r o p (.er (.ref C) b) D):=by
  have q:iw X.K E pin n F S H ((dq (de t)).bind λ_ b=>.er (.ref C) b) D:=q;cases J:de t with
  |no=>rw[J]at q;exact q.elim
  |er c y=>rw[J]at q;exact q.elim
  |ok v y=>rw[J]at q;exact λF' S' H' r' g'=>q.from g' (jz.refl _ _)
 rw[L];refine CV (eG (tK (eG ((he F S t n H (λv p=>∃r o b,aZ X.K r o b n p/\iw X.K E pin n r o p (.er (.ref C) b) D) Y (q2.imp λv b r o p K g1 h v' rv=>⟨r,o,b,K,h⟩)).run M s (I.wish _)) (λu W ⟨v,p,w,K,r,o,b,A,ok⟩=>?_) λ_ _ z=>z.elim)) (λ_ _ z=>z) λ_ _ z=>z);have w:=w.unwish;refine zq ⟨rfl,(by show 1<=bd;decide),w.bk _ _ hC,hN.keeps w.bk,T.keeps w.bk,λh' a m=>?_⟩;exact hx M n p W a (.ref C) h' w m.keeps (PH m) m.new (ok ae r o n p A (bD.refl ..) (jz.refl _ _))
end
section
variable{P:aS}{w:aG}{K:ay}{m:Str->Option ai}{j:aB}{N:List Str}{i:Str}{g:dH}{f:ag}{n:ai}{A:aV}{h:List Env}{d:am}{l:Hp}{E:XK}
theorem Ap:DU (iO (cm P w) P w K m j N i g f n A h d l E) E:=λJ C H s a c y I F D new G=>by
 have p:Inv _ J C H {s with heap:=y}:=I.kept (t':=s.toks) F;refine QD (s:={s with heap:=y}) (L:=d.heap.objs.size) I.ok.frames p.stack rfl D λM B k v u=>?_;have r:d.heap.get? a=ae:=tq I.base new;have t:d.heap.get? B=ae:=tq p.base (vQ u);have x:H a=ae:=MM I.hok new;refine⟨a,B,c,H,rfl,p.os,p.bare,B_ p.base k (λb o e z=>?_) (λb o e z=>by rw[show b=a from z,r]at e;cases e),Bi p.hok k p.stkFree (λb z=>by rw[show b=a from z];exact x),v,⟨r,t,x,p.hok.fresh u⟩,G⟩;rcases bC.mp (I.stkSub b z)with q|q
 .exact absurd (bR e) (by rw[q];exact fG _)
 .exact q
end
section
variable{X:Cx}{f:List (ag×Obj)}{a:St}{H:Hp}{s:am}
theorem M4{M:Model}{A:aV}{E:ai->am->Prop}{i:Nat}{x:Str}{v:V}{Q:Unit->am->Prop}(I:Inv X f a H s)(hN:X.N.Nodup)(S:X.N[i]?=aa x)(F:X.env.scope.names.lookup x=aa .local)(N:a[i]?=aa (aa v))(h:∀s',Inv X f (a.set i ae) H s'->Q () s'):au M A (unbindName X.env x) Q E s:=by
 obtain⟨m,O,P⟩:=id I.loc;have oy:(X.env.scope.kind == .class||(X.env.scope.kind == .module&&X.env.locals != X.env.globals))=aj:=by rw[I.ok.kind];rfl
 have r:i<a.length:=(d7.mp N).1;obtain⟨u,_,lk⟩:=P i x v S N (.inl F);have hm:m x=aa u:=by
  rcases lk with⟨_,z⟩|⟨z,_⟩
  .exact z
  .have z:X.env.scope.names.lookup x=aa .cell\/X.env.scope.names.lookup x=aa .free:=z;rcases z with z|z <;> rw[F]at z <;> cases z
 refine wpAny_unbindName_local F O hm oy λh' u' D l=>?_;obtain⟨oL,_,_,ug,_⟩:=id O;have C:∀b o,X.s₀.heap.get? b=aa o->h'.get? b=s.heap.get? b:=λb o e=>l.2 b (c8 (fY (bR e) I.ok.above));refine h _ ⟨I.ok,I.os,I.bare,⟨λb o e n J g=>(C b o e).trans (I.base.keep b o e n J g),λb o e n J g=>?_,I.base.free,λb o e g=>?_,I.base.tups,I.base.frzs,I.base.tbls⟩,⟨_,D,λj y W T B e3=>?_⟩,λy c e=>?_,I.free,I.freeC,λp hp=>?_,λb ob e=>?_,by rw[g_];exact I.len⟩
 .obtain⟨Y,q⟩:=I.base.slot b o e n J g;exact⟨Y,(C b o e).trans q⟩
 .obtain⟨o',q⟩:=I.base.there b o e g;exact⟨o',(C b o e).trans q⟩
 .by_cases G:j=i
  .subst G;rw[gF r]at B;cases B
  .rw[fe (ef G)]at B;obtain⟨w,Z,q⟩:=P j y W T B e3;refine⟨w,Z,?_⟩;rcases q with⟨k,e⟩|⟨k,c,e,z⟩
   .have:y≠x:=λe=>G (Ao hN T (e ▸ S));exact .inl ⟨k,by simp[this,e]⟩
   .exact .inr ⟨k,c,e,z.sameBut l (I.cne y c e)⟩
 .obtain⟨K,z⟩:=I.cell y c e;exact⟨K,z.sameBut l (I.cne y c e)⟩
 .obtain⟨e,n,L,nf,d⟩:=I.pin p hp;exact⟨(l.2 p.1 L).trans e,n,L,nf,d⟩
 .refine(I.hok b ob e).stay (λc K t q=>(l.2 c ?_).trans q) (λ_ q=>q) λ_ _ q=>q;rintro rfl;rcases t with rfl|t
  .rw[I.free]at e;cases e
  .rw[I.free]at t;cases t
end
def XP(X:Cx)(g:List (ag×Obj))(d:St)(h:ai->Hp->Prop)(e:ai)(f:am):Prop:=∃a b,Inv X g d b a/\cm X.prog X.w X.stack b a (λc _ i=>h c i) e f
def DX(X:Cx)(e:az)(d:ak->R Slot):Prop :=
 ∀F S h a H Q (i:ai->Hp->Prop),aZ X.K F S h a H->Ok X.K (λc _ f=>i c f) a F S H (d h) (λs _ l m f=>∀v j,nG X.K f l s v j->(∀b,j b->H b=ae/\¬l b/\¬U m b/\∃o,f b=aa o/\eK o)->Q v f) ->
  ∀g s,Inv X g a H s->au (ax X.prog X.w) X.A (aL e X.env) (EP X g a Q) (XP X g a i) s
section
variable{X:Cx}{e:az}{a:List az}{l:ak->R (List cq)}{j:Pos}{x:Str}{k:Nat}{m:List Str}{g:ak->R Slot}{p:Pos}{d:ak->R Slot}
def yq(g:ak->R Slot)(l:ak->R (List cq)):ak->R Slot:=λf=>(dq (l f)).bind λc b=>(aE (if(cF c).Nodup then d_ b c else ae) b).bind λh b=>eW b c (g h)
theorem L7(c:cN (cm X.prog X.w) X.prog X.w X.K X.mg X.base x k m (bJ X.K g))(hr:Room k X.A)(ha:DG X.nox E0 (e::a) l)(hg:Gl X x:=by rfl)(hd:(x==("__debug__":Str))=aj:=by decide) (h1:aN (e::a) X.env=(aj,aL e X.env)::aN a X.env:=by rfl) (h2:(c_ j (aN a X.env)).any (·.1)=aj:=by rfl):DX X (.Call (.Name x p) (e::a) [] j) (yq g l):=λF S ε M H Q XE rl h af s I=>by
 obtain⟨f,fd,hm,Fn,hb,hk⟩:=c.ex;have q0:Ok X.K E0 M F S H (l ε) (λt n C D B=>Ok X.K (λc _ A=>XE c A) M C D B ((aE (if(cF t).Nodup then d_ n t else ae) n).bind λN n=>eW n t (g N)) (λs _ E Y A=>∀v K,nG X.K A E s v K->(∀b,K b->H b=ae/\¬E b/\¬U Y b/\∃o,A b=aa o/\eK o)->Q v A)):=by
  unfold yq at h;cases e0:l ε with
  |no=>rw[e0]at h;exact h.elim
  |er c ε'=>rw[e0]at h;exact h.elim
  |ok t n=>rw[e0]at h;exact λC D B G g1=>Ok.from h g1
 refine tN (tE I hg hm ?_ hd);have wa:=(ha F S ε M H (λO B=>∃C D n t,aZ X.K C D n M B/\jy X.K M C B t O/\(∀b,B b=ae->H b=ae)/\Ok X.K (λc _ A=>XE c A) M C D B ((aE (if(cF t).Nodup then d_ n t else ae) n).bind λN n=>eW n t (g N)) (λs _ E Y A=>∀v K,nG X.K A E s v K->(∀b,K b->H b=ae/\¬E b/\¬U Y b/\∃o,A b=aa o/\eK o)->Q v A)) rl (q0.imp λt n C D B G g1 q O W=>⟨C,D,n,t,G,W,λb z=>oX g1 z,q⟩)).run j af s (I.wish _);refine IW (h₀:=X.base) I.ok.mod.kin hk (eG wa (λZ s1 ⟨O,B,L,r,C,D,n,t,G,W,fb,q⟩=>⟨L.unwish.kIn,?_⟩) λ_ _ z=>z.elim) h1 h2;have L:=L.unwish;have q:=Ok.bind q;by_cases P:(cF t).Nodup
 .rw[if_pos P]at q;cases a:d_ n t with
  |none=>rw[a]at q;exact q.elim
  |some N=>
   rw[a]at q;have q:=q C D B G (bD.refl ..);dsimp only at q;have iH:bJ X.K g O B Q (λc _ A=>XE c A):=by
    refine⟨C,ml t D,N,G.cal W a P,?_⟩;cases eg:g N with
    |no=>rw[eg]at q;exact q.elim
    |er cv aO=>
     rw[eg]at q;intro y E Y A r' g';unfold eW at q;dsimp only at q;by_cases J:fc t aO=ah
     .rw[if_pos J]at q;obtain⟨S2,r2,g2,_⟩:=G.called W a P r' g' (λ_ z=>z) (nz J);exact q ae E S2 A r2 g2
     .rw[if_neg J]at q;exact q.elim
    |ok sl aO=>
     rw[eg]at q;intro v E Y A K r' g' rv lo fr;unfold eW at q;dsimp only at q;by_cases J:fc t aO=ah
     .rw[if_pos J]at q;obtain⟨S2,r2,g2,u2⟩:=G.called W a P r' g' (λ_ z=>.inl z) (nz J);refine q E S2 A r2 g2 v K rv λb z=>⟨fb b (fr b z),(lo b z).1,λw=>?_,(lo b z).2.2⟩
      rcases u2 b w with w|⟨i,w⟩
      .exact(lo b z).2.1 w
      .obtain⟨_,_,o,y1,_⟩:=G.foot i b w;rw[fr b z]at y1;cases y1
     .rw[if_neg J]at q;exact q.elim
   have hl:Z.length=m.length:=by rw[<-r.length];exact Fn.len _ _ _ _ iH
   refine tL (n8 (Fn.run X.A X.stack s1 B ⟨Z,[]⟩ Z O Q _ hr L.env0 (by have:=hb s1 Z L.kIn (by rw[f8];exact hl);rwa[f8]at this) r iH) λrr s' T=>?_);cases rr with
   |error er=>exact⟨s1,B,L,T⟩
   |ok fl=>
    cases fl with
    |ret u=>exact L.after T
    |next=>exact iE T
    |brk=>exact iE T
    |cont=>exact iE T
 .rw[if_neg P]at q;exact q.elim
end
abbrev hand(X:Cx)(a:ag):Cx:={X with A:=X.A.mark (aa (.ref a)),calm:=aj,xe:=λ_ _=>False}
section
variable{X:Cx}{c:List (ag×Obj)}{b:St}{H:Hp}{s:am}{a:ag}
theorem Inv.hand(I:Inv X c b H s)(d:(X.A.mark (aa (.ref a))).frames=X.A.frames:=by rfl):Inv (Pu.hand X a) c b H s :=
 ⟨⟨I.ok.mod,I.ok.kind,I.ok.glob,I.ok.blt,I.ok.above,I.ok.inj,I.ok.has,I.ok.cab,(λz=>by cases z),d.trans I.ok.frames,I.ok.stk,I.ok.exf,I.ok.bs,I.ok.bsz,I.ok.noex,I.ok.exfs,I.ok.funs,I.ok.frf,I.ok.tab⟩,I.os,I.bare,I.base,I.loc,I.cell,I.free,I.freeC,I.pin,I.hok,I.len⟩
theorem Inv.unhand(I:Inv (Pu.hand X a) c b H s)(ok:X.Ok):Inv X c b H s:=⟨ok,I.os,I.bare,I.base,I.loc,I.cell,I.free,I.freeC,I.pin,I.hok,I.len⟩
end
def Under(h:aB)(D:ag)(c:ai):Prop:=∃C g N j q bs b i d s f r p o n m l a,c=.ref C/\h.get? C=aa (Db j q C N bs g b i d s f r p o n m l a)/\(Value.ref C::g).contains (.ref D)=ah
def qG(h:aB)(D:ag):Prop:=∃f N i q bs b g c r d p o n m l j a,h.get? D=aa (Db i q D N bs f b g c r d p o n m l j a)/\f.contains (.type "BaseException")=ah
theorem Under.keeps{h d:aB}{D:ag}{c:ai}(x:Under h D c)(k:∀b o,h.get? b=aa o->d.get? b=aa o):Under d D c:=by obtain⟨C,bm,N,nm,q,bs,hdct,sn,sub,ab,col,dd,k0,k1,k2,k3,k5,a,e,g,f⟩:=x;exact⟨C,bm,N,nm,q,bs,hdct,sn,sub,ab,col,dd,k0,k1,k2,k3,k5,a,e,k _ _ g,f⟩
theorem qG.keeps{h c:aB}{D:ag}(x:qG h D)(k:∀b o,h.get? b=aa o->c.get? b=aa o):qG c D:=by obtain⟨bm,N,nm,q,bs,hdct,sn,sub,ab,col,dd,k0,k1,k2,k3,k5,a,f,d⟩:=x;exact⟨bm,N,nm,q,bs,hdct,sn,sub,ab,col,dd,k0,k1,k2,k3,k5,a,k _ _ f,d⟩
theorem Lr{M:Model}{A:aV}{E:ai->am->Prop}{s:am}{e D:ag}{o:Obj}{c:ai}{Q:Bool->am->Prop}(J:Under s.heap D c)(b:qG s.heap D)(L:s.heap.get? e=aa o)(x:o.cls=c)(K:Q ah s):au M A (excMatches (.ref e) (.ref D)) Q E s:=by
 obtain⟨C,bm,N,nm,q,bs,p,X,v,ab,S,dd,k0,k1,k2,k3,k5,i,rfl,r,z⟩:=J;obtain⟨m,N',y,Y,T,j,w,n,W,u,P,I,H,G,F,B,a,b,O⟩:=b;obtain⟨h,g,d,t,Z⟩:=s;have l:(Value.ref D::m).contains (.type "BaseException")=ah:=by rw[List.contains_cons,O,Bool.or_true]
 have f:=tc_notTuple;unfold excMatches
 repeat (first | (with_reducible refine Ju L ?_;rw[x])|with_reducible refine Ju r ?_|with_reducible refine Ju b ?_ | (with_reducible refine wpAny_isSubtype_exc r ?_;rw[z]) | (with_reducible refine wpAny_isSubtype_exc b ?_;rw[l])|wp_step)
 exact K
def u_(i:Nat)(b:ai->Bool)(h:ak->R Slot)(j:ak->R aK):ak->R aK:=λg=>match h g with
 |.ok s a=>.ok (.ret s) a
 |.er c a=>if b c=ah/\i<a.length then(match j (a.set i (.val (.exc c)))with
  |.ok f d=>(match d[i]? with
   |some (.val _)=>.ok f (d.set i .none)
   |_=>.no)
  |_=>.no)else .no
 |.no=>.no
section
variable{X:Cx}{E:XK}{pin:List Nat}{e:az}{x:ak->R Slot}{A:ak->R aK}{G J C B:Pos}{t n:Str}{D:ag}{l:List ba}{m:ba}{g:ai->Bool}
theorem aZ.unset{K:ay}{F:ag->Prop}{S:Nat->ag->Prop}{a:ak}{h:St}{H:Hp}{i:Nat}(r:aZ K F S a h H):aZ K F (λj b=>S j b/\j≠i) (a.set i .none) (h.set i ae) H:=by
 have c:=r.drop i;have o:∀{j:Nat}{s:Slot},(a.set i .none)[j]?=aa s->s≠.none->j≠i:=λ{j s} e q z=>by
  subst z;by_cases u:j<a.length
  .rw[gF u]at e;exact q (dZ e).symm
  .rw[t8 (by rw[g_];lia)]at e;cases e
 refine⟨by rw[g_,g_];exact r.len,r.ex,λj pv e=>?_,λj p e=>?_,c.foot,c.dist⟩
 .obtain⟨v,f,d⟩:=c.val j pv e;exact⟨v,by rw[fe (ef (o e (by intro z;cases z)))];exact f,d⟩
 .obtain⟨v,f,d⟩:=c.own j p e;exact⟨v,by rw[fe (ef (o e (by intro z;cases z)))];exact f,d⟩
theorem SA{P:aS}{w:aG}{H:Hp}{h:aB}{a T:ag}{c I:ai}(ok:dz P w H h)(j:H a=ae)(f:lr h a T c I):dz P w (upd H a (nq a c)) h:=λb u q=>by
 by_cases r:b=a
 .subst r;rw[upd_same]at q;cases q;obtain⟨i,v,_,_,p,F,y,_⟩:=f;exact⟨⟨i,v,p,F,y⟩,⟨i,p⟩,λO N ⟨o,s,M,L,K⟩ k=>⟨o,s,k o M,L,K⟩⟩
 .rw[br r]at q;exact(ok b u q).stay (λ_ _ _ z=>z) (λd z=>by rw[br (mh z j)];exact z) λd xs z=>by rw[br (mh z j)];exact z
def Ip(X:Cx)(r:List ba)(d:ak->R Slot):Prop :=
 ∀F S i a H Q (j:ai->Hp->Prop),aZ X.K F S i a H->Ok X.K (λc _ f=>j c f) a F S H (d i) (λs _ q y f=>∀v p,nG X.K f q s v p->(∀b,p b->H b=ae/\¬q b/\¬U y b/\∃o,f b=aa o/\eK o)->Q v f) ->
  ∀h s,Inv X h a H s->au (ax X.prog X.w) X.A (execs r X.env) (λw s'=>∃u,w=.ret u/\EP X h a Q u s') (XP X h a j) s
theorem Sv(d:DX X e x):Ip X [.Return (aa e) G] x:=λF S b a H Q i c h f s I=>IS (wpAny_Return_some (eG (d F S b a H Q i c h f s I) (λu j q=>⟨u,rfl,q⟩) λ_ _ q=>q))
theorem MB{ss:List ba}(i:Nat)(hN:X.N.Nodup)(hx:Ip X ss x)(hD:X.mg t=aa (.ref D))(hE:qG X.base D)(hcg:∀c,g c=ah->Under X.base D c)(hh:∀a,gy (hand X a) E0 pin (m::l) A)(fL:i∉pin:=by decide) (hi:X.N[i]?=aa n:=by rfl) (hl:X.env.scope.names.lookup n=aa .local:=by rfl) (hg:Gl X t:=by rfl) (hd:(t==("__debug__":Str))=aj:=by decide) (cZ:X.stack=X.env::X.outer:=by rfl) (hfm:X.env.frame=aa X.env.locals:=by rfl) (hf:X.fn n=ah\/X.env.scope.names.lookup n=aa .local:=by first|exact .inl rfl|exact .inr rfl):DS X E pin (.Try ss [.ExceptHandler (aa (.Name t J)) (aa n) (m::l) C] [] [] B) (u_ i g x A):=λF S ε σ H Dn rl q=>Bx.mk λaf s I=>by
 refine wpAny_Try_except ?_;have body:=hx F S ε σ H (λv r=>Dn.rt v r) (λc r=>∃K P M,aZ X.K K P M σ r/\bD (U S) (U P) F K H r/\g c=ah/\i<M.length/\iw X.K E pin σ F S H (match A (M.set i (.val (.exc c)))with
  |.ok f ε2=>(match ε2[i]? with
   |some (.val _)=>.ok f (ε2.set i .none)
   |_=>.no)
  |_=>.no) Dn) rl (by
  unfold u_ at q;cases e0:x ε with
  |no=>rw[e0]at q;exact q.elim
  |ok sl M=>rw[e0]at q;intro K P r r' N v Sr rv fr;exact q v K P σ r Sr r' ⟨N.fro,N.keep,N.there,N.fnew,λb z=>z.elim (N.onew b) λw=>.inr (fr b w).1⟩ (jz.refl _ _) rv λb z=>(fr b z).2
  |er c M=>
   rw[e0]at q;intro y K P r r' N;dsimp only at q;by_cases hc:g c=ah/\i<M.length
   .rw[if_pos hc]at q;exact⟨K,P,M,r',N,hc.1,hc.2,q⟩
   .rw[if_neg hc]at q;exact q.elim) af s I
 refine eG body (λfl W ⟨u,efl,v,Z,I1,r1,q1⟩=>?_) λev W xp=>?_
 .subst efl;exact⟨v,σ,Z,I1,r1,q1⟩
 obtain⟨s0,H0,I0,a,T,c,Z,rfl,ho,hg1,un,hok,fl,⟨fa,fT,na,nT⟩,F1,S1,ε1,rl1,g1,hcc,bg,h⟩:=xp;have I1:=I0.call' (s':=W) (ch:=[]) ho un hok hg1 (λb z=>absurd z (by simp));have kpI:∀{h2:aB}{Y:ag->Prop}{T':ag},Kp (fR X.stack) Y W.heap h2->(∀b o,s0.heap.get? b=aa o->¬Y b)->(∀b,Y b->Z b=ae)->lr h2 a T' c .none->∀tk,Inv X af σ (upd Z a (nq a c)) {W with heap:=h2,toks:=tk}:=λ{h2 Y T'} k hY1 hY2 f2 tk=>by
  refine I0.call' (s':={W with heap:=h2,toks:=tk}) (ch:=[]) ho ?_ (SA (Bi hok k (λb hb=>I1.stkFree b hb) hY2) na f2) hg1 (λb z=>absurd z (by simp));have u2:=B_ un k (λb o _ z=>z) hY1;have na':∀b o,Z b=aa o->b≠a:=λb o e=>mh e na;refine⟨u2.keep,u2.slot,λb o e n hx=>?_,u2.there,λb xs e=>?_,λb o u e=>?_,λb ps e=>?_⟩
  .rw[br (by rintro rfl;rw[fa]at e;cases e)];exact u2.free b o e n hx
  .have:=u2.tups b xs e;rw[br (na' b _ this)];exact this
  .have:=u2.frzs b o u e;rw[br (na' b _ this)];exact this
  .have:=u2.tbls b ps e;rw[br (na' b _ this)];exact this
 have H1T:∀b,b=a\/b=T->Z b=ae:=λb z=>by rcases z with rfl|rfl <;> assumption
 have old1:∀b o,s0.heap.get? b=aa o->¬(b=a\/b=T):=λb o e z=>by
  rcases z with rfl|rfl
  .rw[fa]at e;cases e
  .rw[fT]at e;cases e
 refine G5 (outer:=X.outer) (by rw[I0.ok.frames,cZ]) (by rw[<-cZ];exact I1.stack) hfm fl λh2 T' k fl2 fT'=>?_;rw[<-cZ]at k;have I2:=kpI k old1 H1T fl2 W.toks;refine wpAny_handleBy_cons (codeAny_handlers_test ?_) (by intro z;cases z);have I2h:Inv (hand X a) af σ (upd Z a (nq a c)) {W with heap:=h2}:=Inv.hand I2;refine tE (X:=hand X a) I2h hg hD ?_ hd;obtain⟨oe,vs,oT,ts,he2,UI,_⟩:=id fl2;refine Lr (s:={W with heap:=h2}) ((hcg c hcc).keeps I2.bk) (hE.keeps I2.bk) he2 UI ?_;show lO _ _ _ _ _;refine codeAny_handlers_suite_as (R_ (s:={W with heap:=h2}) fl2 λh3 k3 fl3=>?_);have k':Kp (fR X.stack) (λb=>(b=a\/b=T)\/b=T') W.heap h3:=k.trans (k3.imp (λb z=>by simp at z) λb o _ z=>z);have I3:=kpI (T':=T') k' (λb o e z=>by
  rcases z with z|rfl
  .exact old1 b o e z
  .rw[tq un (vQ fT')]at e;cases e) (λb z=>by
  rcases z with z|rfl
  .exact H1T b z
  .exact I1.hok.fresh fT') fl3 W.toks
 have I3h:Inv (hand X a) af σ (upd Z a (nq a c)) {W with heap:=h3}:=Inv.hand I3;refine yB (X:=hand X a) (v:=.ref a) I3h hN hi (.inl hl) rfl (λs4 I4=>?_) hf;have al:Al F1 F1 Z (upd Z a (nq a c)):=Al.new0 na;have r2:=rl1.al al;have r3:=r2.set (i:=i) (pv:=.exc c) (v:=.ref a) ⟨a,rfl,upd_same⟩;have g3:bD (U S) (U λj b=>S1 j b/\j≠i) F F1 H (upd Z a (nq a c)):=(g1.trans al.grow).trans (bD.less i);have less:∀{P:Nat->ag->Prop}{K:ag->Prop}{r:Hp},bD (U P) (U λj b=>P j b/\j≠i) K K r r:=λ{P K r}=>bD.less i;have pn:∀{d:St},jz pin (σ.set i (aa (.ref a))) d->jz pin σ (d.set i ae):=λ{d} p=>((jz.set fL).trans p).trans (jz.set fL);have okd:iw (hand X a).K E0 pin (σ.set i (aa (.ref a))) F1 (λj b=>S1 j b/\j≠i) (upd Z a (nq a c)) (A (ε1.set i (.val (.exc c)))) {nx:=λd r=>Dn.nx (d.set i ae) r,rt:=Dn.rt,bk:=λd r=>Dn.bk (d.set i ae) r,ct:=λd r=>Dn.ct (d.set i ae) r}:=by
  cases ed:A (ε1.set i (.val (.exc c)))with
  |no=>rw[ed]at h;exact h.elim
  |er c' ε2=>rw[ed]at h;exact h.elim
  |ok f ε2=>
   rw[ed]at h;dsimp only at h;split at h
   .cases f with
    |next=>exact λK P d r r' N p'=>h K _ _ r r'.unset ((g3.trans N).trans less) (pn p')
    |brk=>exact λK P d r r' N p'=>h K _ _ r r'.unset ((g3.trans N).trans less) (pn p')
    |cont=>exact λK P d r r' N p'=>h K _ _ r r'.unset ((g3.trans N).trans less) (pn p')
    |ret sl=>
     intro v K P d r Sr r' N p' rv lo;refine h v K _ _ r Sr r'.unset ?_ (pn p') rv λb z=>⟨(lo b z).1,λ⟨j,w⟩=>(lo b z).2.1 ⟨j,w.1⟩,(lo b z).2.2⟩
     have gg:=g3.trans N;exact⟨gg.fro,gg.keep,gg.there,gg.fnew,λb z=>gg.onew b (z.imp (λ⟨j,w⟩=>⟨j,w.1⟩) id)⟩
   .exact h.elim
 refine eG ((hh a F1 _ _ _ _ _ r3 okd).run af s4 I4) (λf s5 sp=>?_) λ_ _ z=>z.elim;have O:∀{L:St}{H5:Hp}{Q:Unit->am->Prop},Inv (hand X a) af L H5 s5->(∀s6,Inv X af (L.set i ae) H5 s6->Q () s6)->au (ax X.prog X.w) X.A (do bindName X.env n .none;unbindBehindTheSuite X.env n C) Q X.xe s5:=λ{L H5 Q} I5 hQ=>by
  have I5':=Inv.unhand I5 I0.ok;refine ar (wpAny_bindName (yB (v:=.non) I5' hN hi (.inl hl) rfl (λs6 I6=>?_) hf));unfold unbindBehindTheSuite;refine wpAny_onRaise ?_;have hiσ:i<L.length:=by rw[I5'.len];exact(d7.mp hi).1
  refine M4 I6 hN hi hl (gF hiσ) λs7 I7=>hQ s7 ?_;rw[List.set_set]at I7;exact I7
 cases f with
 |next=>obtain⟨L,H5,I5,q5⟩:=sp;exact O I5 λs6 I6=>⟨_,H5,I6,q5⟩
 |brk=>obtain⟨L,H5,I5,q5⟩:=sp;exact O I5 λs6 I6=>⟨_,H5,I6,q5⟩
 |cont=>obtain⟨L,H5,I5,q5⟩:=sp;exact O I5 λs6 I6=>⟨_,H5,I6,q5⟩
 |ret u=>obtain⟨v,L,H5,I5,rv,q5⟩:=sp;exact O I5 λs6 I6=>⟨v,_,H5,I6,rv,q5⟩
theorem Nu(i:Nat)(s:X.N.Nodup)(f:DX X e x)(v:X.mg t=aa (.ref D))(u:qG X.base D)(d:∀c,g c=ah->Under X.base D c)(o:∀a,gy (hand X a) E0 pin (m::l) A)(w:i∉pin:=by decide) (j:X.N[i]?=aa n:=by rfl) (h:X.env.scope.names.lookup n=aa .local:=by rfl) (p:Gl X t:=by rfl) (r:(t==("__debug__":Str))=aj:=by decide) (y:X.stack=X.env::X.outer:=by rfl) (b:X.env.frame=aa X.env.locals:=by rfl) (q:X.fn n=ah\/X.env.scope.names.lookup n=aa .local:=by first|exact .inl rfl|exact .inr rfl):DS X E pin (.Try [.Return (aa e) G] [.ExceptHandler (aa (.Name t J)) (aa n) (m::l) C] [] [] B) (u_ i g x A):=MB i s (Sv f) v u d o w j h p r y b q
end
structure kU(k:Nat)(A:aV):Prop where
 dp:A.depth+3*k+5<vS
 un:A.units+16*k+200<cLine
theorem Room.hand{k:Nat}{A:aV}{v:Option ai}(r:Room k A):kU k (A.mark v):=⟨r.dp,r.un⟩
theorem kU.mono{j k:Nat}{A:aV}(r:kU k A)(h:j<=k):kU j A:=⟨by have:=r.dp;lia,by have:=r.un;lia⟩
theorem kU.deeper{k:Nat}{A:aV}(r:kU (k+1) A)(a:Env):kU k (A.deeper a) :=⟨by have:=r.dp;show A.depth+1+3*k+5<_;lia,by have:=r.un;show A.units+3+16*k+200<_;lia⟩
theorem kU.units{k:Nat}{A:aV}(r:kU k A):A.units+64<cLine:=by have:=r.un;lia
def vF(P:aS)(w:aG)(K:ay)(g:Str->Option ai)(d:aB)(N:List Str)(c:Str)(a:dH)(f:ag)(h:ai)(A:aV)(b:List Env)(s:am)(H:Hp):Cx :=
 {(iO AZ P w K g d N c a f h A b s H E0)with calm:=aj,xe:=λ_ _=>False}
structure AA(P:aS)(w:aG)(K:ay)(mg:Str->Option ai)(base:aB)(k:Nat)(f:ag)(fd:iD)(ps:List Str)(sp:Sp):Prop where
 len:∀vs H Q E,sp vs H Q E->vs.length=ps.length
 run:∀(A:aV) (outer:List Env) (s:am) (H:Hp) (args:Args) (us:List ai) (vs:List V) (Q:VK),kU k A->sC P w K mg base A outer s H->BindsTo s fd args (ps.zip us)->bt vs us->sp vs H Q E0 ->
  lO (ax P w) A (.call (.ref f) args) (CR AZ outer P w H s Q E0) s
structure xQ(P:aS)(w:aG)(K:ay)(mg:Str->Option ai)(base:aB)(x:Str)(k:Nat)(ps:List Str)(sp:Sp):Prop where
 ex:∃f fd,mg x=aa (.ref f)/\AA P w K mg base k f fd ps sp/\Binds K fd ps []/\qQ K (.ref f)=ah
theorem Na{P:aS}{w:aG}{K:ay}{D:Str->Option ai}{h:aB}{k:Nat}{f:ag}{t g:Str}{i:qS}{l:List ba}{a:dH}{dV kV L pm B ct oc:ai}{an od:Option ag}{Y:Array (Option ai)}{N M:List Str}{O:Sp} (lk:K.lookup f=aa ⟨oc,od,.func (iY t g i l a dV kV L pm an B ct),Y⟩) (bv:vT K B g=ah) (S:b8 N M a)(len:∀p H Q E,O p H Q E->p.length=M.length)(ii:∀(A:aV) (c:List Env) (s:am) (H:Hp) (p:List V) (Q:VK),kU k (A.deeper (jt g a s.heap.objs.size f B))->O p H Q E0 -> qr (vF P w K D h N g a f B A c s H) l {nx:=λ_ C=>Q .non C,rt:=Q} (L2.start N p) H):AA P w K D h (k+1) f (iY t g i l a dV kV L pm an B ct) M O:=by
 refine⟨len,λA c s H args us p Q hr j hb r iH=>?_⟩;have hl:=len _ _ _ _ iH;have KX:K.In s.heap:=j.mod.kin.keeps λb o e=>(j.bs b o e).1;have Z:s.heap.NoLimit:=j.mod.nolimit.keeps λb o e=>(j.bs b o e).1;have Dv:∀y∈M.zip us,a.names.lookup y.1=aa .local\/(a.names.lookup y.1=aa .cell/\((f9 (s.heap.objs.size+1) a.names []).lookup y.1).isSome=ah):=λ⟨n,v⟩ hy=>(S.par n (CO hy).1).imp id λq=>⟨q,IX _ _ _ (.inl q)⟩
 refine codeAny_call_function (by have:=hr.dp;lia) (KX _ _ lk) rfl S.co S.gen rfl (PySem.W.codeRec_of KX bv) (hb _ _ _ _ ?_);refine wpAny_newFunctionEnv_cells S.kind Dv λenv he T x=>?_;subst he;refine⟨Z.keeps x.toInCall.keep,codeAny_func ?_⟩;have e1:sC P w K D h {A with handled:=ae} c s H:=⟨j.frames,j.mod,j.bs,j.bsz,j.funs,j.frf,j.hok,j.bare,j.tab⟩
 have d:Inv (iO AZ P w K D h N g a f B {A with handled:=ae} c s H E0) [] (L2.start N p) H T:=Gs S rfl e1 hl r x;have I:Inv (vF P w K D h N g a f B A c s H) [] (L2.start N p) H T :=
  ⟨⟨d.ok.mod,d.ok.kind,d.ok.glob,d.ok.blt,d.ok.above,d.ok.inj,d.ok.has,d.ok.cab,(λz=>by cases z),Around.frames_deeper j.frames,d.ok.stk,d.ok.exf,d.ok.bs,d.ok.bsz,d.ok.noex,d.ok.exfs,d.ok.funs,d.ok.frf,d.ok.tab⟩,d.os,d.bare,d.base,d.loc,d.cell,d.free,d.freeC,d.pin,d.hok,d.len⟩
 refine eG ((ii A c s H p Q (hr.deeper _) iH).run [] T I) (λfl W F=>?_) λe W F=>F.elim;have G:∀{m:St}{C:Hp}{v:V}{u:ai},Inv (vF P w K D h N g a f B A c s H) [] m C W->RelV v u->Q v C->CE c P w H s Q u W:=λ{m C v u} J X q=>⟨v,C,J.os,J.bare,J.base,J.hok,X,q⟩
 cases fl with
 |ret u=>obtain⟨v,m,C,J,X,q⟩:=F;exact G J X q
 |next=>obtain⟨m,C,J,q⟩:=F;exact G (v:=V.non) (u:=Value.none) J rfl q
 |brk=>obtain⟨_,_,_,q⟩:=F;exact iE q
 |cont=>obtain⟨_,_,_,q⟩:=F;exact iE q
theorem Kb{P:aS}{w:aG}{K:ay}{t:Str->Option ai}{j:aB}{x:Str}{c:ba}{N l:List Str}{k n:Nat}{g:ak->R Slot}{d:ak->R aK}{p:List Nat}(D:cD K t x c)(X:b8 N l (a8 c))(L:N.length=l.length+n)(S:∀(kV q v:ai) (C:Option ag) (o z:ai) (r:List ai),r.length=l.length->fZ (iY x x (j5 c) (fX c) (a8 c) .none kV q v C o z) ⟨r,[]⟩=pure (l.zip r))(B:∀b,g b≠.no->b.length=l.length) (y:∀b,g b≠.no->∀(i:Nat) m,b[i]?=aa (.own m)->i∈p/\eR m=ah) (O:∀b,g b≠.no->bj n d b=g b)(G:∀(f:ag) (o:ai) (A:aV) (a:List Env) (s:am) (H:Hp),kU k (A.deeper (jt x (a8 c) s.heap.objs.size f o))->gy (vF P w K t j N x (a8 c) f o A a s H) E0 p (fX c) d):xQ P w K t j x (k+1) l (bJ K g):=by obtain⟨f,T,M,u⟩:=D.ex;refine⟨f,T,M,?_,u.binds S,u.kp⟩;obtain⟨oc,od,kV,q,v,C,o,z,E,rfl,F,W⟩:=u.ex;exact Na F W X (EC B) λA a s H Y Q J I=>Im L B (λb h i m e=>(y b h i m e).1) (λb Z aO h=>.inr λi m e=>(y b (by rw[h];exact nofun) i m e).2) O (G f o A a s H J) I
section
variable{X:Cx}{E:XK}{e:az}{d:List az}{j:ak->R (List cq)}{b:Pos}{x:Str}{k:Nat}{i:List Str}{g:ak->R Slot}{p:Pos}
theorem QN{f:ag}{y:iD}{v:Sp}{t:TA}(z:AA X.prog X.w X.K X.mg X.base k f y i v)(B:kU k X.A)(G:Gl X x)(C:X.mg x=aa (.ref f))(F:qQ X.K (.ref f)=ah)(L:Binds X.K y i [])(M:PA X (e::d) t) (K:(x==("__debug__":Str))=aj) (J:aN (e::d) X.env=(aj,aL e X.env)::aN d X.env) (O:(c_ b (aN d X.env)).any (·.1)=aj):PE X (.Call (.Name x p) (e::d) [] b) (λm H Q=>t m H λn o=>v n o Q E0):=λP s m H Q I h=>by
 refine tN (tE I G C ?_ K);refine IW (h₀:=X.base) I.ok.mod.kin F (aM (M b P s m H _ I h) λc w ⟨n,o,l,r,q⟩=>⟨l.kIn,?_⟩) J O;have D:c.length=i.length:=by rw[<-r.length];exact z.len _ _ _ _ q
 refine tL (n8 (z.run X.A X.stack w o ⟨c,[]⟩ c n Q B l.env0 (by have:=L w c l.kIn (by rw[f8];exact D);rwa[f8]at this) r q) λA S a=>?_);cases A with
 |error er=>exact(show False from a).elim
 |ok N=>
  cases N with
  |ret u=>exact l.after a
  |next=>exact iE a
  |brk=>exact iE a
  |cont=>exact iE a
theorem J_{n m:Type}{K:ay}{E o:XK}{c:St}{F:ag->Prop}{S:Nat->ag->Prop}{H:Hp}{C:m->ak->(ag->Prop)->(Nat->ag->Prop)->Hp->Prop}{r:R n}{f:n->ak->R m}(h:Ok K E c F S H (dq (r.bind f)) C):Ok K E c F S H r λa l F S H=>Ok K o c F S H (f a l) C:=by
 cases r with
 |ok a l=>
  intro v t u s q;have h:Ok K E c F S H (dq (f a l)) C:=h;cases e:f a l with
  |ok=>rw[e]at h;exact Ok.from (E:=o) h q
  |_=>rw[e]at h;exact h.elim
 |_=>exact h.elim
theorem Pj(c:xQ X.prog X.w X.K X.mg X.base x k i (bJ X.K g))(r:kU k X.A)(y:DG X E (e::d) j)(u:Gl X x:=by rfl)(v:(x==("__debug__":Str))=aj:=by decide) (A:aN (e::d) X.env=(aj,aL e X.env)::aN d X.env:=by rfl) (z:(c_ b (aN d X.env)).any (·.1)=aj:=by rfl):DR X E (.Call (.Name x p) (e::d) [] b) (λa=>dq (aU g j a)):=λF S a l H Q n h=>by obtain⟨f,I,s,D,w,t⟩:=c.ex;exact b7 (QN D r u s t w gX v A z) (y F S a l H _ n ((J_ h).imp λJ m M K L o B q G C=>Hv o B C q))
end
structure o4(K:ay)(C:ag):Prop where
 ga:qP K (.ref C) "__getattribute__"=aa (aa (.builtin "BaseException.__getattribute__"))
 gt:qP K (.ref C) "__getattr__"=aa ae
 cl:qP K (.ref C) "__class__"=aa (aa (.builtin "object.__class__"))
 gs:IV K (.builtin "object.__class__") "__get__"=aa (aa (.builtin "getset_descriptor.__get__"))
 tk:PySem.W.takesIn K (.builtin "object.__class__")=aa ah
 ob:zp K C (.type "object")=aa ah
 be:zp K C (.type "BaseException")=aa ah
 cs:(Dc K C).isSome=ah
section
variable{b:aS}{w:aG}{A:aV}{E:ai->am->Prop}{K:ay}{h:aB}{g:Array GenState}{d:Drawn}{t:Nat}{c:OsState}{a C:ag}{o:Obj}
theorem R6{M:Model}{f:ai}{Q:Unit->am->Prop}(X:K.In h)(k:o4 K C)(I:vR h a o C ae)(j:Q () ⟨h,g,d,t,c⟩):au M A (Jo "BaseException.__getattribute__" ⟨[.ref a,f],[]⟩) Q E ⟨h,g,d,t,c⟩:=by
 have l:builtinKind "BaseException.__getattribute__"=aa .slot:=by decide +kernel
 have n:splitId "BaseException.__getattribute__"=aa ("BaseException","__getattribute__"):=by decide +kernel
 have p:=F.args_bexc_ga (.ref a) f;have m:=I.type (M:=M);have i:=PySem.W.looks_mroIn (M:=M) X k.be;simp only[Jo,l,n];refine ar ?_
 .unfold zD
  repeat (first|with_reducible refine ar (m.at ?_)|with_reducible refine i.at ?_|with_reducible refine ar (i.at ?_)|wp_step)
  exact j
theorem QB{i:Tok}{Q:Fin->am->Prop}(X:K.In h)(k:o4 K C)(I:vR h a o C ae)(j:Q (.done (.ret (.ref C))) ⟨h,g,d,t,c⟩):au (ax b w) A (Builtin.«object.__getattribute__» ⟨[.ref a,.str "__class__" i],[]⟩) Q E ⟨h,g,d,t,c⟩:=by
 have q:=I.type (M:=ax b w);have l:PySem.W.findObj K C ae "__class__"=aa (.bind (.builtin "getset_descriptor.__get__") (.builtin "object.__class__")):=by obtain⟨u,m⟩:=CP.mp k.cs;unfold PySem.W.findObj;rw[m,gG,k.cl,gG];simp[k.gs,k.tk]
 have p:=PySem.W.looks_find (M:=ax b w) X I l;have n:lO (ax b w) A (.call (.builtin "getset_descriptor.__get__") ⟨[.builtin "object.__class__",.ref a,.ref C],[]⟩) (λr f=>r=.ok (.ret (.ref C))/\f=⟨h,g,d,t,c⟩) ⟨h,g,d,t,c⟩:=PySem.W.class_get (s:=⟨h,g,d,t,c⟩) X I k.ob ⟨rfl,rfl⟩;refine ar (aI (ar (aI (ar (q.at (ar (p.at ?_)))))));show au _ _ (do ret (<-nZ [Value.builtin "object.__class__"] (call (.builtin "getset_descriptor.__get__") [.builtin "object.__class__",.ref a,.ref C]))) _ _ _;refine ar (js (tL (n8 n λr f z=>?_)));obtain⟨rfl,rfl⟩:=z;exact aI j
theorem K_{i:Tok}{Q:ai->am->Prop}(X:K.In h)(k:o4 K C)(I:vR h a o C ae)(q:Q (.ref C) ⟨h,g,d,t,c⟩):au (ax b w) A (getAttrBy (.ref a) (.str "__class__" i) aj) Q E ⟨h,g,d,t,c⟩:=by
 have n:=I.type (M:=ax b w);have m:=PySem.W.looks_findIn (M:=ax b w) X k.ga;have f:=PySem.W.looks_findIn (M:=ax b w) X k.gt;have j:(Value.builtin "BaseException.__getattribute__" == Value.builtin "object.__getattribute__")=aj:=by decide +kernel
 have l:(onTheHeap (Value.ref C)&&Value.builtin "BaseException.__getattribute__" == Value.builtin "object.__getattribute__")=aj:=by rw[j];rfl
 unfold getAttrBy;refine js (ar (n.at (ar (m.at ?_))));dsimp only;rw[l];rw[if_neg (by decide)];have f3:=F.attr_ValueError.ga.bind (.ref a);have p:(aj&&onTheHeap (Value.builtin "BaseException.__getattribute__"))=aj:=rfl
 repeat (any_goals (first|assumption|with_reducible refine f.at ?_|with_reducible refine ar (f.at ?_)|wp_step))
 refine Jr F.attr_ValueError.ga.plain F.entry_bexc_ga (R6 X k I (QB X k I ?_))
 repeat (any_goals (first|assumption|wp_step))
theorem Ke{Q:Option ai->am->Prop}(X:K.In h)(k:o4 K C)(I:vR h a o C ae)(f:Q (aa (.ref C)) ⟨h,g,d,t+1,c⟩):au (ax b w) A (getAttr? (.ref a) "__class__") Q E ⟨h,g,d,t,c⟩:=by
 unfold getAttr? getAttrBy?
 repeat (any_goals (first|assumption|with_reducible apply K_ X k I|wp_step))
theorem M3(k:o4 K C):PySem.W.KitX K (.ref a) (.ref C) (λh=>∃o,vR h a o C ae) where
 ty:=λ_ _ _ ⟨o,I⟩=>I.type
 it:=λ_ _ X _=>by
  obtain⟨x,f⟩:=CP.mp k.cs;unfold Dc at f;split at f
  .rename_i y v m i l;intro J G H D r q;unfold isType loadHead;exact ar (wpAny_loadPart (r _ _ (X _ _ l)) (aI q))
  .cases f
 ne:=λh p F u n B X j=>by
  obtain⟨x,f⟩:=CP.mp k.cs;refine Jv.mpr λq=>?_;have e:C=p:=Value.ref.inj (beq_iff_eq.mp q);subst e;unfold Dc at f;split at f
  .rename_i y v m i l;have z:=(X _ _ l).symm.trans j;cases z
  .cases f
 ca:=λ{_ _ _ _ _ s} X I q=>by obtain⟨o,I⟩:=I;obtain⟨h,g,d,t,c⟩:=s;exact Ke X k I q
end
def yx:V->Option ai
 |.ref D=>aa (.ref D)
 |.ty T=>aa (.type T)
 |_=>ae
theorem Lp{v:V}{u a:ai}(e:yx v=aa u)(r:RelV v a):a=u:=by
 cases v <;> simp[yx]at e <;> subst e <;> exact r
section
variable{X:Cx}{K:ay}
def II(K:ay):List V->Hp->VK->Prop:=λxs H Q=>∃a C D u b,xs=[.ref a,D]/\H a=aa (nq a (.ref C))/\o4 K C/\yx D=aa u/\eV K (.ref C) u=aa b/\Q (.bl b) H
theorem UR:eC X (.builtin "isinstance") (II X.K):=by
 intro A s v H xs x Q I r h;obtain⟨a,C,D,u,b,rfl,j,k,i,e,q⟩:=h;cases r with
 |cons g f=>
  cases f with
  |cons d c=>
   cases c;cases g;have t:=Lp i d;subst t;obtain⟨⟨o,w,p,n,m,l⟩,_,_⟩:=I.hok a _ j;refine lN (M3 (a:=a) k) I.kIn ⟨o,p,n,?_,?_⟩ e (by intro z;cases z) λy=>⟨.bl b,H,I.tok _,rfl,q⟩
   .unfold PySem.W.notCls;rw[m]
   .rw[l];trivial
def j3(tab:ai->V->Option Bool):List PV->Option PV
 |[.exc c,.raw D]=>(tab c D).map .bl
 |xs=>eF xs
def Gr(K:ay):List V->Hp->VK->Prop:=λxs H Q=>II K xs H Q\/∃x t T b,xs=[x,.ty T]/\jo K H x (.type t)/\eV K (.type t) (.type T)=aa b/\Q (.bl b) H
theorem kX:eC X (.builtin "isinstance") (Gr X.K):=UR.or pY
def AV(K:ay)(tab:ai->V->Option Bool):Prop:=∀c D b,tab c D=aa b->∃C u,c=.ref C/\o4 K C/\yx D=aa u/\eV K (.ref C) u=aa b
theorem kT{tab:ai->V->Option Bool}(j:AV K tab):PL K (Gr K) (j3 tab):=λF H xs g Q pv f e q=>by
 unfold j3 at e;split at e
 .rename_i c D;cases d:tab c D with
  |none=>rw[d]at e;cases e
  |some b=>
   rw[d]at e;cases e;obtain⟨C,u,rfl,k,i,l⟩:=j c D b d;obtain⟨v,p,rfl,⟨a,rfl,m⟩,o⟩:=f;obtain⟨h,rfl,n⟩:=fk o;rw[show h=D from n];exact .inl ⟨a,C,D,u,b,rfl,m,k,i,l,q _ F H (Al.refl ..) rfl⟩
 .exact .inr (qw F H _ g Q pv f e q)
theorem lw{E:XK}{x:Str}{D:ag}{d:Pos}(a:X.mg x=aa (.ref D))(b:Gl X x:=by rfl)(c:(x==("__debug__":Str))=aj:=by decide):DE X E (.Name x d) (dC (.raw (.ref D))):=λF S g f H Q r q=>b7 (BE (v:=.ref D) b a rfl c) (q F S H r (bD.refl ..) _ rfl)
variable{E:XK}{e:az}{de:ak->R PV}{d:Pos}{y:Str}
def A4(xs:List PV)(y:PV):Option PV:=(d9 y).bind λv=>(jG xs).map λa=>.int (a.countP λz=>dU z v)
def nI(xs:List PV)(y:PV):Option PV:=(d9 y).bind λv=>(jG xs).bind λa=>(a.findIdx? λz=>dU z v).map λj=>.int j
def sK(f:List PV->PV->Option PV)(i:Nat)(de:ak->R PV):ak->R PV:=λb=>(aE (eE b i) b).bind λ_ b=>(de b).bind λk a=>(aE (eE a i) a).bind λxs a=>aE (f xs k) a
theorem MK(i:Nat){p c b:Pos}(M:DE X E e de)(P:X.N[i]?=aa y:=by rfl)(J:eD X.env.scope y:=by first|exact Or.inl rfl|exact Or.inr (Or.inl rfl)|exact Or.inr (Or.inr rfl))(N:(y==("__debug__":Str))=aj:=by decide)(bv:(y==("__classdict__":Str))=aj:=by decide) (Z:j9 (.Name y p) "count" X.env (aL (.Name y p) X.env)=aL (.Name y p) X.env:=by rfl)(Y:((c_ b (aN [e] X.env)).all (λx=>!x.1)&&(qW b (qX [] X.env)).all (λx=>x.1.isSome)&&decide ([e].length+([]:List jN).length+(if([]:List jN).isEmpty then 0 else 1)<30))=ah:=by rfl)(W:(c.endLine == b.line)=ah:=by rfl) (t:aN [e] X.env=(aj,aL e X.env)::aN [] X.env:=by rfl) (T:(c_ b (aN [] X.env)).any (·.1)=aj:=by rfl):DE X E (.Call (.Attribute (.Name y p) "count" c) [e] [] b) (sK A4 i de):=λF S o z H Q r h=>by
 unfold sK at h;cases n:eE o i with
 |none=>rw[n]at h;exact h.elim
 |some A=>
  rw[n]at h;simp only[cg,R.bind_ok]at h;obtain⟨a,B,u,O,_,_,_⟩:=r.lstAt (ji n);refine b7 (vx C_ PySem.F.slot_list_count PySem.F.type_list_count MW (fE P J N bv) (iQ bI j6 t) Z Y W t T) ⟨.ref a,u,.inl ⟨rfl,_,cC.of O⟩,?_⟩;refine M F S o z H _ r ((Ok.bind h).imp λk j F1 S1 H1 s g1 q v D=>?_);cases m:eE j i with
  |none=>rw[m]at q;exact q.elim
  |some xs=>
   rw[m]at q;simp only[cg,R.bind_ok]at q;obtain⟨a',C,g,I,G,_,_⟩:=s.lstAt (ji m);rw[u]at g;cases g;unfold A4 at q;cases f:d9 k with
   |none=>rw[f]at q;exact q.elim
   |some w=>
    cases l:jG xs with
    |none=>rw[f,l]at q;exact q.elim
    |some ws=>rw[f,l]at q;obtain⟨rfl,L⟩:=uw G l;rw[jZ D f];exact⟨a,C,w,rfl,rfl,I,rX f,L,q F1 S1 H1 s (bD.refl ..) _ rfl⟩
theorem Lh(i:Nat){p c b:Pos}(he:DE X E e de)(hN:X.N[i]?=aa y:=by rfl)(W:eD X.env.scope y:=by first|exact Or.inl rfl|exact Or.inr (Or.inl rfl)|exact Or.inr (Or.inr rfl))(hd:(y==("__debug__":Str))=aj:=by decide)(bv:(y==("__classdict__":Str))=aj:=by decide) (h1:j9 (.Name y p) "index" X.env (aL (.Name y p) X.env)=aL (.Name y p) X.env:=by rfl)(h2:((c_ b (aN [e] X.env)).all (λx=>!x.1)&&(qW b (qX [] X.env)).all (λx=>x.1.isSome)&&decide ([e].length+([]:List jN).length+(if([]:List jN).isEmpty then 0 else 1)<30))=ah:=by rfl)(h3:(c.endLine == b.line)=ah:=by rfl) (D:aN [e] X.env=(aj,aL e X.env)::aN [] X.env:=by rfl) (h5:(c_ b (aN [] X.env)).any (·.1)=aj:=by rfl):DE X E (.Call (.Attribute (.Name y p) "index" c) [e] [] b) (sK nI i de):=λF S u I H Q A h=>by
 unfold sK at h;cases t:eE u i with
 |none=>rw[t]at h;exact h.elim
 |some J=>
  rw[t]at h;simp only[cg,R.bind_ok]at h;obtain⟨a,M,G,ha,_,_,_⟩:=A.lstAt (ji t);refine b7 (vx C_ PySem.F.slot_list_index PySem.F.type_list_index Qq (fE hN W hd bv) (iQ bI j6 D) h1 h2 h3 D h5) ⟨.ref a,G,.inl ⟨rfl,_,cC.of ha⟩,?_⟩;refine he F S u I H _ A ((Ok.bind h).imp λk r F1 S1 H1 B g1 q v O=>?_);cases s:eE r i with
  |none=>rw[s]at q;exact q.elim
  |some xs=>
   rw[s]at q;simp only[cg,R.bind_ok]at q;obtain⟨a',N,l,T,P,_,_⟩:=B.lstAt (ji s);rw[G]at l;cases l;unfold nI at q;cases f:d9 k with
   |none=>rw[f]at q;exact q.elim
   |some w=>
    cases o:jG xs with
    |none=>rw[f,o]at q;exact q.elim
    |some L=>
     cases n:L.findIdx? λz=>dU z w with
     |none=>rw[f,o]at q;simp only[gG]at q;rw[n]at q;exact q.elim
     |some j=>
      rw[f,o]at q;simp only[gG]at q;rw[n]at q;obtain⟨rfl,Z⟩:=uw P o;rw[jZ O f];rw[Jm]at n;obtain⟨C,h6,h7⟩:=n;refine⟨a,N,w,j,rfl,rfl,T,rX f,Z,C,λz g=>?_,λm z Y g=>?_,q F1 S1 H1 B (bD.refl ..) _ rfl⟩
      .rw[fg C]at g;cases g;exact h6
      .have:=h7 m Y;rw[fg ∅]at g;cases g;simpa using this
end
def iK(g:Tx):List Tx->Tx
 |[]=>[]
 |[x]=>x
 |x::y::r=>x++g++iK g (y::r)
theorem Ea(a b:Tx):tS (a++b)=tS a++tS b:=by apply Str.ext';simp[tS,Str.cps_append]
theorem G2(g:Tx):∀a:List Tx,Str.join (tS g) (a.map tS)=tS (iK g a)
 |[]=>rfl
 |[x]=>rfl
 |x::y::r=>by show tS x++tS g++Str.join (tS g) ((y::r).map tS)=tS (x++g++iK g (y::r));rw[G2 g (y::r),Ea,Ea]
theorem Ho(g:Tx)(a:List Tx):Txt.join (tS g) (a.map tS)=tS (iK g a):=by unfold Txt.join;rw[StrLaws.glued_eq_join,G2]
theorem Ls(c:Nat)(x:Tx):xo [c] x=x.contains c:=by unfold xo;have:=StrLaws.found_one (tS x) c;rw[o7]at this;rw[show(tS [c])=⟨#[c]⟩from rfl,this];simp[List.contains_eq_mem]
theorem Ch:∀{b:List Tx}{a:List ai},bt (cO b) a->eO a (b.map tS)
 |[],_,r=>by cases r;exact .nil
 |x::b,_,r=>by
  cases r with
  |cons d c=>obtain⟨t,rfl⟩:=d;exact .cons _ t (Ch c)
section
variable{X:Cx}{K:ay}
def k6(g:Tx)(a:List Tx):Nat:=(a.map jL).sum+a.length*g.length
theorem GO(g:Tx):∀a,(iK g a).length<=k6 g a
 |[]=>jO _
 |[x]=>by simp[iK,k6]
 |x::y::r=>by have h:=GO g (y::r);show(x++g++iK g (y::r)).length<=_;generalize iK g (y::r)=z at h;unfold k6 at *;simp only[cQ,cu,hU,eh,Nat.add_mul]at *;lia
def AS(K:ay):V->List V->Hp->VK->Prop:=λx xs H Q=>∃g p a,x=tV g/\xs=[.ref p]/\(cC K H p (cO a)\/cR K H p (cO a))/\k6 g a<=bE/\Q (tV (iK g a)) H
theorem Fd:nR X "str.join" (AS X.K):=by
 intro A s y H x xs v z Q I m o h;obtain⟨g,p,b,rfl,rfl,c,w,q⟩:=h;obtain⟨t,rfl⟩:=m;obtain⟨u,rfl,n⟩:=vals1 o;cases n;have l:((b.map tS).map (·.length)).sum+(b.map tS).length*(tS g).length<=16777216:=by
  have e:((b.map tS).map (·.length))=b.map jL:=by rw[dI];exact f_ λa _=>kP a
  rw[e,cn,kP];unfold k6 bE at w;lia
 rcases c with c|c
 .obtain⟨j,f,i,r⟩:=I.list c;exact join_list i.isList (by simpa using Ch f) l λd k=>⟨tV (iK g b),H,I.tok _,(by rw[Ho];exact⟨d,rfl⟩),q⟩
 .obtain⟨j,f,i,r⟩:=I.tuple c;exact join_tuple i (by simpa using Ch f) l λd k=>⟨tV (iK g b),H,I.tok _,(by rw[Ho];exact⟨d,rfl⟩),q⟩
def PM(K:ay)(r:V->List V->Hp->VK->Prop)(f:Tx->List PV->Option PV):Prop:=∀(F:ag->Prop) (H:Hp) (x:Tx) (xs:List PV) (b:List V) (Q:VK) (pv:PV),x.length<=bE->Reps K H F xs b->f x xs=aa pv->(∀w c a,Al F c H a->a_ K a c pv w->Q w a)->r (tV x) b H Q
def vg:PV->Option Tx
 |.str x=>aa x
 |_=>ae
def ko(f:Tx->List PV->Option PV)(d:ak->R PV)(B:ak->R (List PV)):ak->R PV:=λc=>(d c).bind λx a=>(aE (vg x) a).bind λy a=>(B a).bind λg b=>aE (f y g) b
variable{E:XK}{o e:az}{A:List az}{d:ak->R PV}{B:ak->R (List PV)}{i:Str}{m b:Pos}{C:String}{r:V->List V->Hp->VK->Prop}{f:Tx->List PV->Option PV}
theorem uS(g:PySem.Slot "str" i C)(O:typeOf (.builtin C)=pure (.type "method_descriptor"))(hm:nR X C r)(hp:PM X.K r f)(ho:DE X E o d)(ha:DA X E (e::A) B)(W:j9 o i X.env (aL o X.env)=aL o X.env:=by rfl)(I:((c_ b (aN (e::A) X.env)).all (λx=>!x.1)&&(qW b (qX [] X.env)).all (λx=>x.1.isSome)&&decide ((e::A).length+([]:List jN).length+(if([]:List jN).isEmpty then 0 else 1)<30))=ah:=by rfl)(T:(m.endLine == b.line)=ah:=by rfl) (Z:aN (e::A) X.env=(aj,aL e X.env)::aN A X.env:=by rfl) (D:(c_ b (aN A X.env)).any (·.1)=aj:=by rfl):DE X E (.Call (.Attribute o i m) (e::A) [] b) (ko f d B):=λF S u n H Q L h=>by
 refine b7 (vx PySem.F.plainAttrs_str g O hm bI gX W I T Z D) (ho F S u n H _ L ((Ok.bind h).imp λx c t q s N g1 l v J=>?_));cases x <;> first|exact(show False from l).elim|skip
 rename_i y;obtain⟨rfl,Y⟩:=J;refine⟨rfl,?_⟩;have l:Ok X.K E n t q s ((B c).bind λz a=>aE (f y z) a) _:=l;refine ha t q c n s _ N ((Ok.bind l).imp λxs a F2 S2 H2 M g2 j G P=>?_);cases e:f y xs with
 |none=>rw[e]at j;exact j.elim
 |some pv=>rw[e]at j;exact hp F2 H2 y xs G Q pv Y P e λw F' H' al p=>j F' S2 H' (M.al al) al.grow w p
def sr(g:Tx):List PV->Option PV
 |[.lst xs]=>(e_ xs).bind λa=>if k6 g a<=bE then aa (.str (iK g a))else ae
 |[.tup xs]=>(e_ xs).bind λa=>if k6 g a<=bE then aa (.str (iK g a))else ae
 |_=>ae
theorem GP:PM K (AS K) sr:=λF H g xs z Q pv D u e q=>by
 have l:∀(n:List PV) (p:ag) (c:List V),Reps K H F n c->(cC K H p c\/cR K H p c)->((e_ n).bind λj=>if k6 g j<=bE then aa (PV.str (iK g j))else ae)=aa pv->AS K (tV g) [.ref p] H Q:=λn p c h y e=>by
  cases s:e_ n with
  |none=>rw[s]at e;cases e
  |some j=>
   rw[s,gG]at e;split at e
   .rename_i w;cases e;have x:=(UV.mp (pU s ▸ h)).1;subst x;exact⟨g,p,j,rfl,rfl,y,w,q _ F H (Al.refl ..) ⟨rfl,cP (GO g j) w⟩⟩
   .cases e
 unfold sr at e;split at e
 .obtain⟨v,rfl,a,c,rfl,t,_,h⟩:=fk u;exact l _ a c h (.inl (.inl t)) e
 .obtain⟨v,rfl,a,c,rfl,t,h⟩:=fk u;exact l _ a c h (.inr (cR.of t)) e
 .cases e
theorem Rv(D:X.calm=ah):eC X (.type "list") (λxs H Q=>∃y:Tx,xs=[tV y]/\y.length<=bE/\∀l,H l=ae->Q (.ref l) (upd H l (.lst (y.map sg)))):=by
 intro af s σ H xs us Q I r h;obtain⟨y,rfl,F,q⟩:=h;obtain⟨u,rfl,t,rfl⟩:=vals1 r;have G:(tS y).cps.size=y.length:=by simp[tS]
 refine PySem.call_list_str (I.ok.hd D) (tS y) t (hn:=by rw[G];exact cP F kq) λh' T a O Z hS W=>?_;refine⟨.ref s.heap.objs.size,_,I.laid (t':=T) Z (a9 _) (show cz X.prog X.w _ h' _ (.lst (y.map sg))from⟨by rw[cn];exact cP F kq,a.toList,O,?_,by simpa using hS⟩),rfl,q _ (I.hok.fresh (a9 _))⟩;obtain⟨g,w⟩:=W;rw[G]at g;have M:∀j v,a.toList[j]?=aa v->SignAt (tS y) j v:=λj v e=>w j v (by simpa using e);have J:a.toList.length=y.length:=by simpa using g
 generalize a.toList=L at M J;have x:∀(p:Tx) (L:List ai) (n:Nat),L.length=p.length->(∀(j:Nat) (v:ai),L[j]?=aa v->∃t,∀c,p[j]?=aa c->v=Value.str (tS [c]) t)->bt (p.map sg) L:=by
  intro p
  induction p with
  |nil=>intro L n g _;have:L=[]:=ka g;subst this;exact .nil
  |cons c p Y=>
   intro L n g w;cases L with
   |nil=>cases g
   |cons v L=>obtain⟨t,e⟩:=w 0 v rfl;have e:=e c rfl;subst e;exact .cons ⟨t,rfl⟩ (Y L (n+1) (by simpa using g) λj v e=>by obtain⟨t,z⟩:=w (j+1) v (by simpa using e);exact⟨t,λc D=>z c (by simpa using D)⟩)
 refine x y L 0 J λj v e=>?_;obtain⟨c,u,S,P⟩:=M j v e;refine⟨u,λO N=>?_⟩;have e5:y[j]?=aa c:=by simpa[tS]using S
 rw[e5]at N;cases N;exact P
end
theorem TC:fillsNumberSlot (.type "tuple") "mul"=pure aj :=PySem.fillsNumberSlot_seq (id:="tuple.__mul__") (r:=aa (.builtin "tuple.__rmul__")) F.slot_tuple_mul.lookup (by decide +kernel) F.slot_tuple_rmul.lookup (by decide +kernel)
theorem P8:seqRepeat? (.type "tuple")=pure (aa (.builtin "tuple.__mul__")):=by unfold seqRepeat?;rw[PySem.seqSlot_of (T:="tuple") (name:="__mul__") (id:="tuple.__mul__") F.slot_tuple_mul.lookup (by decide +kernel),PySem.seqSlot_of (T:="tuple") (name:="__rmul__") (id:="tuple.__rmul__") F.slot_tuple_rmul.lookup (by decide +kernel)];rfl
theorem Ub(a:Int)(t:Tok)(l:ag)(b:Array ai)(n:Nat)(i:Option ag)(f:Array (Option ai)):Meets (Builtin.«int.__rmul__» ⟨[.int a t,.ref l],[]⟩) (λ_ R s=>s.heap.get? l=aa {cls:=.type "tuple",dict:=i,data:=.seq b n,slots:=f}/\R (.ok (.ret Value.notImplemented)) s) :=.of_wp λc w A R s h=>by obtain⟨o,g,d,j,m⟩:=s;obtain⟨p,h⟩:=h;wp_walk;exact⟨_,rfl,h⟩
theorem N9(l:ag)(a:Array ai)(n:Nat)(j:Option ag)(c:Array (Option ai))(x:Int)(u:Tok)(i:(decide (x < -(2^63))||decide (x ≥ 2^63))=aj)(y:(a.isEmpty||x == 1)=aj)(v:(decide (x<=0)||a.isEmpty)=aj)(f:¬(a.size*x > (2^63-1) / 8))(t:Builtin.Tuple.tupleTooMany (a.size*x)=aj)(r:((bK x.toNat a).foldl (·++·) #[]).size<=bd):Meets (Builtin.«tuple.__mul__» ⟨[.ref l,.int x u],[]⟩) (λ_ R s=>s.heap.get? l=aa {cls:=.type "tuple",dict:=j,data:=.seq a n,slots:=c}/\R (.ok (.ret (.ref s.heap.objs.size))) {s with heap:=s.heap.push {cls:=.type "tuple",data:=.seq ((bK x.toNat a).foldl (·++·) #[])}}) :=
 .of_wp λb w A R s h=>by
  obtain⟨p,g,d,m,o⟩:=s;obtain⟨q,h⟩:=h
  wp_walk
  refine wpAny_ite_false (decide_eq_false (by rw[i];exact fq)) ?_
  wp_walk
  refine wpAny_ite_false (decide_eq_false f) ?_
  wp_walk
  exact⟨_,rfl,h⟩
section
variable{X:Cx}{K:ay}
def Hl(K:ay):R2:=λx y H Q=>∃a k xs,x=.ref a/\y=.int k/\cR K H a xs/\xs≠[]/\2<=k/\k<=1000/\xs.length<=1000/\∀p,H p=ae->Q (.ref p) (upd H p (.tup (bK k.toNat xs).flatten))
theorem Uc:cb X (iX .Mult) (Hl X.K):=by
 intro af s W H x y v u Q I E D h;obtain⟨l,k,xs,rfl,rfl,M,S,h1,N,J,q⟩:=h;cases E;obtain⟨t,rfl⟩:=D;obtain⟨a,r,G,_⟩:=I.tuple M;obtain⟨⟨P,p,w,f⟩,c,j,n,i⟩:=id G;simp only at j i;subst j i;have hl:=r.length;have d:a≠[]:=λz=>S (r.nil_iff.mp z);have m:List.foldl (λB A=>B++A) #[] (bK k.toNat a.toArray)=(bK k.toNat a).flatten.toArray:=by have:=foldl_rep a k.toNat [];rw[hZ]at this;exact this
 have g:a.toArray.isEmpty=aj:=by cases a with|nil=>exact absurd rfl d|cons=>rfl
 have O:(k == 1)=aj:=by rw[beq_eq_false_iff_ne];lia
 have Y:a.toArray.size*k<=1000000:=by
  rw[cr];have L:(a.length:Int)<=1000:=∅
  have:=Int.mul_le_mul L N ∅ ∅;lia
 refine wpAny_binaryOp_repeat_ref (T:="tuple") (U:="int") (by decide) ⟨_,c,rfl⟩ (λC=>typeIs_int C k t) TC F.fills_int_mul F.slot_int_rmul P8 F.slot_int_index.lookup
  (tR F.slot_int_rmul (typeIs_int s k t) F.entry_int_rmul (F.args_int_rmul_2 _ _) (Ub k t l a.toArray n p f) ⟨c,rfl,⟨_,c,rfl⟩,tR F.slot_tuple_mul ⟨_,c,rfl⟩ F.entry_tuple_mul (F.args_tuple_mul_2 _ _) (N9 l a.toArray n p f k t ?_ ?_ ?_ ?_ ?_ ?_) ⟨c,?_⟩⟩)
 .rw[decide_eq_false ∅,decide_eq_false ∅];rfl
 .rw[g,O];rfl
 .rw[g,decide_eq_false ∅];rfl
 .lia
 .unfold Builtin.Tuple.tupleTooMany;exact decide_eq_false (by rw[k_];lia)
 .rw[m,cr,Bm,k_];have:=zB (show k.toNat<=1000 by lia) (show a.length<=1000 by lia);lia
 .rw[m];refine⟨.ref s.heap.objs.size,_,I.laid (t':=s.toks) (o:=.tup (bK k.toNat xs).flatten) (λb Z q=>bu _ q) (a9 _) ?_,rfl,q _ (I.hok.fresh (a9 _))⟩;refine⟨?_,_,r.rep k.toNat,IL.new _ _⟩;rw[Bm,k_];have:=zB (show k.toNat<=1000 by lia) J;lia
theorem _root_.Pu.Reps.rep{H:Hp}{F:ag->Prop}{xs:List PV}{a:List V}(r:Reps K H F xs a):∀n:Nat,Reps K H F (bK n xs).flatten (bK n a).flatten
 |0=>rfl
 |n+1=>by rw[pC,pC,tQ,tQ];exact r.app (r.rep n)
def xP:PV->PV->Option PV
 |.tup xs,.int k=>if xs≠[]/\2<=k/\k<=1000/\xs.length<=1000 then aa (.tup (bK k.toNat xs).flatten)else ae
 |_,_=>ae
theorem TF:P2 K (Hl K) xP:=λF H x y v u Q pv i g e q=>by
 unfold xP at e;split at e
 .split at e
  .rename_i xs k h;cases e;obtain⟨a,f,rfl,j,b⟩:=i;have d:=b.len;exact⟨a,k,f,rfl,g,cR.of j,(λz=>h.1 (by rw[z]at d;exact ka d.symm)),h.2.1,h.2.2.1,∅,λp c=>q _ F _ (Al.new0 c) ⟨p,_,rfl,upd_same,(Al.new0 c).reps (b.rep _)⟩⟩
  .cases e
 .cases e
end
section
variable{X:Cx}{E:XK}{n:dH}{x:Str}{N':List Str}{cap:List Nat}
variable{pin:List Nat}
theorem LC{F:ag->Prop}{S:Nat->ag->Prop}{m:ak}{f:St}{H:Hp}{D:lu}{i:Nat}{dn:ak->R PO}(O:i∉pin)(Z:aZ X.K F S m f H)(h:iw X.K E pin f F S H (cp i (dF dn) m) D):Ok X.K E f F S H (dn m) (λr _ q t l=>∀a d,fU X.K l q r a d->(∀b,d b->H b=ae/\¬q b/\¬U t b/\∃o,l b=aa o/\eK o)->D.nx (f.set i (aa (.ref a))) l):=by
 unfold cp dF at h;cases s:dn m with
 |no=>rw[s]at h;exact h.elim
 |er c G=>rw[s]at h;exact λx q t l L Y=>h x q t f l L Y (jz.refl _ _)
 |ok r B=>
  rw[s]at h;intro A v p K j a d M u;cases r with
  |dK g=>exact h.elim
  |lls ki=>exact h.elim
  |ins C fs=>exact h.elim
  |dT g=>exact h.elim
  |dN g=>exact h.elim
  |inl C fs y xs=>exact h.elim
  |lst xs=>
   have T:∀b,d b->¬U v b/\∃o,p b=aa o:=λb z=>let ⟨_,_,x3,o,x4,_⟩:=u b z;⟨x3,o,x4⟩
   obtain⟨⟨I,P,N⟩,Q⟩:=M;have W:bD (U S) (U v) F (λb=>A b\/d b) H p:=⟨λb z=>.inl (j.fro b z),j.keep,j.there,λb z=>z.elim (j.fnew b) λw=>.inr (.inl (u b w).1),j.onew⟩
   have J:a_ X.K p (λb=>A b\/d b) (.lst xs) (.ref a):=⟨a,I,rfl,.inl P,.inr ((Q a).mpr rfl),Reps.mono (λ_ z=>.inl z) (λ_ _ _ z=>z) (λ_ _ z _=>z) _ _ N⟩
   exact h _ _ _ p ((K.more T).set J) (W.trans (bD.less i)) (jz.set O)
section
variable{c a:az}{y:Str}{g j f d:Pos}{l:ak->R (List PV)}{dt:ak->R Bool}{de:ak->R PV}{m:ak->R PO}{b:List az}
theorem KM(i:Nat)(P:X.N.Nodup)(B:jD X n x N' cap)(O:X.calm=ah)(L:DI X E (.Name x g) a l)(G:∀C o p r q,DF (cH X n N' C o p r q) E0 b dt) (N:∀C o p r q,DE (cH X n N' C o p r q) E0 c de)(K:i∉pin:=by decide) (z:X.N[i]?=aa y:=by rfl) (A:Loc X.env.scope y:=by first|exact Or.inl rfl|exact Or.inr rfl) (w:kD (.ListComp c [⟨.Name x g,a,b,0⟩] n f) (aa (.Name y j)) d.line X.env=pure ah:=by rfl)(M:X.fn y=ah\/X.env.scope.names.lookup y=aa .local:=by first|exact .inl rfl|exact .inr rfl) (J:∀x,n6 a X.env x=pure x:=by intro _;rfl):DS X E pin (.Assign [.Name y j] (.ListComp c [⟨.Name x g,a,b,0⟩] n f) d) (cp i (dF (dG cap l dt de))):=λF S T t H D v h=>jh (Ti (wi:=tz X (.Name x g) a) (ts:=λt H Q=>∀C o p r q,yk (cH X n N' C o p r q) b t H Q) (te:=λt H Q=>∀C o p r q,jA (cH X n N' C o p r q) c t H Q) B O Cy (λC o p r q u s t H Q I h=>(h C o p r q).run u s I) (λC o p r q u s t H Q I h=>(h C o p r q).run u s I) P z A w M J) (Gw L G N v (LC K v h))
end
def ur:List PV->Option PO
 |[.str y]=>aa (.lst (y.map λc=>.str [c]))
 |_=>ae
theorem P9{K:ay}:kN K (λxs H Q=>∃y:Tx,xs=[tV y]/\y.length<=bE/\∀l,H l=ae->Q (.ref l) (upd H l (.lst (y.map sg)))) ur:=λF H xs f Q g d b e q=>by
 unfold ur at e;split at e
 .cases e;obtain⟨v,rfl,rfl,c⟩:=fk b;exact⟨_,rfl,c,λl a=>q l F _ _ (Al.new0 a) (sE a (AU _)) (sL a d trivial)⟩
 .cases e
end
def dX(a:List Nat):Nat->ak->Bool
 |_,[]=>ah
 |i,.own c::b=>a.contains i&&eR c&&dX a (i+1) b
 |i,_::b=>dX a (i+1) b
theorem oS{c:List Nat}:∀{b:ak}{k:Nat},dX c k b=ah->∀(i:Nat) a,b[i]?=aa (.own a)->k+i∈c/\eR a=ah
 |[],_,_,i,a,e=>by simp at e
 |.own q::b,k,h,0,a,e=>by simp only[List.getElem?_cons_zero,Option.some.injEq,Slot.own.injEq]at e;subst e;simp only[dX,gn]at h;exact⟨by simpa using h.1.1,h.1.2⟩
 |.own q::b,k,h,i+1,a,e=>by simp only[dX,gn]at h;have:=oS (k:=k+1) h.2 i a (by simpa using e);rwa[Jw,pF]at this
 |.val q::b,k,h,0,a,e=>by simp at e
 |.none::b,k,h,0,a,e=>by simp at e
 |.val q::b,k,h,i+1,a,e=>by have:=oS (k:=k+1) (by simpa[dX]using h) i a (by simpa using e);rwa[Jw,pF]at this
 |.none::b,k,h,i+1,a,e=>by have:=oS (k:=k+1) (by simpa[dX]using h) i a (by simpa using e);rwa[Jw,pF]at this
def bh(len:Nat)(b:List Nat)(g:ak->R Slot):ak->R Slot:=λa=>if a.length=len/\dX b 0 a=ah then g a else .no
theorem dm{q:gz}{P:aS}{w:aG}{K:ay}{o:Str->Option ai}{g:aB}{x:Str}{c:ba}{N b:List Str}{k n:Nat}{d:ak->R aK}{pin:List Nat}(D:cD K o x c)(F:b8 N b (a8 c))(v:N.length=b.length+n)(y:∀(kV p t:ai) (C:Option ag) (l B:ai) (m:List ai),m.length=b.length->fZ (iY x x (j5 c) (fX c) (a8 c) .none kV p t C l B) ⟨m,[]⟩=pure (b.zip m))(u:∀(f:ag) (l:ai) (A:aV) (j:List Env) (s:am) (H:Hp) (E:XK),Room k (A.deeper (jt x (a8 c) s.heap.objs.size f l))->gy (iO q P w K o g N x (a8 c) f l A j s H E) E pin (fX c) d):cN q P w K o g x (k+1) b (bJ K (bh b.length pin (bj n d))):=by
 have no:∀{a},bh b.length pin (bj n d) a≠.no->a.length=b.length/\dX pin 0 a=ah:=λ{a} h=>by
  unfold bh at h;by_cases z:a.length=b.length/\dX pin 0 a=ah
  .exact z
  .rw[if_neg z]at h;exact absurd rfl h
 exact T9 D F v y (λa h=>(no h).1) (λa h i r e=>by have:=oS (no h).2 i r e;rwa[oq]at this) (λa h=>by unfold bh;rw[if_pos (no h)]) u
theorem NY{f:ag}{r:iD}{t:gz}{P:aS}{w:aG}{K:ay}{q:Str->Option ai}{j:aB}{x a:Str}{g:ba}{N c:List Str}{k n:Nat}{d:ak->R aK}{pin:List Nat}(I:qf K x a g f r)(G:b8 N c (a8 g))(B:N.length=c.length+n)(C:∀(kV p v:ai) (F:Option ag) (m D:ai) (o:List ai),o.length=c.length->fZ (iY x a (j5 g) (fX g) (a8 g) .none kV p v F m D) ⟨o,[]⟩=pure (c.zip o))(y:∀(f:ag) (m:ai) (A:aV) (l:List Env) (s:am) (H:Hp) (E:XK),Room k (A.deeper (jt a (a8 g) s.heap.objs.size f m))->gy (iO t P w K q j N a (a8 g) f m A l s H E) E pin (fX g) d):lq P w K q j t (k+1) f r c (bJ K (bh c.length pin (bj n d))):=by
 have no:∀{b},bh c.length pin (bj n d) b≠.no->b.length=c.length/\dX pin 0 b=ah:=λ{b} h=>by
  unfold bh at h;by_cases z:b.length=c.length/\dX pin 0 b=ah
  .exact z
  .rw[if_neg z]at h;exact absurd rfl h
 exact GI I G B C (λb h=>(no h).1) (λb h i u e=>by have:=oS (no h).2 i u e;rwa[oq]at this) (λb h=>by unfold bh;rw[if_pos (no h)]) y
theorem Mf{P:aS}{w:aG}{K:ay}{o:Str->Option ai}{g:aB}{x:Str}{c:ba}{N b:List Str}{k n:Nat}{d:ak->R aK}{pin:List Nat}(D:cD K o x c)(C:b8 N b (a8 c))(u:N.length=b.length+n)(v:∀(kV p r:ai) (B:Option ag) (l y:ai) (m:List ai),m.length=b.length->fZ (iY x x (j5 c) (fX c) (a8 c) .none kV p r B l y) ⟨m,[]⟩=pure (b.zip m))(t:∀(f:ag) (l:ai) (A:aV) (j:List Env) (s:am) (H:Hp),kU k (A.deeper (jt x (a8 c) s.heap.objs.size f l))->gy (vF P w K o g N x (a8 c) f l A j s H) E0 pin (fX c) d):xQ P w K o g x (k+1) b (bJ K (bh b.length pin (bj n d))):=by
 have no:∀{a},bh b.length pin (bj n d) a≠.no->a.length=b.length/\dX pin 0 a=ah:=λ{a} h=>by
  unfold bh at h;by_cases z:a.length=b.length/\dX pin 0 a=ah
  .exact z
  .rw[if_neg z]at h;exact absurd rfl h
 exact Kb D C u v (λa h=>(no h).1) (λa h i q e=>by have:=oS (no h).2 i q e;rwa[oq]at this) (λa h=>by unfold bh;rw[if_pos (no h)]) t
theorem HW{P:List ai->Prop}(h:∀a,P [a])(c:List ai)(d:c.length=1):P c:=by
 cases c with
 |nil=>cases d
 |cons a r=>cases r with
  |nil=>exact h a
  |cons b r=>cases d
theorem Io{P:List ai->Prop}(h:∀a b,P [a,b])(c:List ai)(d:c.length=2):P c:=by
 cases c with
 |nil=>cases d
 |cons a r=>exact HW (P:=λr=>P (a::r)) (h a) r (Dd d)
theorem Fp{P:List ai->Prop}(h:∀a b c,P [a,b,c])(d:List ai)(f:d.length=3):P d:=by
 cases d with
 |nil=>cases f
 |cons a r=>exact Io (P:=λr=>P (a::r)) (h a) r (Dd f)
theorem SY{P:List ai->Prop}(h:∀a b c d,P [a,b,c,d])(f:List ai)(g:f.length=4):P f:=by
 cases f with
 |nil=>cases g
 |cons a r=>exact Fp (P:=λr=>P (a::r)) (h a) r (Dd g)
theorem U5{d:iD}{c:List Str}(h:∀a,fZ d ⟨[a],[]⟩=pure (c.zip [a]))(b:List ai)(f:b.length=1):fZ d ⟨b,[]⟩=pure (c.zip b):=HW (P:=λb=>fZ d ⟨b,[]⟩=pure (c.zip b)) h b f
theorem US{f:iD}{d:List Str}(h:∀a b,fZ f ⟨[a,b],[]⟩=pure (d.zip [a,b]))(c:List ai)(g:c.length=2):fZ f ⟨c,[]⟩=pure (d.zip c):=Io (P:=λc=>fZ f ⟨c,[]⟩=pure (d.zip c)) h c g
theorem U2{g:iD}{f:List Str}(h:∀a b c,fZ g ⟨[a,b,c],[]⟩=pure (f.zip [a,b,c]))(d:List ai)(i:d.length=3):fZ g ⟨d,[]⟩=pure (f.zip d):=Fp (P:=λd=>fZ g ⟨d,[]⟩=pure (f.zip d)) h d i
theorem Ve{i:iD}{g:List Str}(h:∀a b c d,fZ i ⟨[a,b,c,d],[]⟩=pure (g.zip [a,b,c,d]))(f:List ai)(j:f.length=4):fZ i ⟨f,[]⟩=pure (g.zip f):=SY (P:=λf=>fZ i ⟨f,[]⟩=pure (g.zip f)) h f j
theorem jl{P:aS}{w:aG}{X:Cx}:sN (cm P w) X E0:=λ_ _ _ _ _ _ _ h=>by obtain⟨a,T,c,b,_,_,_,_,_,_,_,z⟩:=h;exact z.elim
theorem im:eM "len"=aa (.builtin "len"):=by decide +kernel
theorem Iy:eM "all"=aa (.builtin "all"):=by decide +kernel
theorem Qb:eM "any"=aa (.builtin "any"):=by decide +kernel
theorem nD:eM "sorted"=aa (.builtin "sorted"):=by decide +kernel
theorem io:eM "isinstance"=aa (.builtin "isinstance"):=by decide +kernel
theorem Qr:eM "int"=aa (.type "int"):=by decide +kernel
theorem Qc:eM "bool"=aa (.type "bool"):=by decide +kernel
theorem Gm:eM "str"=aa (.type "str"):=by decide +kernel
theorem AG:eM "list"=aa (.type "list"):=by decide +kernel
theorem sD:eM "tuple"=aa (.type "tuple"):=by decide +kernel
theorem Gg:eM "set"=aa (.type "set"):=by decide +kernel
theorem RI:eM "ValueError"=aa (.type "ValueError"):=by decide +kernel
def mq:az->Bool
 |.Starred _ _=>ah
 |_=>aj
theorem km{e:az}{es:List az}{env:Env}(h:mq e=aj):aN (e::es) env=(aj,aL e env)::aN es env:=by
 cases e <;> first|rfl|cases h
section
variable{X:Cx}{E:XK}{e:az}{a:List az}{d:ak->R PV}{b:ak->R (List PV)}{c:ak->R (List cq)}
theorem aw(g:DE X E e d)(f:DA X E a b)(h:mq e=aj:=by rfl):DA X E (e::a) (ap d b):=OE g f (km h)
theorem aT(g:DE X E e d)(f:DG X E a c)(h:mq e=aj:=by rfl):DG X E (e::a) (gV d c):=L3 g f (km h)
end
def u7:List ai:=[.type "ValueError",.type "Exception",.type "BaseException",.type "object"]
theorem Cc{K:ay}{h:aB}{C:ag}{B:List ai}{nw:String}(X:K.In h)(q:pG K C B nw=ah):∃i N v p bs D j a F c E A z y x w g,h.get? C=aa (Db v p C N bs i D j a F c E A z y x w nw)/\h.Ns N g/\g "__init__"=ae/\OwnTail h B i:=by
 unfold pG at q;split at q
 case h_2=>cases q
 case h_1 d0 cdata slots look=>
  split at q
  case h_2=>cases q
  case h_1 C2 tl s0 s1 s2 s3 nn s5 em es=>
   rw[gn,gn,gn,gn,gn]at q;obtain⟨⟨⟨⟨⟨u,t⟩,f⟩,s⟩,b⟩,r⟩:=q;have o:=beq_iff_eq.mp u;have n:=beq_iff_eq.mp t;have d:=beq_iff_eq.mp r;subst o n;cases cdata;dsimp only at em f b d;subst em;have m:=Jx _ |>.mp f
   subst m;have l:slots=#[s0,s1,s2,s3,aa (.builtin nn),s5]:=by cases slots;exact congrArg Array.mk es
   subst l;exact⟨tl,_,_,_,_,_,_,_,_,_,d0,s0,s1,s2,s3,s5,_,X _ _ look,Heap.Ns.of_isNs (PySem.W.isNs_of_in X b),PySem.W.nsMap_none_of_in X b d,PySem.W.tail_of_in X s⟩
theorem E2{K:ay}{h:aB}{a:Str->Option ai}{x:Str}{C:ag}{B:List ai}{nw:String}(X:K.In h)(e:a x=aa (.ref C))(q:pG K C B nw=ah):OwnCls x C B nw a h:=⟨e,Cc X q⟩
theorem Sj{K:ay}{h:aB}{C:ag}{nw:String}(X:K.In h)(q:pG K C u7 nw=ah):qG h C:=by obtain⟨p,N,f,d,bs,n,c,a,r,b,o,m,l,j,i,g,s,e,_,_,t⟩:=Cc X q;exact⟨p,N,f,d,bs,n,c,a,r,b,o,m,l,j,i,g,nw,e,t.hasType rfl⟩
def subB(K:ay)(D C:ag):Bool:=match K.lookup C with
 |some ⟨_,_,.cls a,_⟩=>a.mro.contains (.ref D)
 |_=>aj
theorem MH{K:ay}{h:aB}{C D:ag}{B:List ai}{nw:String}(X:K.In h)(q:pG K C B nw=ah)(s:subB K D C=ah):Under h D (.ref C):=by
 obtain⟨r,N,g,f,bs,o,d,a,t,c,p,n,m,l,j,i,x,e,_⟩:=Cc X q;refine⟨C,r,N,g,f,bs,o,d,a,t,c,p,n,m,l,j,i,nw,rfl,e,?_⟩;unfold subB at s;split at s
 .rename_i w v y u look;have b:=X _ _ look;rw[e]at b;unfold Db at b;cases b;exact s
 .cases s
def ye(K:ay)(C:ag):Bool :=
 qP K (.ref C) "__getattribute__" == aa (aa (.builtin "BaseException.__getattribute__"))&&qP K (.ref C) "__getattr__" == aa ae&&qP K (.ref C) "__class__" == aa (aa (.builtin "object.__class__")) &&
 IV K (.builtin "object.__class__") "__get__" == aa (aa (.builtin "getset_descriptor.__get__"))&&PySem.W.takesIn K (.builtin "object.__class__") == aa ah&&zp K C (.type "object") == aa ah&&zp K C (.type "BaseException") == aa ah&&(Dc K C).isSome
theorem Fv{K:ay}{C:ag}(h:ye K C=ah):o4 K C:=by simp only[ye,gn,beq_iff_eq]at h;obtain⟨⟨⟨⟨⟨⟨⟨j,i⟩,g⟩,f⟩,d⟩,c⟩,b⟩,a⟩:=h;exact⟨j,i,g,f,d,c,b,a⟩
def z7(K:ay):Bool:=K.all λp=>match p.2.cls with
 |.type t=>t != "list"
 |_=>ah
theorem HG{a:ag}{o:Obj}:∀{K:ay},K.lookup a=aa o->(a,o)∈K
 |[],e=>by cases e
 | (b,u)::K,e=>by
  rw[lg]at e;cases q:a == b with
  |true=>rw[q]at e;cases e;rw[beq_iff_eq.mp q];exact lL ..
  |false=>rw[q]at e;exact k8 _ (HG e)
theorem GC{K:ay}{H:Hp}{F:ag->Prop}:∀a:List Int,Reps K H F (a.map .int) (a.map V.int)
 |[]=>rfl
 |x::a=>⟨.int x,a.map V.int,rfl,rfl,GC a⟩
theorem RQ{K:ay}{H:Hp}{a:ag}{xs:List V}(h:z7 K=ah)(s:cC K H a xs):Rd H a (.lst xs):=by
 rcases s with s|⟨o,c,n,b,d,_⟩
 .exact s
 .have:=q8.mp h _ (HG b);rw[d]at this;simp at this
theorem SQ{K:ay}{g:ak->R Slot}{H:Hp}{a:ag}{c:List Int}{E:XK}(d:Rd H a (.lst (c.map V.int)))(h:g [.val (.lst (c.map .int))]=.ok (.val (.bl ah)) [.val (.lst (c.map .int))]):bJ K g [.ref a] H (λv _=>v=.bl ah) E:=by
 refine⟨λb=>b=a,λ_ _=>False,[.val (.lst (c.map .int))],⟨rfl,λb e=>?_,λi pv e=>?_,λi l e=>?_,λi b z=>z.elim,λi j b z=>z.elim⟩,?_⟩
 .subst e;rcases d with d|⟨o,d⟩ <;> exact⟨_,d⟩
 .cases i with
  |zero=>cases e;exact⟨_,rfl,a,_,rfl,d,rfl,GC c⟩
  |succ i=>simp at e
 .cases i with
  |zero=>cases e
  |succ i=>simp at e
 .rw[h];exact λv q n p m _ _ f _ _=>f.1
theorem U_{K:ay}{x:Str}{i:Int}{t:Tok}(e:df K bU x=aa (aa (.int i t))):∃t,df K bU x=aa (aa (.int i t)):=⟨t,e⟩
theorem U6{K:ay}{x:Str}{l:Tx}{t:Tok}(e:df K bU x=aa (aa (.str (tS l) t))):∃t,df K bU x=aa (aa (.str (tS l) t)):=⟨t,e⟩
def cW(K:ay)(x:Str)(a:ba):Prop:=∃f oc g kV h d j b i c,df K bU x=aa (aa (.ref f))/\K.lookup f=aa ⟨oc,g,.func (iY x x (j5 a) (fX a) (a8 a) .none kV h d j b i),c⟩/\vT K b x=ah/\qQ K (.ref f)=ah
theorem UQ{K:ay}{x:Str}{b:ba}{f:ag}{oc kV j h d m:ai}{i n:Option ag}{g:Array (Option ai)}(a:df K bU x=aa (aa (.ref f)))(l:K.lookup f=aa ⟨oc,i,.func (iY x x (j5 b) (fX b) (a8 b) .none kV j h n d m),g⟩)(c:vT K d x=ah) (k:qQ K (.ref f)=ah):cW K x b:=⟨f,oc,i,kV,j,h,n,d,m,g,a,l,c,k⟩
theorem cW.at{K:ay}{h:aB}{mg:Str->Option ai}{x:Str}{st:ba}(d:cW K x st)(X:K.In h)(G:h.Ns bU mg):cD K mg x st:=by obtain⟨f,oc,i,kV,j,g,n,m,ct,b,a,l,c,k⟩:=d;exact⟨f,_,h_ X G a,Hz l c k⟩
def j4(a:List (aD×PV))(k:aD):Option PV:=(a.find? λb=>decide (b.1=k)).map (·.2)
def oR(a:List (aD×PV))(k:aD)(v:PV):List (aD×PV):=if(a.any λb=>decide (b.1=k))=ah then a.map (λb=>if b.1=k then(b.1,v)else b)else a++[(k,v)]
def jf:PV->Option aD
 |.int i=>aa (.inl i)
 |.str x=>aa (.inr (tS x))
 |_=>ae
section
variable{K:ay}{F:ag->Prop}{S:Nat->ag->Prop}{ε:ak}{l:St}{H:Hp}{i:Nat}{d:List (aD×PV)}{f:List (aD×V)}{a:ag}
theorem vy{x:PV}{v:V}{k:aD}(r:a_ K H F x v)(e:jf x=aa k):v=kV k:=by
 cases x <;> simp[jf]at e
 .subst e;exact r
 .subst e;exact r.1
theorem iC.len(h:iC K H F d f):f.length=d.length:=by
 unfold iC at h
 induction h with
 |nil=>rfl
 |cons _ _ b=>simp[b]
theorem iC.val(h:iC K H F d f)(k:aD):(∃x v,j4 d k=aa x/\fV f k=aa v/\a_ K H F x v)\/(j4 d k=ae/\fV f k=ae):=by
 unfold iC at h
 induction h with
 |nil=>exact .inr ⟨rfl,rfl⟩
 |@cons p q ps qs r _ ih=>
  by_cases e:p.1=k
  .refine .inl ⟨p.2,q.2,by simp[j4,iZ,e],?_,r.2⟩;rw[sU (by rw[<-r.1];exact e)]
  .have b:¬q.1=k:=by rw[<-r.1];exact e
   rw[sI b];have:j4 (p::ps) k=j4 ps k:=by simp[j4,iZ,e]
   rw[this];exact ih
theorem iC.any(h:iC K H F d f)(k:aD):(d.any λb=>decide (b.1=k))=f.any λb=>decide (b.1=k):=by
 unfold iC at h
 induction h with
 |nil=>rfl
 |cons r _ c=>rw[qV,qV,c,r.1]
theorem iC.put(h:iC K H F d f)(k:aD){x:PV}{v:V}(r:a_ K H F x v):iC K H F (oR d k x) (iy f k v):=by
 unfold oR iy;rw[h.any k];split
 .rename_i b;clear b;unfold iC at h ⊢
  induction h with
  |nil=>exact .nil
  |@cons p q ps qs r1 _ ih=>
   refine .cons ?_ ih;dsimp only;by_cases e:p.1=k
   .rw[if_pos e,if_pos (by rw[<-r1.1];exact e)];exact⟨r1.1,r⟩
   .rw[if_neg e,if_neg (by rw[<-r1.1];exact e)];exact r1
 .exact zu h ⟨rfl,r⟩
theorem aZ.dkAt(r:aZ K F S ε l H)(e:ε[i]?=aa (.own (.dK d))):∃a f,l[i]?=aa (aa (.ref a))/\H a=aa (.dK f)/\iC K H F d f/\S i a/\∀b,S i b->b=a:=by obtain⟨a,n,⟨g,m,j⟩,c⟩:=r.own i _ e;exact⟨a,g,n,m,j,(c a).mpr rfl,λb h=>(c b).mp h⟩
theorem aZ.updO{p po':PO}{o':HO}(r:aZ K F S ε l H)(e:ε[i]?=aa (.own p))(O:eR p=ah)(E:l[i]?=aa (aa (.ref a)))(N:eK o')(h:∀y,(∀x v,a_ K H F x v->a_ K y F x v)->(∀x v,Reps K H F x v->Reps K y F x v)->y a=aa o'->∀I:ag->Prop,(∀b,I b↔b=a)->fU K y F po' a I):aZ K F S (ε.set i (.own po')) l (L2.upd H a o')/\bD (U S) (U S) F F H (L2.upd H a o'):=by
 obtain⟨P,G,M⟩:=r.own i p e;rw[E]at G;cases G;have s:=FG M O;have B:S i a:=(s a).mpr rfl;have D:∀b,S i b->b=a:=λb z=>(s b).mp z;have A:i<ε.length:=(d7.mp e).1;have g:bD (U S) (U S) F F H (L2.upd H a o'):=⟨λ_ z=>z,λb o q n=>by rw[br (by rintro rfl;exact n ⟨i,B⟩)];exact q,λb o q=>by
  by_cases C:b=a
  .subst C;exact⟨_,upd_same⟩
  .exact⟨o,by rw[br C];exact q⟩,λ_ z=>.inl z,λ_ z=>.inl z⟩
 refine⟨⟨by rw[g_];exact r.len,λb z=>let ⟨o,q⟩:=r.ex b z;g.there b o q,λj pv q=>?_,λj p q=>?_,λj b z=>?_,r.dist⟩,g⟩
 .have m:i≠j:=by rintro rfl;rw[gF A]at q;cases q
  rw[fe m]at q;obtain⟨v,u,t⟩:=r.val j pv q;exact⟨v,u,t.grow g r.fit⟩
 .by_cases m:i=j
  .subst m;rw[gF A]at q;cases q;exact⟨a,E,h _ (λ_ _ z=>z.grow g r.fit) (λ_ _ z=>z.grow g r.fit) upd_same _ s⟩
  .rw[fe m]at q;obtain⟨c,u,t⟩:=r.own j p q;refine⟨c,u,t.mono (λ_ _ z=>z.grow g r.fit) (λ_ _ z=>z.grow g r.fit) λb o z w=>?_⟩;rw[br (by rintro rfl;exact m (r.dist i j b B z))];exact w
 .obtain⟨⟨p,u⟩,t,o,L,J⟩:=r.foot j b z;by_cases m:i=j
  .subst m;rw[D b z];exact⟨⟨_,gF A⟩,by rw[<-D b z];exact t,_,upd_same,N⟩
  .exact⟨⟨p,by rw[fe m];exact u⟩,t,o,by rw[br (by rintro rfl;exact m (r.dist i j b B z))];exact L,J⟩
end
def dA(b:ak)(i:Nat):Option (List (aD×PV)):=match b[i]? with
 |some (.own (.dK a))=>aa a
 |_=>ae
theorem lG{b:ak}{i:Nat}{a:List (aD×PV)}(h:dA b i=aa a):b[i]?=aa (.own (.dK a)):=by
 unfold dA at h;split at h
 .cases h;assumption
 .cases h
section
variable{X:Cx}{E:XK}{pin:List Nat}{e b c:az}{de db f:ak->R PV}{d:Pos}
def sH:ak->R PO:=λa=>.ok (.dK []) a
theorem E3:DN X E (.Dict [] [] d) sH:=λF S l i H Q g h=>b7 MV λp a=>by
 have al:Al F F H (upd H p (.dK [])):=Al.new0 a;refine h F S _ (g.al al) al.grow p (λb=>b=p) ⟨⟨[],upd_same,.nil⟩,λb=>rh⟩ λb z=>?_;subst z;refine⟨a,λz=>?_,λ⟨j,z⟩=>?_,_,upd_same,trivial⟩
 .obtain⟨o,q⟩:=g.ex b z;rw[a]at q;cases q
 .obtain⟨_,_,o,q,_⟩:=g.foot j b z;rw[a]at q;cases q
def nM(i:Nat)(db:ak->R PV):ak->R PV:=λg=>(aE (dA g i) g).bind λ_ g=>(db g).bind λk a=>(aE (dA a i) a).bind λh a=>aE ((jf k).bind λk=>j4 h k) a
theorem Ga(i:Nat){y:Str}{z:Pos}(Z:X.A.units+64<cLine)(K:DE X E b db)(M:X.N[i]?=aa y:=by rfl)(N:eD X.env.scope y:=by first|exact Or.inl rfl|exact Or.inr (Or.inl rfl)|exact Or.inr (Or.inr rfl))(J:(y==("__debug__":Str))=aj:=by decide) (O:(y==("__classdict__":Str))=aj:=by decide) (G:u5 b:=by exact λ_ _=>rfl):DE X E (.Subscript (.Name y z) b d) (nM i db):=λF S o w H Q p h=>by
 unfold nM at h;cases n:dA o i with
 |none=>rw[n]at h;exact h.elim
 |some s=>
  rw[n]at h;simp only[cg,R.bind_ok]at h;obtain⟨a,A,t,_⟩:=p.dkAt (lG n);refine b7 (Kk ∅ (fE M N J O) bI G) ⟨.ref a,t,K F S o w H _ p ((Ok.bind h).imp λk j W P T r g1 q u B=>?_)⟩;cases m:dA j i with
  |none=>rw[m]at q;exact q.elim
  |some D=>
   rw[m]at q;simp only[cg,R.bind_ok]at q;obtain⟨a',Y,g,L,I,_⟩:=r.dkAt (lG m);rw[t]at g;cases g;cases l:jf k with
   |none=>rw[l]at q;exact q.elim
   |some C=>
    rw[l,gG]at q;rw[vy B l];rcases I.val C with⟨x,v,h1,h2,h3⟩|⟨h1,h2⟩
    .rw[h1]at q;exact⟨a,v,rfl,by rw[<-h2];exact lp.k L,q W P T r (bD.refl ..) v h3⟩
    .rw[h1]at q;exact q.elim
def iU(i:Nat)(db f:ak->R PV):ak->R PV:=λg=>(aE (dA g i) g).bind λ_ g=>(db g).bind λk h=>(f h).bind λz a=>(aE (dA a i) a).bind λj a=>aE ((jf k).map λk=>(j4 j k).getD z) a
theorem yJ(i:Nat){y:Str}{j g:Pos}(hu:X.A.units+64<cLine)(hb:DE X E b db)(hc:DE X E c f)(hN:X.N[i]?=aa y:=by rfl)(d8:eD X.env.scope y:=by first|exact Or.inl rfl|exact Or.inr (Or.inl rfl)|exact Or.inr (Or.inr rfl))(hd:(y==("__debug__":Str))=aj:=by decide) (bv:(y==("__classdict__":Str))=aj:=by decide)(l:j9 (.Name y j) "get" X.env (aL (.Name y j) X.env)=aL (.Name y j) X.env:=by rfl) (A:(g.endLine == d.line)=ah:=by rfl) (Z:mq b=aj:=by rfl) (Y:mq c=aj:=by rfl):DE X E (.Call (.Attribute (.Name y j) "get" g) [b,c] [] d) (iU i db f):=λF S I G H Q K h=>by
 have J:aN [b,c] X.env=[(aj,aL b X.env),(aj,aL c X.env)]:=by rw[km Z,km Y];rfl
 have m:M2 X (.Name y j) "get" g b c d:=⟨l,by rw[J];rfl,A,by rw[J];rfl⟩
 unfold iU at h;cases D:dA I i with
 |none=>rw[D]at h;exact h.elim
 |some L=>
  rw[D]at h;simp only[cg,R.bind_ok]at h;obtain⟨a,W,N,t,_⟩:=K.dkAt (lG D);refine b7 (M0 ∅ (fE hN d8 hd bv) bI bI m) ⟨.ref a,N,a,rfl,.inl ⟨_,.inl t⟩,hb F S I G H _ K ((Ok.bind h).imp λk p F1 S1 H1 r1 g1 q u ru=>?_)⟩;refine hc F1 S1 p G H1 _ r1 ((Ok.bind q).imp λz o T O P s g2 q w r=>?_);cases C:dA o i with
  |none=>rw[C]at q;exact q.elim
  |some kvs=>
   rw[C]at q;simp only[cg,R.bind_ok]at q;obtain⟨a',ws,n,M,hk,_⟩:=s.dkAt (lG C);rw[N]at n;cases n;cases B:jf k with
   |none=>rw[B]at q;exact q.elim
   |some ky=>
    rw[B,pE]at q;rw[vy ru B];rcases hk.val ky with⟨x,v,l,h2,A⟩|⟨l,h2⟩
    .rw[l]at q;exact⟨aa v,by rw[<-h2];exact lp.k M,q T O P s (bD.refl ..) v A⟩
    .rw[l]at q;exact⟨ae,by rw[<-h2];exact lp.k M,q T O P s (bD.refl ..) w r⟩
def fO(i:Nat)(db de:ak->R PV):ak->R aK:=λj=>(de j).bind λy g=>(aE (dA g i) g).bind λ_ g=>(db g).bind λk a=>(aE (dA a i) a).bind λh a=>(aE (jf k) a).bind λk a=>if h.length<bE then .ok .next (a.set i (.own (.dK (oR h k y))))else .no
theorem qK(i:Nat){y:Str}{C j:Pos}(hu:X.A.units+64<cLine)(hb:DE X E b db)(Z:DE X E e de)(hN:X.N[i]?=aa y:=by rfl)(d8:eD X.env.scope y:=by first|exact Or.inl rfl|exact Or.inr (Or.inl rfl)|exact Or.inr (Or.inr rfl))(hd:(y==("__debug__":Str))=aj:=by decide) (bv:(y==("__classdict__":Str))=aj:=by decide) (W:kD e (aa (.Subscript (.Name y C) b j)) d.line X.env=pure aj:=by rfl):DS X E pin (.Assign [.Subscript (.Name y C) b j] e d) (fO i db de):=λF S K o H D P h=>by
 refine jh (LR ∅ (fE hN d8 hd bv) bI bI W) (Z F S K o H _ P (h.bindE.imp λy l F1 S1 H1 r g1 q v N=>?_));cases B:dA l i with
 |none=>rw[B]at q;exact q.elim
 |some I=>
  rw[B]at q;simp only[cg,R.bind_ok]at q;obtain⟨a,L,z,ha0,_⟩:=r.dkAt (lG B);refine⟨.ref a,z,hb F1 S1 l o H1 _ r (q.bindE.imp λk p F2 S2 H2 G g2 g u O=>?_)⟩;cases n:dA p i with
  |none=>rw[n]at g;exact g.elim
  |some t=>
   rw[n]at g;simp only[cg,R.bind_ok]at g;obtain⟨a',M,m,ha,J,_⟩:=G.dkAt (lG n);rw[z]at m;cases m;cases A:jf k with
   |none=>rw[A]at g;exact g.elim
   |some s=>
    rw[A]at g;simp only[cg,R.bind_ok]at g;split at g
    .rename_i Y;rw[vy O A];have cK:=J.put s (N.grow g2 r.fit);obtain⟨Q,g3⟩:=G.updO (po':=.dK (oR t s y)) (o':=.dK (iy M s v)) (lG n) rfl z trivial λH' T m2 x Sa w=>⟨⟨_,x,cK.mono T⟩,w⟩
     exact⟨a,_,rfl,CB.k ha (by rw[J.len];exact fY Y kq),g F2 S2 o _ Q g3 (jz.refl _ _)⟩
    .exact g.elim
end
section
variable{X:Cx}
def iT(a d:ag):HO:=.ext λh=>h.IsValuesView a d
theorem GN:nR X "dict.values" (λx xs H Q=>∃d b,x=.ref d/\xs=[]/\H d=aa (.dK b)/\∀a,H a=ae->Q (.ref a) (upd H a (iT a d))):=by
 intro y s r H x xs v t Q I g i h;obtain⟨d,b,rfl,rfl,p,q⟩:=h;cases g;cases i.zero;obtain⟨z,n,f,j,c⟩:=yy I.hok p;refine call_meetsIn Jy c.typeIs PySem.F.entry_dict_values (PySem.F.args_dict_values_1 _) (meets_dict_values (gU X.prog X.w) d n) ⟨⟨f,c⟩,?_⟩;refine⟨.ref s.heap.objs.size,_,I.laid (a:=s.heap.objs.size) (o:=iT s.heap.objs.size d) (t':=s.toks) (λ_ _ q=>bu _ q) (a9 _) ?_,rfl,q _ I.fresh⟩;exact⟨⟨_,cI _ rfl,rfl,rfl⟩,⟨_,cI _ rfl⟩,λw u ⟨o,m,l⟩ k=>⟨o,k o m,l⟩⟩
theorem KV.at{a:List (aD×V)}{vs:List (aD×ai)}(r:KV a vs){i:Nat}{k:aD}{u:ai}(h:vs[i]?=aa (k,u)):∃v,a[i]?=aa (k,v)/\RelV v u:=by
 unfold KV at r
 induction r generalizing i with
 |nil=>simp at h
 |@cons p q ps qs r1 _ ih=>
  cases i with
  |zero=>simp at h;subst h;exact⟨p.2,by simp[show k=p.1 from r1.1.symm],r1.2⟩
  |succ i=>exact ih (by simpa using h)
def kY(a:List (aD×V)):Option Bool:=match a with
 |[]=>aa aj
 | (_,.int i)::r=>(kY r).map λb=>(decide (i≠0))||b
 |_=>ae
theorem Gi:∀{a:List (aD×V)}{b:Bool},kY a=aa b->(∀(i:Nat) k v,a[i]?=aa (k,v)->∃n,v=.int n)/\b=(dy a.length).any λi=>match a[i]? with|aa (_,.int n)=>decide (n≠0)|_=>aj
 |[],b,h=>by simp[kY]at h;subst h;exact⟨by simp,rfl⟩
 | (k,.int n)::r,b,h=>by
  simp only[kY,mF]at h;obtain⟨l,j,g⟩:=h;obtain⟨f,d⟩:=Gi j;refine⟨λi c v e=>?_,?_⟩
  .cases i with
   |zero=>simp at e;exact⟨n,e.2.symm⟩
   |succ i=>exact f i c v (by simpa using e)
  .rw[eh,v9,qV,List.any_map,<-g,d];rfl
 | (_,.non)::_,_,h=>by simp[kY]at h
 | (_,.bl _)::_,_,h=>by simp[kY]at h
 | (_,.str _)::_,_,h=>by simp[kY]at h
 | (_,.ref _)::_,_,h=>by simp[kY]at h
 | (_,.ty _)::_,_,h=>by simp[kY]at h
theorem L_(O:X.calm=ah):eC X (.builtin "any") (λxs H Q=>∃(p d:ag) (a:List (aD×V)) (b:Bool),xs=[.ref p]/\H p=aa (iT p d)/\H d=aa (.dK a)/\kY a=aa b/\Q (.bl b) H):=by
 intro Z s C H xs us Q I r h;obtain⟨p,d,a,b,rfl,m,N,S,q⟩:=h;obtain⟨u,rfl,E⟩:=vals1 r;cases E;obtain⟨l,_,_⟩:=(show cz X.prog X.w H s.heap p (iT p d)from I.hok p _ m)
 obtain⟨z,hs,g,f,Y⟩:=yy I.hok N;obtain⟨A,j⟩:=Y.dictAt;obtain⟨L,K⟩:=Gi S;refine call_any_walk (wpAny_pyIter_values l j ?_);refine⟨s.heap.objs.size,_,_,_,_,_,λi=>match a[i]? with|aa (_,.int n)=>decide (n≠0)|_=>aj,rfl,Walks.dictValues (z9 (I.ok.hd O)) _ d (c8 j.lt_size) g A,⟨⟨_,cI _ rfl,rfl,rfl⟩,j.push _⟩,λi v s' Q' E' l y=>?_,λh' D k=>?_⟩
 .obtain⟨J,M⟩:=l;obtain⟨w,B,W⟩:=KV.at f M;obtain⟨n,rfl⟩:=L i J w B;obtain⟨t,rfl⟩:=W;dsimp only at y;rw[B]at y;exact PyProof.Rows.truthy_int (by rw[show(n != 0)=decide (n≠0) by by_cases z:n=0 <;> simp[z]];exact y)
 .have I1:Inv X Z C H {s with heap:=s.heap.push {cls:=.type "dict_valueiterator",data:=.fields #[.ref d,.int 0 0,.int g.length 0,.int A 0]},toks:=s.toks}:=I.kept (t':=s.toks) λb o e=>bu _ e;have T:(dy g.length).any (λi=>match a[i]? with|aa (_,.int n)=>decide (n≠0)|_=>aj)=b:=by rw[<-f.length];exact K.symm
  rw[T];exact⟨.bl _,H,Inv.turned (t':=D) I1 (it:=s.heap.objs.size) (λb o P e=>k b o (by simpa using P) e) I.fresh (mC I.lt) (.inr I.sz) (λx c e z=>by obtain⟨v,F⟩:=I.cell x c e;exact absurd F.lt (by rw[z];exact fG _)) (λG m z=>absurd (bR (I.pin G m).1) (by rw[z];exact fG _)),rfl,q⟩
end
section
variable{X:Cx}{E:XK}{pin:List Nat}{e b c:az}{de db G:ak->R PV}{t:Pos}
def qE:List (aD×PV)->Option Bool
 |[]=>aa aj
 | (_,.int i)::r=>(qE r).map λb=>(decide (i≠0))||b
 |_=>ae
theorem QF{K:ay}{H:Hp}{F:ag->Prop}{a:List (aD×PV)}{d:List (aD×V)}{k:Bool}(h:iC K H F a d)(e:qE a=aa k):kY d=aa k:=by
 unfold iC at h
 induction h generalizing k with
 |nil=>exact e
 |@cons p q C qs r _ ih=>
  obtain⟨l,pv⟩:=p;obtain⟨j,g⟩:=q;cases pv <;> simp only[qE,mF]at e <;> try cases e
  obtain⟨i,f⟩:=r;obtain rfl:g=V.int _:=f;rename_i h;simp only[kY,ih h.1,pE];rw[<-h.2]
def uY(i:Nat):ak->R PV:=λa=>(aE (dA a i) a).bind λd a=>aE ((qE d).map .bl) a
theorem Pp(i:Nat){y:Str}{g p f d:Pos}(D:X.calm=ah)(z:X.mg "any"=ae)(I:X.N[i]?=aa y:=by rfl)(L:eD X.env.scope y:=by first|exact Or.inl rfl|exact Or.inr (Or.inl rfl)|exact Or.inr (Or.inr rfl))(C:(y==("__debug__":Str))=aj:=by decide) (M:(y==("__classdict__":Str))=aj:=by decide) (B:Gl X "any":=by rfl)(x:j9 (.Name y g) "values" X.env (aL (.Name y g) X.env)=aL (.Name y g) X.env:=by rfl) (w:(f.endLine == d.line)=ah:=by rfl)(u:aN [.Call (.Attribute (.Name y g) "values" f) [] [] d] X.env=(aj,aL (.Call (.Attribute (.Name y g) "values" f) [] [] d) X.env)::aN [] X.env:=by rfl) (K:(c_ t (aN [] X.env)).any (·.1)=aj:=by rfl):DE X E (.Call (.Name "any" p) [.Call (.Attribute (.Name y g) "values" f) [] [] d] [] t) (uY i):=λF S v O H Q s h=>by
 unfold uY at h;cases o:dA v i with
 |none=>rw[o]at h;exact h.elim
 |some l=>
  rw[o]at h;simp only[cg,R.bind_ok]at h;obtain⟨a,r,J,j,A,P,_⟩:=s.dkAt (lG o);cases n:qE l with
  |none=>rw[n]at h;exact h.elim
  |some k=>
   rw[n,pE]at h;refine b7 (pe (L_ D) B z Qb (iQ (Fi Jg Jy PySem.F.type_dict_values GN (fE I L C M) x w) j6 u) (by decide) (by decide) u K) ⟨.ref a,J,.inr (.inr (.inl ⟨rfl,.inl ⟨_,j⟩⟩)),a,r,rfl,rfl,j,λq m=>?_⟩;have al:Al F F H (L2.upd H q (iT q a)):=Al.new0 m;have N:a≠q:=by rintro rfl;rw[j]at m;cases m
   exact⟨q,a,r,k,rfl,upd_same,by rw[br N];exact j,QF A n,h F S _ (s.al al) al.grow _ rfl⟩
def xW(X:Cx)(E:XK)(m:List az)(d:ak->R (PO×List cq)):Prop :=
 ∀F S i f H Q,aZ X.K F S i f H->Ok X.K E f F S H (d i) (λp _ h n g=>∀a l j,fU X.K g h p.1 a l->(∀b,l b->H b=ae/\¬h b/\¬U n b/\∃o,g b=aa o/\eK o)->jy X.K (f++[aa (.ref a)]) h g p.2 j->Q j g)->pW X m f H Q
theorem jy.app{K:ay}{g:St}{F:ag->Prop}{H:Hp}(d:St):∀{l:List cq}{j:List V},jy K g F H l j->jy K (g++d) F H l j
 |[],_,h=>h
 |.inl _::_,_,⟨v,r,e,a,f⟩=>⟨v,r,e,a,f.app d⟩
 |.inr i::_,_,⟨v,r,e,a,f⟩=>⟨v,r,e,by rw[jM (d7.mp a).1];exact a,f.app d⟩
theorem fU.stay{K:ay}{O l F i:ag->Prop}{H h:Hp}{j:PO}{a:ag}{d:ag->Prop}(q:fU K H F j a d)(g:bD O l F i H h)(fit:Fit O F H)(f:∀b,d b->¬F b/\¬O b/\∃o,H b=aa o/\eK o):fU K h i j a d/\∀b,d b->¬i b/\¬l b/\∃o,h b=aa o/\eK o:=by refine⟨q.mono (λ_ _ z=>z.grow g fit) (λ_ _ z=>z.grow g fit) λb o z w=>(g.stay w (f b z).2.1 (f b z).1).1,λb z=>?_⟩;obtain⟨v,u,o,s,r⟩:=f b z;obtain⟨p,n,m⟩:=g.stay s u v;exact⟨n,m,o,p,r⟩
variable{m:List az}{dn:ak->R PO}{B:ak->R (List cq)}{A:ak->R (PO×List cq)}
def gN(dn:ak->R PO)(B:ak->R (List cq)):ak->R (PO×List cq):=λf=>(dn f).bind λg d=>(B d).bind λh a=>.ok (g,.inr a.length::h) a
theorem FC(w:DN X E e dn)(v:DG X E m B)(u:mq e=aj:=by rfl):xW X E (e::m) (gN dn B):=λF S q i H Q r h=>by refine qe (iQ bI gX (km u)) (w F S q i H _ r ((Ok.bind h).imp λP d O K M n T y a I s o=>?_));refine v O K d i M _ n ((Ok.bind y).imp λW p N J L l C x j D=>?_);obtain⟨f,g⟩:=s.stay C n.fit λb z=>(o b z).2;refine x N J L l (bD.refl ..) a I (.ref a::j) f (λb z=>⟨(o b z).1,g b z⟩) ⟨.ref a,j,rfl,?_,D.app _⟩;rw[l.len,qR (a9 _),De];rfl
def nA(d:ak->R PV)(A:ak->R (PO×List cq)):ak->R (PO×List cq):=λg=>(d g).bind λx f=>(A f).bind λp a=>.ok (p.1,.inl x::p.2) a
theorem xC(y:DE X E e de)(w:xW X E m A)(u:mq e=aj:=by rfl):xW X E (e::m) (nA de A):=λF S l f H Q q h=>by refine qe (iQ bI gX (km u)) (y F S l f H _ q ((Ok.bind h).imp λx d W N P g J D v o=>?_));refine w W N d f P _ g ((Ok.bind D).imp λp j T M O r I C a L n s i K=>?_);exact C T M O r (bD.refl ..) a L _ s (λb z=>⟨oX J (i b z).1,(i b z).2⟩) ⟨v,n,rfl,o.grow I g.fit,K⟩
theorem aZ.push{K:ay}{F:ag->Prop}{S:Nat->ag->Prop}{d:ak}{y:St}{H:Hp}{w:PO}{a:ag}{i:ag->Prop}(r:aZ K F S d y H)(C:fU K H F w a i)(x:∀b,i b->¬F b/\¬U S b/\∃o,H b=aa o/\eK o):aZ K F (λj b=>S j b\/(j=d.length/\i b)) (d++[.own w]) (y++[aa (.ref a)]) H:=by
 have lt:∀j b,S j b->j<d.length:=λj b z=>by obtain⟨⟨p,q⟩,_⟩:=r.foot j b z;exact(d7.mp q).1
 refine⟨by simp[r.len],r.ex,λj pv q=>?_,λj p q=>?_,λj b z=>?_,λj k b g f=>?_⟩
 .by_cases h:j<d.length
  .rw[jM h]at q;obtain⟨v,u,l⟩:=r.val j pv q;exact⟨v,by rw[jM (by rw[<-r.len];exact h)];exact u,l⟩
  .rw[qR ∅]at q;cases s:j-d.length with
   |zero=>rw[s]at q;simp at q
   |succ n=>rw[s]at q;simp at q
 .by_cases h:j<d.length
  .rw[jM h]at q;obtain⟨v,u,l⟩:=r.own j p q;refine⟨v,by rw[jM (by rw[<-r.len];exact h)];exact u,?_⟩;have:(λb=>S j b\/(j=d.length/\i b))=S j:=by funext b;exact propext ⟨λz=>z.elim id λz=>absurd z.1 (c8 h),.inl⟩
   rw[this];exact l
  .rw[qR ∅]at q;cases s:j-d.length with
   |zero=>
    rw[s]at q;simp at q;subst q;have J:j=d.length:=∅
    subst J;refine⟨a,by rw[r.len,qR (a9 _),De];rfl,?_⟩;have:(λb=>S d.length b\/(d.length=d.length/\i b))=i:=by funext b;exact propext ⟨λz=>z.elim (λz=>absurd (lt _ _ z) (fG _)) (·.2),λz=>.inr ⟨rfl,z⟩⟩
    rw[this];exact C
   |succ n=>rw[s]at q;simp at q
 .rcases z with z|⟨rfl,z⟩
  .obtain⟨⟨p,q⟩,l⟩:=r.foot j b z;exact⟨⟨p,by rw[jM (lt j b z)];exact q⟩,l⟩
  .obtain⟨I,L,D⟩:=x b z;exact⟨⟨w,by rw[qR (a9 _),De];rfl⟩,I,D⟩
 .rcases g with g|⟨rfl,g⟩ <;> rcases f with f|⟨rfl,f⟩
  .exact r.dist j k b g f
  .exact absurd ⟨j,g⟩ (x b f).2.1
  .exact absurd ⟨k,f⟩ (x b g).2.1
  .rfl
theorem aZ.pop{K:ay}{F:ag->Prop}{S:Nat->ag->Prop}{d:ak}{n:Slot}{h:St}{u:Option V}{H:Hp}(r:aZ K F S (d++[n]) (h++[u]) H):aZ K F (λj b=>S j b/\j<d.length) d h H:=by
 have len:d.length=h.length:=by have:=r.len;simpa using this
 refine⟨len,r.ex,λj pv q=>?_,λj p q=>?_,λj b z=>?_,λj k b l i=>r.dist j k b l.1 i.1⟩
 .have a:=(d7.mp q).1;obtain⟨v,g,f⟩:=r.val j pv (by rw[jM a];exact q);exact⟨v,by rw[jM (by rw[<-len];exact a)]at g;exact g,f⟩
 .have a:=(d7.mp q).1;obtain⟨v,g,f⟩:=r.own j p (by rw[jM a];exact q);refine⟨v,by rw[jM (by rw[<-len];exact a)]at g;exact g,?_⟩;have:(λb=>S j b/\j<d.length)=S j:=by funext b;simp[a]
  rw[this];exact f
 .obtain⟨⟨p,q⟩,f⟩:=r.foot j b z.1;exact⟨⟨p,by rw[jM z.2]at q;exact q⟩,f⟩
def A5{d:Type}:R d->R d
 |.ok s a=>.ok s a.dropLast
 |.er c a=>.er c a.dropLast
 |.no=>.no
def pR(g:ak->R Slot)(A:ak->R (PO×List cq)):ak->R Slot:=λd=>(A d).bind λp a=>(aE (if(cF p.2).Nodup then d_ (a++[.own p.1]) p.2 else ae) a).bind λf a=>A5 (eW (a++[.own p.1]) p.2 (g f))
theorem Ef{a:ak}{n:Nat}(h:a.length=n+1):∃l x,a=l++[x]/\l.length=n:=by
 refine⟨a.dropLast,a.getLast (by intro z;rw[z]at h;cases h),(List.dropLast_concat_getLast _).symm,by rw[Df,h];rfl⟩
theorem bD.pushed{K:ay}{F s:ag->Prop}{S i:Nat->ag->Prop}{f H p:Hp}{n:Nat}{h:ag->Prop}(g:bD (U λj b=>S j b\/(j=n/\h b)) (U i) F s H p){r:ag->Prop}{l:Nat->ag->Prop}(a:bD (U l) (U S) r F f H)(d:∀b,h b->f b=ae):bD (U l) (U λj b=>i j b/\j<n) r s f p where
 fro:=λb z=>g.fro b (a.fro b z)
 keep:=λb o q no=>g.keep b o (a.keep b o q no) λ⟨j,z⟩=>by
  rcases z with z|⟨_,z⟩
  .rcases a.onew b ⟨j,z⟩with w|w
   .exact no w
   .rw[w]at q;cases q
  .rw[d b z]at q;cases q
 there:=λb o q=>let ⟨o',q'⟩:=a.there b o q;g.there b o' q'
 fnew:=λb z=>by
  rcases g.fnew b z with w|w|⟨j,w|⟨_,w⟩⟩
  .exact a.fnew b w
  .exact .inr (.inl (oX a w))
  .exact .inr ((a.onew b ⟨j,w⟩).symm)
  .exact .inr (.inl (d b w))
 onew:=λb ⟨j,z,_⟩=>by
  rcases g.onew b ⟨j,z⟩with⟨k,w|⟨_,w⟩⟩|w
  .exact a.onew b ⟨k,w⟩
  .exact .inr (d b w)
  .exact .inr (oX a w)
variable{D:gz}{x:Str}{k:Nat}{C:List Str}{g:ak->R Slot}{p:Pos}
theorem HC(c:cN D X.prog X.w X.K X.mg X.base x k C (bJ X.K g))(hr:Room k X.A)(hx:sN D X E)(ha:xW X E (e::m) A)(hg:Gl X x:=by rfl)(hd:(x==("__debug__":Str))=aj:=by decide) (h1:aN (e::m) X.env=(aj,aL e X.env)::aN m X.env:=by rfl) (h2:(c_ t (aN m X.env)).any (·.1)=aj:=by rfl):DR X E (.Call (.Name x p) (e::m) [] t) (pR g A):=λF S ε T H Q rl h=>by
 obtain⟨f,fd,hm,Fn,hb,hk⟩:=c.ex;refine b7 (Fm Fn hr hg hm hk hb .nil hx gX hd h1 h2) (ha F S ε T H _ rl ?_);unfold pR at h;cases ed:A ε with
 |no=>rw[ed]at h;exact h.elim
 |er cv d=>rw[ed]at h;exact h
 |ok pa d=>
  obtain⟨O,q⟩:=pa;rw[ed]at h;simp only[R.bind_ok]at h;intro F1 S1 H1 r1 g1 a Sa vs ow Y P;dsimp only at h P ow;have N:=r1.push ow λb z=>(Y b z).2;by_cases J:(cF q).Nodup
  .rw[if_pos J]at h;cases m:d_ (d++[.own O]) q with
   |none=>rw[m]at h;exact h.elim
   |some ss=>
    rw[m]at h;simp only[cg,R.bind_ok]at h;rw[f8];refine⟨F1,ml q _,ss,N.cal P m J,?_⟩;have len:∀n,(fi (d++[.own O]) q n).length=d.length+1:=λn=>by rw[xL];simp
    cases eg:g ss with
    |no=>rw[eg]at h;exact h.elim
    |er cv n=>
     rw[eg]at h;intro y F' S' H' W g';unfold eW at h;dsimp only at h;by_cases u:fc q n=ah
     .rw[if_pos u]at h;obtain⟨S2,I,g2,_⟩:=N.called P m J W g' (λ_ z=>z) (nz u);obtain⟨l,sl,M,Z⟩:=Ef (len n);rw[M]at I;have h:Ok X.K E T F S H (R.er cv (fi (d++[.own O]) q n).dropLast:R Slot) _:=h;rw[M,List.dropLast_concat]at h;have L:=bD.pushed (K:=X.K) g2 g1 λb z=>(Y b z).1;rw[<-Z]at L;exact h y F' _ H' I.pop L
     .rw[if_neg u]at h;exact h.elim
    |ok s n=>
     rw[eg]at h;intro v F' S' H' Sr W g' rv r fr;unfold eW at h;dsimp only at h;by_cases u:fc q n=ah
     .rw[if_pos u]at h;obtain⟨S2,I,g2,u2⟩:=N.called P m J W g' (λ_ z=>.inl z) (nz u);obtain⟨l,sl,M,Z⟩:=Ef (len n);rw[M]at I;have h:Ok X.K E T F S H (R.ok s (fi (d++[.own O]) q n).dropLast:R Slot) _:=h;rw[M,List.dropLast_concat]at h;have L:=bD.pushed (K:=X.K) g2 g1 λb z=>(Y b z).1;rw[<-Z]at L;refine h F' _ H' I.pop L v Sr rv λb z=>⟨oX g1 (fr b z),(r b z).1,λ⟨j,w,_⟩=>?_,(r b z).2.2⟩
      rcases u2 b ⟨j,w⟩with w|⟨i,w⟩
      .exact(r b z).2.1 w
      .obtain⟨_,_,o,y1,_⟩:=N.foot i b w;rw[fr b z]at y1;cases y1
     .rw[if_neg u]at h;exact h.elim
  .rw[if_neg J]at h;exact h.elim
end
section
variable{X:Cx}{E:XK}{j:List Nat}{e b c o:az}{de n m d:ak->R PV}{l:ak->R (List PV)}{i p q g:Pos}
def QM(X:Cx)(r:List V->Hp->VK->Prop):List V->Hp->VK->Prop:=λxs H Q=>∃(p:ag) (f:List Tx),xs=[.ref p]/\cC X.K H p (cO f)/\(b_ f).length<4000/\∀a,H a=ae->r [.ref a] (upd H a (ln X a (b_ f))) Q
def Nq(K:ay)(r:V->List V->Hp->VK->Prop)(to:TE)(t:TA):TE:=λa H Q=>to a H λx f=>(∃p xs,x=.ref p/\f p=aa (.tup xs))/\t a f λxs h=>r x xs h Q
theorem KR{u:Str}{A:String}{r:V->List V->Hp->VK->Prop}{to:TE}{t:TA}{w f:Pos}{es:List az}(y:PySem.Slot "tuple" u A)(mQ:typeOf (.builtin A)=pure (.type "method_descriptor"))(hm:nR X A r)(ho:PE X o to)(ha:PA X (e::es) t)(i9:j9 o u X.env (aL o X.env)=aL o X.env:=by rfl)(N:((c_ f (aN (e::es) X.env)).all (λx=>!x.1)&&(qW f (qX [] X.env)).all (λx=>x.1.isSome)&&decide ((e::es).length+([]:List jN).length+(if([]:List jN).isEmpty then 0 else 1)<30))=ah:=by rfl)(i_:(w.endLine == f.line)=ah:=by rfl) (hs:aN (e::es) X.env=(aj,aL e X.env)::aN es X.env:=by rfl) (K:(c_ f (aN es X.env)).any (·.1)=aj:=by rfl):PE X (.Call (.Attribute o u w) (e::es) [] f) (Nq X.K r to t):=by
 intro C s B H Q I h;refine wpAny_Call_method_late i9 N i_ rfl (aM (ho C s B H _ I h) λv D h'=>?_);obtain⟨x,J,G,S,⟨p,xs,rfl,hp⟩,W⟩:=h';cases S;obtain⟨_,its,_,⟨Y,e1,e2,_⟩,Z,e3,e4⟩:=(show cz X.prog X.w J D.heap p (.tup xs)from G.hok p _ hp)
 refine⟨"tuple",A,PySem.F.plainAttrs_tuple,y,mQ,⟨Y,e1,e2⟩,λa z=>?_,?_⟩
 .cases z;exact⟨Z,e3,e4⟩
 have F:=ha f C D B J _ G W;rw[hs]at F ⊢;refine CU (by show(aj||(c_ f (aN es X.env)).any (·.1))=aj;rw[K] <;> rfl) (CV ?_);exact aM F λM O h2=>by obtain⟨L,H2,I2,P,T⟩:=h2;exact hm C O B H2 (.ref p) L (.ref p) M Q I2 rfl P T
def AC(f:List PV->PV->Option PV)(d de:ak->R PV):ak->R PV:=λr=>(d r).bind λx h=>match x with
 |.tup xs=>(de h).bind λk a=>aE (f xs k) a
 |_=>.no
end
section
variable{X:Cx}
def Hh:List (aD×PV)->Option (List Tx)
 |[]=>aa []
 | (.inr k,_)::r=>(Hh r).map (k.cps.toList::·)
 |_=>ae
def NF(b:List (aD×PV)):Option PO:=(Hh b).bind λa=>if a.length<64/\(∀x∈a,x.length<=bE)then aa (.lst (ao (aQ a)))else ae
def TJ(i:Nat):ak->R PO:=λa=>(aE (dA a i) a).bind λb a=>aE (NF b) a
end
end Pu
namespace L2
def yf:Bool->Keyed->Array Keyed->Nat->Nat->Nat->StateT bN Sem (Option Nat):=sortPriv% PySem.Builtin.gallop
def Hn:Array Keyed->Array Keyed->StateT bN Sem (Array Keyed):=sortPriv% PySem.Builtin.mergeLo
def Hr:Array Keyed->Array Keyed->StateT bN Sem (Array Keyed):=sortPriv% PySem.Builtin.mergeHi
def kO(a:KeyKind)(p:Keyed):a.α:=(a.keyOf p.1).getD a.dflt
def il(b:KeyKind)(p:Keyed):Prop:=∃a,b.keyOf p.1=aa a
theorem il.k{κ:KeyKind}{p:Keyed}(h:il κ p):κ.keyOf p.1=aa (kO κ p):=by obtain⟨a,e⟩:=h;unfold kO;rw[e];rfl
def jI(κ:KeyKind)(kz:jv)(c:aS)(w:aG)(A:aV)(s:am):Prop :=
 ∀(E:ai->am->Prop) (x y:ai) (a b:κ.α) {Q:Bool->am->Prop},κ.keyOf x=aa a->κ.keyOf y=aa b->Q (κ.blt a b) s->au (ax c w) A (keyLt' kz x y) Q E s
theorem OneLt.ok{κ:KeyKind}(f:κ.OneLt){prog:aS}{w:aG}{A:aV}{s:am}:jI κ oneType' prog w A s:=λE x y a b _ d c h=>by rw[keyLt'_oneType];exact f prog w A E s x y a b d c h
structure SB(kz:jv)(st:bN):Prop where
 kind:kindOf st=kz
 failed:failedOf st=ae
section
variable{a:aS}{w:aG}{A:aV}{E:ai->am->Prop}{s:am}{d:KeyKind}{f:jv}
theorem vK(j:jI d f a w A s){b:bN}{x y:Keyed}{Q:Option Bool->bN->Prop}(i:SB f b)(g:il d x)(c:il d y)(h:Q (aa (d.blt (kO d x) (kO d y))) b):wpS (ax a w) A E s (lt' x y) Q b:=by rw[lt'_eq];refine aJ (lQ ?_);rw[i.kind];exact aJ (t9 (wpAny_attempt (j _ x.1 y.1 _ _ g.k c.k ⟨rfl,aY h⟩)))
theorem fD{c:bN}{b:Array Keyed}{i:Nat}(g:i<b.size){Q:Keyed->bN->Prop}(h:Q b[i] c):wpS (ax a w) A E s (elem' b i) Q c:=by rw[elem'_eq,getElem?_pos b i g];exact aY h
def D7(c:Bool)(g:Keyed)(j:Array Keyed)(h i:Nat):StateT bN Sem (Option Bool) :=elem' j (h+i) >>= λx=>if c=ah then lt' x g else lt' g x >>= λb=>pure (b.map (!·))
def ma(d:KeyKind)(b:Bool)(c x:Keyed):Bool:=if b=ah then d.blt (kO d x) (kO d c)else !d.blt (kO d c) (kO d x)
theorem NU(p:jI d f a w A s){l:bN}{c:Bool}{j:Keyed}{g:Array Keyed}{b i:Nat}{Q:Option Bool->bN->Prop}(o:SB f l)(n:il d j)(q:b+i<g.size)(m:il d g[b+i])(h:Q (aa (ma d c j g[b+i])) l):wpS (ax a w) A E s (D7 c j g b i) Q l:=by
 refine aJ (fD q ?_);cases c
 .rw[if_neg (by simp)];exact aJ (vK p o n m (aY h))
 .rw[if_pos rfl];exact vK p o m n h
theorem Hx(hO:jI d f a w A s){J:bN}(hk:SB f J){F:Bool}{K:Keyed}{y:Array Keyed}{t n b:Nat}{Q:Option Nat->bN->Prop}(fH:il d K)(hn:t+n<=y.size)(hA:∀i (g:i<y.size),il d y[i]) (B:Nat->Bool) (hB:∀i (g:i<n),B i=ma d F K (y[t+i]'∅))(mono:∀i j,i<=j->j<n->B j=ah->B i=ah) (hh:b<n)(h:∀r,r<=n->(∀i,i<r->B i=ah)->(∀i,r<=i->i<n->B i=aj)->Q (aa r) J):wpS (ax a w) A E s (yf F K y t n b) Q J:=by
 have N:∀{i:Nat}{Q:Option Bool->bN->Prop},i<n->Q (aa (B i)) J->wpS (ax a w) A E s (D7 F K y t i) Q J:=λ{i Q} g q=>NU hO hk fH ∅ (hA _ _) (by rw[<-hB i g];exact q);have dn:∀{i j:Nat},i<=j->j<n->B i=aj->B j=aj:=λ{i j} bO hj hf=>by
  cases e:B j with
  |false=>rfl
  |true=>rw[mono i j bO hj e]at hf;cases hf
 unfold yf;refine aJ (N hh ?_);cases hr:B b with
 |true=>
  dsimp only;rw[if_pos rfl];refine aJ (ie (ig (I:=λx c m=>m=J/\∃l o,c=(ae,l,o)/\l<o/\x<o/\l<n-b/\B (b+l)=ah) (Q:=λc m=>m=J/\∃l o,c=(ae,l,o)/\l<o/\l<n-b/\B (b+l)=ah/\(n-b<=o\/(o<n-b/\B (b+o)=aj))) ?_ ?_ ?_) ?_)
  .rintro x c m _ O ⟨rfl,l,o,rfl,H,S,G,p⟩;dsimp only;by_cases u:o ≥ n-b
   .rw[if_pos u];exact aY ⟨rfl,l,o,rfl,H,G,p,.inl u⟩
   .rw[if_neg u];refine aJ (N ∅ ?_);cases e:B (b+o)with
    |true=>exact aY ⟨rfl,o,2*o+1,rfl,∅,∅,∅,e⟩
    |false=>exact aY ⟨rfl,l,o,rfl,H,G,p,.inr ⟨∅,e⟩⟩
  .rintro c m ⟨rfl,l,o,rfl,H,S,G,p⟩;exact⟨rfl,l,o,rfl,H,G,p,.inl ∅⟩
  .exact⟨rfl,0,1,rfl,∅,∅,∅,hr⟩
  rintro c m ⟨rfl,l,o,rfl,H,G,p,L⟩;dsimp only;have Y:b+l+1<=b+min o (n-b):=∅
  have X:b+min o (n-b)<=n:=∅
  have W:∀i,i<b+l+1->B i=ah:=λi g=>mono i (b+l) ∅ ∅ p;have T:∀i,b+min o (n-b)<=i->i<n->B i=aj:=by
   intro i g M;rcases L with L|⟨L,P⟩
   .lia
   .exact dn (i:=b+o) ∅ M P
  clear L;generalize b+l+1=lo at *;generalize b+min o (n-b)=g at *;refine aJ (ie (ig (I:=λx c v=>v=m/\∃l r,c=(ae,l,r)/\l<=r/\r<=n/\r-l<=n-x/\(∀i,i<l->B i=ah)/\(∀i,r<=i->i<n->B i=aj)) (Q:=λc v=>v=m/\∃l r,c=(ae,l,r)/\r<=n/\(∀i,i<r->B i=ah)/\(∀i,r<=i->i<n->B i=aj)) ?_ ?_ ?_) ?_)
  .rintro x c v _ O ⟨rfl,l,r,rfl,a1,D,Z,C,z⟩;dsimp only;by_cases u:l ≥ r
   .rw[if_pos u];have:l=r:=∅
    subst this;exact aY ⟨rfl,l,l,rfl,D,C,z⟩
   .rw[if_neg u];refine aJ (N ∅ ?_);cases e:B (l+(r-l) / 2)with
    |true=>exact aY ⟨rfl,_,r,rfl,∅,D,∅,λi g=>mono _ _ ∅ ∅ e,z⟩
    |false=>exact aY ⟨rfl,l,_,rfl,∅,∅,∅,C,λi g M=>dn (i:=l+(r-l) / 2) g M e⟩
  .rintro c v ⟨rfl,l,r,rfl,a1,D,Z,C,z⟩;have:l=r:=∅
   subst this;exact⟨rfl,l,l,rfl,D,C,z⟩
  .exact⟨rfl,lo,g,rfl,Y,X,∅,W,T⟩
  .rintro c v ⟨rfl,l,r,rfl,D,C,z⟩;exact aY (h r D C z)
 |false=>
  dsimp only;rw[if_neg (by simp)];refine aJ (ie (ig (I:=λx c m=>m=J/\∃l o,c=(ae,l,o)/\l<o/\x<o/\l<=b/\B (b-l)=aj) (Q:=λc m=>m=J/\∃l o,c=(ae,l,o)/\l<o/\l<=b/\B (b-l)=aj/\(b+1<=o\/(o<=b/\B (b-o)=ah))) ?_ ?_ ?_) ?_)
  .rintro x c m _ O ⟨rfl,l,o,rfl,H,S,G,p⟩;dsimp only;by_cases u:o ≥ b+1
   .rw[if_pos u];exact aY ⟨rfl,l,o,rfl,H,G,p,.inl u⟩
   .rw[if_neg u];refine aJ (N ∅ ?_);cases e:B (b-o)with
    |false=>exact aY ⟨rfl,o,2*o+1,rfl,∅,∅,∅,e⟩
    |true=>exact aY ⟨rfl,l,o,rfl,H,G,p,.inr ⟨∅,e⟩⟩
  .rintro c m ⟨rfl,l,o,rfl,H,S,G,p⟩;exact⟨rfl,l,o,rfl,H,G,p,.inl ∅⟩
  .exact⟨rfl,0,1,rfl,∅,∅,∅,hr⟩
  rintro c m ⟨rfl,l,o,rfl,H,G,p,L⟩;dsimp only;have Y:b+1-min o (b+1)<=b-l:=∅
  have X:b-l<=n:=∅
  have W:∀i,i<b+1-min o (b+1)->B i=ah:=by
   intro i g;rcases L with L|⟨L,P⟩
   .lia
   .exact mono i (b-o) ∅ ∅ P
  have T:∀i,b-l<=i->i<n->B i=aj:=λi g M=>dn (i:=b-l) ∅ M p;clear L p;generalize b+1-min o (b+1)=lo at *;generalize b-l=g at *;refine aJ (ie (ig (I:=λx c v=>v=m/\∃l r,c=(ae,l,r)/\l<=r/\r<=n/\r-l<=n-x/\(∀i,i<l->B i=ah)/\(∀i,r<=i->i<n->B i=aj)) (Q:=λc v=>v=m/\∃l r,c=(ae,l,r)/\r<=n/\(∀i,i<r->B i=ah)/\(∀i,r<=i->i<n->B i=aj)) ?_ ?_ ?_) ?_)
  .rintro x c v _ O ⟨rfl,l,r,rfl,a1,D,Z,C,z⟩;dsimp only;by_cases u:l ≥ r
   .rw[if_pos u];have:l=r:=∅
    subst this;exact aY ⟨rfl,l,l,rfl,D,C,z⟩
   .rw[if_neg u];refine aJ (N ∅ ?_);cases e:B (l+(r-l) / 2)with
    |true=>exact aY ⟨rfl,_,r,rfl,∅,D,∅,λi g=>mono _ _ ∅ ∅ e,z⟩
    |false=>exact aY ⟨rfl,l,_,rfl,∅,∅,∅,C,λi g M=>dn (i:=l+(r-l) / 2) g M e⟩
  .rintro c v ⟨rfl,l,r,rfl,a1,D,Z,C,z⟩;have:l=r:=∅
   subst this;exact⟨rfl,l,l,rfl,D,C,z⟩
  .exact⟨rfl,lo,g,rfl,Y,X,∅,W,T⟩
  .rintro c v ⟨rfl,l,r,rfl,D,C,z⟩;exact aY (h r D C z)
end
section
variable{κ:KeyKind}{kz:jv}
def bS(κ:KeyKind)(x y:Keyed):Prop:=κ.kle (kO κ x) (kO κ y)
theorem bS.trans{x y z:Keyed}(b:bS κ x y)(a:bS κ y z):bS κ x z:=we b a
structure MS(κ:KeyKind)(T o ra rb:List Keyed):Prop where
 perm:(o++(ra++rb)).Perm T
 so:o.Pairwise (bS κ)
 sa:ra.Pairwise (bS κ)
 sb:rb.Pairwise (bS κ)
 oa:∀x∈o,∀y∈ra,bS κ x y
 ob:∀x∈o,∀y∈rb,bS κ x y
theorem MS.stepA{T o x f d:List Keyed}(h:MS κ T o (x++f) d)(i:∀u∈x,∀v∈d,bS κ u v):MS κ T (o++x) f d:=by
 obtain⟨n,m,c,l,g,j⟩:=h;rw[Jz]at c;refine⟨by simpa[eN]using n,?_,c.2.1,l,?_,?_⟩
 .rw[Jz];exact⟨m,c.1,λu a v b=>g u a v (qN _ b)⟩
 .intro u a v b;rcases jr.mp a with a|a
  .exact g u a v (iW _ b)
  .exact c.2.2 u a v b
 .intro u a v b;rcases jr.mp a with a|a
  .exact j u a v b
  .exact i u a v b
theorem MS.swap{T o b a:List Keyed}(h:MS κ T o b a):MS κ T o a b :=⟨(zE _ Uv).trans h.perm,h.so,h.sb,h.sa,h.ob,h.oa⟩
theorem MS.stepB{T o x a b:List Keyed}(h:MS κ T o a (x++b))(c:∀u∈x,∀v∈a,bS κ u v):MS κ T (o++x) a b :=(h.swap.stepA c).swap
def g8(κ:KeyKind)(T:List Keyed)(r:Array Keyed):Prop:=r.toList.Perm T/\r.toList.Pairwise (bS κ)
theorem MS.endA{T o a:List Keyed}{r:Array Keyed}(h:MS κ T o a [])(e:r.toList=o++a):g8 κ T r:=by obtain⟨f,d,c,i,b,g⟩:=h;refine⟨by rw[e];simpa using f,?_⟩;rw[e,Jz];exact⟨d,c,b⟩
theorem MS.last{T o b a:List Keyed}{r:Array Keyed}(h:MS κ T o b a)(c:∀u∈a,∀v∈b,bS κ u v)(e:r.toList=o++(a++b)):g8 κ T r:=by
 have d:MS κ T o b (a++[]):=by simpa using h
 exact(d.stepB c).endA (by rw[e];simp)
theorem lH(a:Array Keyed)(i j:Nat):(a.extract i j).toList=(a.toList.drop i).take (j-i):=by simp[Array.toList_extract,List.extract_eq_take_drop]
theorem sM(a:Array Keyed)(i:Nat):(a.extract i a.size).toList=a.toList.drop i:=by rw[lH,i5];simp
theorem Gp{a:Array Keyed}{i:Nat}(h:i<a.size):a.toList.drop i=a[i]::a.toList.drop (i+1):=by rw[zL (by simpa using h)];simp
theorem Iv(a:Array Keyed)(i k:Nat):a.toList.drop i=(a.extract i (i+k)).toList++a.toList.drop (i+k):=by rw[lH,show i+k-i=k by lia,<-List.drop_drop,mH]
theorem rY{a:Array Keyed}{i:Nat}{x:Keyed}(h:x∈a.toList.drop i):∃j,∃d:j<a.size,i<=j/\a[j]=x:=by
 obtain⟨k,c,e⟩:=zN h;rw[JA]at e;have b:i+k<a.size:=by simp at c;lia
 exact⟨i+k,b,∅,by simpa using e⟩
theorem Gj{a:Array Keyed}{i k:Nat}{x:Keyed}(h:x∈(a.extract i (i+k)).toList):∃j,∃c:j<a.size,i<=j/\j<i+k/\a[j]=x:=by
 rw[lH]at h;obtain⟨m,b,e⟩:=zN h;rw[JB,JA]at e;refine⟨i+m,?_,∅,?_,by simpa using e⟩
 all_goals simp at b;lia
def u6(κ:KeyKind)(a:Array Keyed):Prop:=∀i j (b:j<a.size) (c:i<=j),bS κ (a[i]'∅) a[j]
theorem u6.pw{a:Array Keyed}(h:u6 κ a):a.toList.Pairwise (bS κ):=by rw[List.pairwise_iff_getElem];intro i j c b d;have:=h i j (by simpa using b) ∅;simpa using this
structure ge(κ:KeyKind)(a b c:Array Keyed)(d f:Nat):Prop where
 ms:MS κ (a.toList++b.toList) c.toList (a.toList.drop d) (b.toList.drop f)
 la:d<=a.size
 lb:f<=b.size
variable{a b c:Array Keyed}{d f:Nat}
theorem ge.pushA(h:ge κ a b c d f)(i:d<a.size)(l:∀j (g:j<b.size),f<=j->bS κ a[d] b[j]):ge κ a b (c.push a[d]) (d+1) f:=by refine⟨?_,i,h.lb⟩;rw[v_];refine MS.stepA (by rw[Dg,<-Gp i];exact h.ms) λu n v m=>?_;obtain⟨j,g,o,rfl⟩:=rY m;rw[fu.mp n];exact l j g o
theorem ge.pushB(h:ge κ a b c d f)(i:f<b.size)(l:∀j (g:j<a.size),d<=j->bS κ b[f] a[j]):ge κ a b (c.push b[f]) d (f+1):=by refine⟨?_,h.la,i⟩;rw[v_];refine MS.stepB (by rw[Dg,<-Gp i];exact h.ms) λu n v m=>?_;obtain⟨j,g,o,rfl⟩:=rY m;rw[fu.mp n];exact l j g o
theorem ge.extA{k:Nat}(h:ge κ a b c d f)(p:d+k<=a.size)(m:∀i (l:i<a.size),d<=i->i<d+k->∀j (g:j<b.size),f<=j->bS κ a[i] b[j]):ge κ a b (c++a.extract d (d+k)) (d+k) f:=by refine⟨?_,p,h.lb⟩;rw[i7];refine MS.stepA (by rw[<-Iv];exact h.ms) λu o v n=>?_;obtain⟨j,g,s,rfl⟩:=rY n;obtain⟨i,l,r,q,rfl⟩:=Gj o;exact m i l r q j g s
theorem ge.extB{k:Nat}(h:ge κ a b c d f)(p:f+k<=b.size)(m:∀i (l:i<b.size),f<=i->i<f+k->∀j (g:j<a.size),d<=j->bS κ b[i] a[j]):ge κ a b (c++b.extract f (f+k)) d (f+k):=by refine⟨?_,h.la,p⟩;rw[i7];refine MS.stepB (by rw[<-Iv];exact h.ms) λu o v n=>?_;obtain⟨j,g,s,rfl⟩:=rY n;obtain⟨i,l,r,q,rfl⟩:=Gj o;exact m i l r q j g s
theorem ge.doneA(h:ge κ a b c d f)(e:f=b.size):g8 κ (a.toList++b.toList) (c++a.extract d a.size++b.extract f b.size):=by have:=h.ms;rw[show b.toList.drop f=[] by rw[Dh];simp[e]]at this;refine this.endA ?_;rw[i7,i7,sM,sM,show b.toList.drop f=[] by rw[Dh];simp[e],f8]
theorem ge.doneB(h:ge κ a b c d f)(e:d=a.size):g8 κ (a.toList++b.toList) (c++a.extract d a.size++b.extract f b.size):=by have:=h.ms;rw[show a.toList.drop d=[] by rw[Dh];simp[e]]at this;refine this.swap.endA ?_;rw[i7,i7,sM,sM,show a.toList.drop d=[] by rw[Dh];simp[e],f8]
theorem ge.last(h:ge κ a b c d f)(e:d+1=a.size)(n:∀j (g:j<b.size),bS κ b[j] (a[d]'∅)):g8 κ (a.toList++b.toList) (c++b.extract f b.size++a.extract d a.size):=by
 refine h.ms.last (λu m v l=>?_) (by rw[i7,i7,sM,sM,eN]);obtain⟨j,g,q,rfl⟩:=rY m;obtain⟨i,o,p,rfl⟩:=rY l;have:i=d:=∅
 subst this;exact n j g
end
section
variable{b:aS}{w:aG}{A:aV}{E:ai->am->Prop}{s:am}{a:KeyKind}{c:jv}
theorem BZ(x:jI a c b w A s){l:bN}(t:SB c l){f:Keyed}{d:Array Keyed}{base n hint:Nat}{Q:Option Nat->bN->Prop}(C:il a f)(q:base+n<=d.size)(y:∀i (g:i<d.size),il a d[i]) (o:∀i j (F:i<=j) (m:j<base+n),base<=i->bS a (d[i]'∅) (d[j]'∅)) (u:hint<n)(h:∀r,r<=n->(∀i (g:i<d.size),base<=i->i<base+r->bS a d[i] f)->(∀i (g:i<d.size),base+r<=i->i<base+n->a.klt (kO a f) (kO a d[i]))->Q (aa r) l):wpS (ax b w) A E s (yf aj f d base n hint) Q l:=by
 refine Hx x t C q y (λi=>if g:i<n then ma a aj f (d[base+i]'∅)else aj) (λi g=>by rw[dif_pos g]) ?_ u ?_
 .intro i j F m e;rw[dif_pos m]at e;rw[dif_pos ∅];simp only[ma,mI,if_false,Jx]at e ⊢;exact we (o (base+i) (base+j) ∅ ∅ ∅) e
 .intro r p B z;refine h r p (λi g v D=>?_) (λi g v D=>?_)
  .have:=B (i-base) ∅;rw[dif_pos ∅]at this;simp only[ma,mI,if_false,Jx,show base+(i-base)=i by lia]at this;exact this
  .have:=z (i-base) ∅ ∅;rw[dif_pos ∅]at this;simp only[ma,mI,if_false,Bool.not_eq_false',show base+(i-base)=i by lia]at this;exact this
theorem Bq(x:jI a c b w A s){l:bN}(t:SB c l){f:Keyed}{d:Array Keyed}{base n hint:Nat}{Q:Option Nat->bN->Prop}(C:il a f)(q:base+n<=d.size)(y:∀i (g:i<d.size),il a d[i]) (o:∀i j (F:i<=j) (m:j<base+n),base<=i->bS a (d[i]'∅) (d[j]'∅)) (u:hint<n)(h:∀r,r<=n->(∀i (g:i<d.size),base<=i->i<base+r->a.klt (kO a d[i]) (kO a f))->(∀i (g:i<d.size),base+r<=i->i<base+n->bS a f d[i])->Q (aa r) l):wpS (ax b w) A E s (yf ah f d base n hint) Q l:=by
 refine Hx x t C q y (λi=>if g:i<n then ma a ah f (d[base+i]'∅)else aj) (λi g=>by rw[dif_pos g]) ?_ u ?_
 .intro i j F m e;rw[dif_pos m]at e;rw[dif_pos ∅];simp only[ma,if_true]at e ⊢;exact KeyOrd.klt_of_kle_of_klt (o (base+i) (base+j) ∅ ∅ ∅) e
 .intro r p B z;refine h r p (λi g v D=>?_) (λi g v D=>?_)
  .have:=B (i-base) ∅;rw[dif_pos ∅]at this;simp only[ma,if_true,show base+(i-base)=i by lia]at this;exact this
  .have:=z (i-base) ∅ ∅;rw[dif_pos ∅]at this;simp only[ma,if_true,show base+(i-base)=i by lia]at this;exact this
end
structure g6(st aA:bN):Prop where
 kind:kindOf aA=kindOf st
 arr:arrOf aA=arrOf st
 pend:bw aA=bw st
 failed:failedOf aA=failedOf st
theorem g6.rfl{st:bN}:g6 st st:=⟨_root_.rfl,_root_.rfl,_root_.rfl,_root_.rfl⟩
theorem g6.sb{b:jv}{a c:bN}(h:g6 a c)(k:SB b a):SB b c:=⟨h.kind.trans k.kind,h.failed.trans k.failed⟩
section
variable{prog:aS}{w:aG}{A:aV}{E:ai->am->Prop}{s:am}{κ:KeyKind}{kz:jv}
theorem cX{a d:Type}{M:Model}{c:Prop}[Decidable c]{t e:StateT a Sem d}{Q:d->a->Prop}{b:a}(g:c->wpS M A E s t Q b)(f:¬c->wpS M A E s e Q b):wpS M A E s (if c then t else e) Q b:=by
 split
 .exact g ‹_›
 .exact f ‹_›
def PF:Nat->StateT bN Sem Unit:=sortPriv% PySem.Builtin.setMinGallop
theorem g6.trans{a b c:bN}(f:g6 a b)(d:g6 b c):g6 a c:=⟨d.kind.trans f.kind,d.arr.trans f.arr,d.pend.trans f.pend,d.failed.trans f.failed⟩
theorem AW{a b:bN}{g:Nat}{Q:Unit->bN->Prop}(d:g6 b a)(h:∀c,g6 b c->Q () c):wpS (ax prog w) A E s (PF g) Q a :=ot (h _ (d.trans ⟨rfl,rfl,rfl,rfl⟩))
theorem Q7(hO:jI κ kz prog w A s){K:bN}(hk:SB kz K){a b:Array Keyed}{Q:Array Keyed->bN->Prop}(ha:0<a.size)(hb:0<b.size)(hA:∀i (N:i<a.size),il κ a[i]) (hB:∀i (N:i<b.size),il κ b[i]) (Z:u6 κ a) (sb:u6 κ b)(h0:bS κ b[0] a[0]) (hl:∀j (p:j<b.size),bS κ b[j] a[a.size-1])(h:∀r D,g6 K D->g8 κ (a.toList++b.toList) r->Q r D):wpS (ax prog w) A E s (Hn a b) Q K:=by
 have fN:∀{i:Nat} (N:i<a.size),i+1=a.size->∀j (p:j<b.size),bS κ b[j] a[i]:=λ{i} N e j p=>by
  have:i=a.size-1:=∅
  subst this;exact hl j p
 have I0:ge κ a b #[b[0]] 0 1:=by
  have v:ge κ a b #[] 0 0:=⟨⟨by simp,by simp,by simpa using Z.pw,by simpa using sb.pw,by simp,by simp⟩,∅,∅⟩
  exact v.pushB hb λj p _=>h0.trans (Z 0 j p ∅)
 unfold Hn;refine aJ (t9 (og ⟨rfl,?_⟩));refine aJ (fD hb ?_);by_cases e1:1=b.size
 .rw[if_pos (by simp[<-e1])];exact aY (h _ _ .rfl (I0.doneA e1))
 rw[if_neg (by simpa using e1)];by_cases e2:0+1=a.size
 .rw[if_pos (by simp[<-e2])];exact aY (h _ _ .rfl (I0.last e2 (fN ∅ ∅)))
 rw[if_neg (by simpa using e2)];refine aJ (lQ ?_);refine aJ (ie (ig (I:=λx c D=>g6 K D/\∃d f l H,c=(ae,d,f,l,H)/\ge κ a b d f l/\f+1<a.size/\l<b.size/\x+1<=f+l) (Q:=λc D=>g6 K D/\∃r,c.1=aa r/\g8 κ (a.toList++b.toList) r) ?_ ?_ ?_) ?_);rotate_left
 .rintro c D ⟨_,d,f,l,H,rfl,u,v,q,L⟩;lia
 .exact⟨.rfl,_,0,1,_,rfl,I0,∅,∅,∅⟩
 .rintro⟨c1,c⟩ D ⟨t,r,rfl,W⟩;exact aY (h r D t W)
 rintro x c D _ hx ⟨t,d,f,l,H,rfl,u,v,q,L⟩;refine aJ (ie (ig (I:=λy c z=>z=D/\∃d f l C B,c=(ae,d,f,l,C,B)/\ge κ a b d f l/\f+1<a.size/\l<b.size/\x+1+y<=f+l) (Q:=λc z=>z=D/\((∃r X,c=(aa r,X)/\g8 κ (a.toList++b.toList) r)\/∃d f l C B,c=(ae,d,f,l,C,B)/\ge κ a b d f l/\f+1<a.size/\l<b.size/\x+1+1<=f+l)) ?_ ?_ ?_) ?_)
 .rintro y c z _ hy ⟨rfl,d,f,l,C,B,rfl,u,v,q,L⟩;dsimp only;refine aJ (fD q (aJ (fD ∅ (aJ (vK hO (t.sb hk) (hB l q) (hA f ∅) ?_)))));cases e:κ.blt (kO κ b[l]) (kO κ (a[f]'∅))with
  |true=>
   dsimp only;rw[if_pos rfl];refine aJ (fD q ?_);have M:=u.pushB q λj p gc=>bS.trans (lR e) (Z f j p gc);by_cases G:l+1=b.size
   .rw[if_pos (by simp[G])];exact aY ⟨rfl,.inl ⟨_,_,rfl,M.doneA G⟩⟩
   rw[if_neg (by simpa using G)];split
   .exact aY ⟨rfl,.inr ⟨_,_,_,_,_,rfl,M,∅,∅,∅⟩⟩
   .exact aY ⟨rfl,_,_,_,_,_,rfl,M,∅,∅,∅⟩
  |false=>
   dsimp only;rw[if_neg (by simp)];refine aJ (fD ∅ ?_);have M:=u.pushA ∅ λj p gc=>bS.trans (show bS κ (a[f]'∅) b[l] from e) (sb l j p gc);by_cases G:f+1+1=a.size
   .rw[if_pos (by simp[G])];exact aY ⟨rfl,.inl ⟨_,_,rfl,M.last G (fN ∅ ∅)⟩⟩
   rw[if_neg (by simpa using G)];split
   .exact aY ⟨rfl,.inr ⟨_,_,_,_,_,rfl,M,∅,∅,∅⟩⟩
   .exact aY ⟨rfl,_,_,_,_,_,rfl,M,∅,∅,∅⟩
 .rintro c z ⟨rfl,d,f,l,C,B,rfl,u,v,q,L⟩;lia
 .exact⟨rfl,_,_,_,_,_,rfl,u,v,q,∅⟩
 rintro c z ⟨rfl,⟨r,X,rfl,W⟩|⟨d,f,l,C,B,rfl,u,v,q,L⟩⟩
 .exact aY ⟨t,r,rfl,W⟩
 refine aJ (t9 (og ⟨rfl,?_⟩));refine aJ (ie (ig (I:=λy c z=>g6 K z/\∃d f l H C B,c=(ae,d,f,l,H,C,B)/\ge κ a b d f l/\f+1<a.size/\l<b.size/\x+2+y<=f+l) (Q:=λc z=>g6 K z/\((∃r X,c=(aa r,X)/\g8 κ (a.toList++b.toList) r)\/∃d f l H C B,c=(ae,d,f,l,H,C,B)/\ge κ a b d f l/\f+1<a.size/\l<b.size/\x+1+1<=f+l)) ?_ ?_ ?_) ?_);rotate_left
 .rintro c z ⟨_,d,f,l,H,C,B,rfl,u,v,q,L⟩;lia
 .exact⟨t,_,_,_,_,_,_,rfl,u,v,q,∅⟩
 .rintro c z ⟨t,⟨r,X,rfl,W⟩|⟨d,f,l,H,C,B,rfl,u,v,q,L⟩⟩
  .exact aY ⟨t,r,rfl,W⟩
  .dsimp only;refine aJ (ot (aY ⟨⟨t.kind,t.arr,t.pend,t.failed⟩,_,_,_,_,rfl,u,v,q,∅⟩))
 clear v q L u t I0 e1 e2;rintro y c z _ hy ⟨t,d,f,l,H,C,B,rfl,u,v,q,L⟩;clear hx hy;have jT:∀{i j:Nat} (J:i<=j) (p:j<b.size),bS κ (b[i]'∅) b[j]:=λ{i j} J p=>sb i j p J;have rL:∀{i j:Nat} (J:i<=j) (p:j<a.size),bS κ (a[i]'∅) a[j]:=λ{i j} J p=>Z i j p J;refine(?_:wpS (ax prog w) A E s _ ?Q _);extract_lets -merge x1 x2 x3 x4 x5 x6 x7 x8 x9 xa xb xc jp;have p:∀g S,g6 K S->wpS (ax prog w) A E s (jp () g) ?Q S:=by
  intro g S F;dsimp -zeta only[jp,x1,x2,x3,x4,x5,x6,x7,x8,x9,xa,xb,xc];refine aJ (AW F λS F=>?_);refine aJ (fD q ?_);refine aJ (BZ hO (F.sb hk) (base:=f) (n:=a.size-f) (hint:=0) (hB l q) ∅ hA (λi j J p _=>rL J ∅) ∅ λk gJ cK gv=>?_);dsimp -zeta only;extract_lets -merge y1 jp2;have wS:∀o n,ge κ a b o n l->f+k<=n->n+1<a.size->wpS (ax prog w) A E s (jp2 () o n) ?Q S:=by
   intro o n T pM e4;dsimp -zeta only[jp2,y1];refine aJ (fD q ?_);have O:=T.pushB q λj p g=>lR (gv j p ∅ ∅);refine cX (λe5=>?_) λe5=>?_
   .exact aY ⟨F,.inl ⟨_,_,rfl,O.doneA (by simpa using e5)⟩⟩
   have e5':l+1≠b.size:=by simpa using e5
   refine aJ (fD ∅ ?_);refine aJ (Bq hO (F.sb hk) (base:=l+1) (n:=b.size-(l+1)) (hint:=0) (hA _ _) ∅ hB (λi j J p _=>jT J ∅) ∅ λk' m1 m2 m3=>?_);dsimp -zeta only;extract_lets -merge z1 z2 jp3;have wU:∀o m,ge κ a b o n m->l+1+k'<=m->m<b.size->wpS (ax prog w) A E s (jp3 () o m) ?Q S:=by
    intro o m Y e6 e7;dsimp -zeta only[jp3,z1,z2];refine aJ (fD ∅ ?_);have wW:=Y.pushA ∅ (λj p g=>m3 j p ∅ ∅);refine cX (λe7=>?_) λe7=>?_
    .have P:n+1+1=a.size:=by simpa using e7
     exact aY ⟨F,.inl ⟨_,_,rfl,wW.last P (fN ∅ P)⟩⟩
    have P:n+1+1≠a.size:=by simpa using e7
    refine cX (λe8=>?_) λe8=>?_
    .exact aY ⟨F,.inr ⟨_,_,_,_,_,_,rfl,wW,∅,∅,∅⟩⟩
    .exact aY ⟨F,_,_,_,_,_,_,rfl,wW,∅,∅,∅⟩
   clear_value jp3;refine cX (λDH=>?_) (λDH=>?_)
   .have Y:=O.extB (k:=k') ∅ (λi N g1 g2 j p g3=>bS.trans (lR (m2 i N g1 g2)) (rL g3 p));refine cX (λe6=>?_) λe6=>?_
    .exact aY ⟨F,.inl ⟨_,_,rfl,Y.doneA (by simpa using e6)⟩⟩
    have e6':l+1+k'≠b.size:=by simpa using e6
    exact wU _ _ Y ∅ ∅
   .exact wU _ _ O ∅ ∅
  clear_value jp2;refine cX (λhk0=>?_) (λhk0=>?_)
  .have T:ge κ a b (d++a.extract f (f+k)) (f+k) l:=u.extA ∅ λi N g1 g2 j p g3=>(cK i N g1 g2).trans (jT g3 p);refine cX (λG=>?_) λG=>?_
   .have pM:f+k+1=a.size:=by simpa using G
    exact aY ⟨F,.inl ⟨_,_,rfl,T.last pM (fN ∅ pM)⟩⟩
   have pM:f+k+1≠a.size:=by simpa using G
   refine cX (λe4=>?_) λe4=>?_
   .exact aY ⟨F,.inl ⟨_,_,rfl,T.doneB (by simpa using e4)⟩⟩
   have e4':f+k≠a.size:=by simpa using e4
   exact wS _ _ T ∅ ∅
  .exact wS _ _ u ∅ ∅
 exact cX (λ_=>p _ _ t) λ_=>p _ _ t
end
def BU(d:KeyKind):KeyKind where
 α:=d.α
 blt:=λa b=>d.blt b a
 irrefl:=d.irrefl
 trans:=λa b c g f=>d.trans c b a f g
 negTrans:=λa b c h=>(d.negTrans c b a h).symm
 total:=λa b g f=>d.total a b f g
 keyOf:=d.keyOf
 dflt:=d.dflt
section
variable{κ:KeyKind}{g:jv}
theorem uq{x y:Keyed}(h:bS κ y x):bS (BU κ) x y:=h
theorem D9{a:Array Keyed}{n:Nat}(h:0<n)(b:n<=a.size):(a.toList.take n).reverse=(a[n-1]'∅)::(a.toList.take (n-1)).reverse:=by
 obtain⟨m,rfl⟩:∃m,n=m+1:=⟨n-1,∅⟩
 rw[Uw (by simp;lia),JC];simp
theorem HJ(a:Array Keyed)(p n:Nat)(b:p<=n):a.toList.take n=a.toList.take p++(a.extract p n).toList:=by
 rw[lH]
 conv=>lhs;rw[show n=p+(n-p) by lia]
 rw[List.take_add]
theorem sB{a:Array Keyed}{n:Nat}(d:n<=a.size){x:Keyed}(h:x∈a.toList.take n):∃j,∃f:j<a.size,j<n/\a[j]=x:=by
 obtain⟨m,b,e⟩:=zN h;rw[JB]at e;have c:m<n:=by simp at b;lia
 exact⟨m,∅,c,by simpa using e⟩
theorem Bw{a:Array Keyed}{p n:Nat}(d:n<=a.size){x:Keyed}(h:x∈(a.extract p n).toList):∃j,∃f:j<a.size,p<=j/\j<n/\a[j]=x:=by
 rw[lH]at h;obtain⟨m,b,e⟩:=zN h;rw[JB,JA]at e;have c:p+m<n:=by simp at b;lia
 exact⟨p+m,∅,∅,c,by simpa using e⟩
theorem qp(a:Array Keyed)(n:Nat):(a.extract 0 n).toList=a.toList.take n:=by rw[lH];simp
structure gf(κ:KeyKind)(a b c:Array Keyed)(f d:Nat):Prop where
 ms:MS (BU κ) (a.toList++b.toList) c.toList (a.toList.take f).reverse (b.toList.take d).reverse
 la:f<=a.size
 lb:d<=b.size
variable{a b c:Array Keyed}{f d:Nat}
theorem gf.pushA(h:gf κ a b c f d)(o:0<f)(q:f-1<a.size)(l:∀j (i:j<b.size),j<d->bS κ b[j] a[f-1]):gf κ a b (c.push a[f-1]) (f-1) d:=by refine⟨?_,∅,h.lb⟩;rw[v_];refine MS.stepA (by rw[Dg,<-D9 o h.la];exact h.ms) λu n v m=>?_;obtain⟨j,i,p,rfl⟩:=sB h.lb (rj.mp m);rw[fu.mp n];exact uq (l j i p)
theorem gf.pushB(h:gf κ a b c f d)(o:0<d)(p:d-1<b.size)(l:∀j (i:j<a.size),j<f->bS κ a[j] b[d-1]):gf κ a b (c.push b[d-1]) f (d-1):=by refine⟨?_,h.la,∅⟩;rw[v_];refine MS.stepB (by rw[Dg,<-D9 o h.lb];exact h.ms) λu n v m=>?_;obtain⟨j,i,q,rfl⟩:=sB h.la (rj.mp m);rw[fu.mp n];exact uq (l j i q)
theorem gf.extA{p:Nat}(h:gf κ a b c f d)(l:p<=f)(o:∀i (n:i<a.size),p<=i->i<f->∀j (m:j<b.size),j<d->bS κ b[j] a[i]):gf κ a b (c++(a.extract p f).reverse) p d:=by refine⟨?_,cP l h.la,h.lb⟩;rw[i7,Array.toList_reverse];refine MS.stepA (by rw[<-JC,<-HJ _ _ _ l];exact h.ms) λu r v q=>?_;obtain⟨j,m,w,rfl⟩:=sB h.lb (rj.mp q);obtain⟨i,n,t,s,rfl⟩:=Bw h.la (rj.mp r);exact uq (o i n t s j m w)
theorem gf.extB{p:Nat}(h:gf κ a b c f d)(l:p<=d)(o:∀i (n:i<b.size),p<=i->i<d->∀j (m:j<a.size),j<f->bS κ a[j] b[i]):gf κ a b (c++(b.extract p d).reverse) f p:=by refine⟨?_,h.la,cP l h.lb⟩;rw[i7,Array.toList_reverse];refine MS.stepB (by rw[<-JC,<-HJ _ _ _ l];exact h.ms) λu r v q=>?_;obtain⟨j,m,w,rfl⟩:=sB h.la (rj.mp q);obtain⟨i,n,t,s,rfl⟩:=Bw h.lb (rj.mp r);exact uq (o i n t s j m w)
theorem Aj{T:List Keyed}{r q:Array Keyed}(h:g8 (BU κ) T q)(e:r.toList=q.toList.reverse):g8 κ T r:=by refine⟨by rw[e];exact(JD _).trans h.1,?_⟩;rw[e,JE];exact h.2
theorem gf.doneA(h:gf κ a b c f d)(e:f=0):g8 κ (a.toList++b.toList) (a.extract 0 f++b.extract 0 d++c.reverse):=by have:=h.ms;rw[e,C9,List.reverse_nil]at this;refine Aj (q:=(c.toList++(b.toList.take d).reverse).toArray) (this.swap.endA (by simp)) ?_;rw[i7,i7,qp,qp,e];simp
theorem gf.doneB(h:gf κ a b c f d)(e:d=0):g8 κ (a.toList++b.toList) (a.extract 0 f++b.extract 0 d++c.reverse):=by have:=h.ms;rw[e,C9,List.reverse_nil]at this;refine Aj (q:=(c.toList++(a.toList.take f).reverse).toArray) (this.endA (by simp)) ?_;rw[i7,i7,qp,qp,e];simp
theorem gf.first(h:gf κ a b c f d)(e:d=1)(p:∀j (n:j<a.size),bS κ (b[0]'(by have:=h.lb;lia)) a[j]):g8 κ (a.toList++b.toList) (b.extract 0 d++a.extract 0 f++c.reverse):=by
 refine Aj (q:=(c.toList++((a.toList.take f).reverse++(b.toList.take d).reverse)).toArray) (h.ms.swap.last (λu m v l=>?_) (by simp)) ?_
 .obtain⟨i,o,s,rfl⟩:=sB h.la (rj.mp m);obtain⟨j,n,r,rfl⟩:=sB h.lb (rj.mp l);have:j=0:=∅
  subst this;exact uq (p i o)
 .rw[i7,i7,qp,qp];simp
end
section
variable{f:aS}{w:aG}{A:aV}{E:ai->am->Prop}{s:am}{d:KeyKind}{l:jv}
theorem Ng(hO:jI d l f w A s){S:bN}(hk:SB l S){a b:Array Keyed}{Q:Array Keyed->bN->Prop}(ha:0<a.size)(hb:0<b.size)(hA:∀i (hi:i<a.size),il d a[i]) (hB:∀i (hi:i<b.size),il d b[i]) (sa:u6 d a) (sb:u6 d b)(h0:bS d b[0] a[0]) (hl:∀j (v:j<b.size),bS d b[j] a[a.size-1])(h:∀r J,g6 S J->g8 d (a.toList++b.toList) r->Q r J):wpS (ax f w) A E s (Hr a b) Q S:=by
 have jT:∀{i j:Nat} (P:i<=j) (v:j<b.size),bS d (b[i]'∅) b[j]:=λ{i j} P v=>sb i j v P;have rL:∀{i j:Nat} (P:i<=j) (v:j<a.size),bS d (a[i]'∅) a[j]:=λ{i j} P v=>sa i j v P;have hf:∀j (v:j<a.size),bS d b[0] a[j]:=λj v=>h0.trans (rL ∅ v);have I0:gf d a b #[a[a.size-1]] (a.size-1) b.size:=by
  have B:gf d a b #[] a.size b.size:=by
   refine⟨⟨?_,by simp,?_,?_,by simp,by simp⟩,∅,∅⟩
   .simp only[<-n5,Di,hZ];exact List.Perm.append (JD _) (JD _)
   .simp only[<-n5,Di,JE];exact sa.pw
   .simp only[<-n5,Di,JE];exact sb.pw
  exact B.pushA ha ∅ λj v _=>hl j v
 unfold Hr;refine aJ (t9 (og ⟨rfl,?_⟩));refine aJ (fD ∅ ?_);refine cX (λe1=>aY (h _ _ .rfl (I0.doneA (by simpa using e1)))) λe1=>?_;have uj:a.size-1≠0:=by simpa using e1
 refine cX (λe2=>?_) λe2=>?_
 .have lW:b.size=1:=by simpa using e2
  exact aY (h _ _ .rfl (I0.first lW hf))
 have lW:b.size≠1:=by simpa using e2
 refine aJ (lQ ?_);refine aJ (ie (ig (I:=λx c J=>g6 S J/\∃t u q O,c=(ae,u,q,t,O)/\gf d a b t u q/\0<u/\u<=a.size/\1<q/\q<=b.size/\x+1+u+q<=a.size+b.size) (Q:=λc J=>g6 S J/\∃r,c.1=aa r/\g8 d (a.toList++b.toList) r) ?_ ?_ ?_) ?_);rotate_left
 .rintro c J ⟨_,t,u,q,O,rfl,z,B,L,K,M,T⟩;lia
 .exact⟨.rfl,_,_,_,_,rfl,I0,∅,∅,∅,∅,∅⟩
 .rintro⟨c1,c⟩ J ⟨H,r,rfl,hD⟩;exact aY (h r J H hD)
 rintro x c J _ hx ⟨H,t,u,q,O,rfl,z,B,L,K,M,T⟩;refine aJ (ie (ig (I:=λy c D=>D=J/\∃t u q G F,c=(ae,u,q,t,G,F)/\gf d a b t u q/\0<u/\u<=a.size/\1<q/\q<=b.size/\x+1+y+u+q<=a.size+b.size) (Q:=λc D=>D=J/\((∃r c',c=(aa r,c')/\g8 d (a.toList++b.toList) r)\/∃t u q G F,c=(ae,u,q,t,G,F)/\gf d a b t u q/\0<u/\u<=a.size/\1<q/\q<=b.size/\x+1+1+u+q<=a.size+b.size)) ?_ ?_ ?_) ?_)
 .rintro y c D _ hy ⟨rfl,t,u,q,G,F,rfl,z,B,L,K,M,T⟩;dsimp only;refine aJ (fD ∅ (aJ (fD ∅ (aJ (vK hO (H.sb hk) (hB (q-1) ∅) (hA (u-1) ∅) ?_)))));cases e:d.blt (kO d (b[q-1]'∅)) (kO d (a[u-1]'∅))with
  |true=>
   dsimp only;rw[if_pos rfl];refine aJ (fD ∅ ?_);have W:=z.pushA B ∅ λj v gc=>bS.trans (jT (show j<=q-1 by lia) ∅) (lR e);refine cX (λN=>?_) λN=>?_
   .exact aY ⟨rfl,.inl ⟨_,_,rfl,W.doneA (by simpa using N)⟩⟩
   have pM:u-1≠0:=by simpa using N
   refine cX (λe4=>?_) λe4=>?_
   .exact aY ⟨rfl,.inr ⟨_,_,_,_,_,rfl,W,∅,∅,∅,∅,∅⟩⟩
   .exact aY ⟨rfl,_,_,_,_,_,rfl,W,∅,∅,∅,∅,∅⟩
  |false=>
   dsimp only;rw[if_neg (by simp)];refine aJ (fD ∅ ?_);have W:=z.pushB ∅ ∅ λj v gc=>bS.trans (rL (show j<=u-1 by lia) ∅) (show bS d (a[u-1]'∅) (b[q-1]'∅)from e);refine cX (λN=>?_) λN=>?_
   .exact aY ⟨rfl,.inl ⟨_,_,rfl,W.first (by simpa using N) hf⟩⟩
   have pM:q-1≠1:=by simpa using N
   refine cX (λe4=>?_) λe4=>?_
   .exact aY ⟨rfl,.inr ⟨_,_,_,_,_,rfl,W,∅,∅,∅,∅,∅⟩⟩
   .exact aY ⟨rfl,_,_,_,_,_,rfl,W,∅,∅,∅,∅,∅⟩
 .rintro c D ⟨rfl,t,u,q,G,F,rfl,z,B,L,K,M,T⟩;lia
 .exact⟨rfl,_,_,_,_,_,rfl,z,B,L,K,M,∅⟩
 rintro c D ⟨rfl,⟨r,c',rfl,hD⟩|⟨t,u,q,G,F,rfl,z,B,L,K,M,T⟩⟩
 .exact aY ⟨H,r,rfl,hD⟩
 refine aJ (t9 (og ⟨rfl,?_⟩));refine aJ (ie (ig (I:=λy c D=>g6 S D/\∃t u q O G F,c=(ae,u,q,t,O,G,F)/\gf d a b t u q/\0<u/\u<=a.size/\1<q/\q<=b.size/\x+2+y+u+q<=a.size+b.size) (Q:=λc D=>g6 S D/\((∃r c',c=(aa r,c')/\g8 d (a.toList++b.toList) r)\/∃t u q O G F,c=(ae,u,q,t,O,G,F)/\gf d a b t u q/\0<u/\u<=a.size/\1<q/\q<=b.size/\x+1+1+u+q<=a.size+b.size)) ?_ ?_ ?_) ?_);rotate_left
 .rintro c D ⟨_,t,u,q,O,G,F,rfl,z,B,L,K,M,T⟩;lia
 .exact⟨H,_,_,_,_,_,_,rfl,z,B,L,K,M,∅⟩
 .rintro c D ⟨H,⟨r,c',rfl,hD⟩|⟨t,u,q,O,G,F,rfl,z,B,L,K,M,T⟩⟩
  .exact aY ⟨H,r,rfl,hD⟩
  .dsimp only;exact aJ (AW H λY C=>aY ⟨C,_,_,_,_,rfl,z,B,L,K,M,∅⟩)
 clear B L K M T z H I0 e1 e2;rintro y c D _ hy ⟨H,t,u,q,O,G,F,rfl,z,B,L,K,M,T⟩;clear hx hy;refine(?_:wpS (ax f w) A E s _ ?Q _);extract_lets -merge x1 x2 x3 x4 x5 x6 x7 x8 x9 xa xb xc jp;have v:∀g Y,g6 S Y->wpS (ax f w) A E s (jp () g) ?Q Y:=by
  intro g Y C;dsimp -zeta only[jp,x1,x2,x3,x4,x5,x6,x7,x8,x9,xa,xb,xc];refine aJ (AW C λY C=>?_);refine aJ (fD ∅ ?_);refine aJ (BZ hO (C.sb hk) (base:=0) (n:=u) (hint:=u-1) (hB (q-1) ∅) ∅ hA (λi j P v _=>rL P ∅) ∅ λp gJ cK gv=>?_);dsimp -zeta only;extract_lets -merge y1 y2 jp2;have wS:∀n o,gf d a b o n q->0<n->n<=p->wpS (ax f w) A E s (jp2 () n o) ?Q Y:=by
   intro n o wT pM e4;dsimp -zeta only[jp2,y1,y2];refine aJ (fD ∅ ?_);have X:=wT.pushB ∅ ∅ λj v g=>cK j v ∅ ∅;refine cX (λe5=>?_) λe5=>?_
   .exact aY ⟨C,.inl ⟨_,_,rfl,X.first (by simpa using e5) hf⟩⟩
   have e5':q-1≠1:=by simpa using e5
   refine aJ (fD ∅ ?_);refine aJ (Bq hO (C.sb hk) (base:=0) (n:=q-1) (hint:=q-1-1) (hA _ _) ∅ hB (λi j P v _=>jT P ∅) ∅ λp' m1 m2 m3=>?_);dsimp -zeta only;extract_lets -merge z1 z2 z3 jp3;have wU:∀m o,gf d a b o n m->1<m->m<=p'->wpS (ax f w) A E s (jp3 () m o) ?Q Y:=by
    intro m o Z e6 e7;dsimp -zeta only[jp3,z1,z2,z3];refine aJ (fD ∅ ?_);have wW:=Z.pushA ∅ ∅ (λj v g=>lR (m2 j v ∅ ∅));refine cX (λe7=>?_) λe7=>?_
    .exact aY ⟨C,.inl ⟨_,_,rfl,wW.doneA (by simpa using e7)⟩⟩
    have e7':n-1≠0:=by simpa using e7
    refine cX (λe8=>?_) λe8=>?_
    .exact aY ⟨C,.inr ⟨_,_,_,_,_,_,rfl,wW,∅,∅,∅,∅,∅⟩⟩
    .exact aY ⟨C,_,_,_,_,_,_,rfl,wW,∅,∅,∅,∅,∅⟩
   clear_value jp3;refine cX (λDH=>?_) (λDH=>?_)
   .have Z:=X.extB (p:=p') ∅ (λi hi g1 g2 j v g3=>bS.trans (rL (show j<=n-1 by lia) ∅) (m3 i hi ∅ ∅));refine cX (λe6=>?_) λe6=>?_
    .exact aY ⟨C,.inl ⟨_,_,rfl,Z.first (by simpa using e6) hf⟩⟩
    refine cX (λe9=>?_) λe9=>?_
    .exact aY ⟨C,.inl ⟨_,_,rfl,Z.doneB (by simpa using e9)⟩⟩
    have e6':p'≠1:=by simpa using e6
    have e9':p'≠0:=by simpa using e9
    exact wU _ _ Z ∅ ∅
   .exact wU _ _ X ∅ ∅
  clear_value jp2;refine cX (λhk0=>?_) (λhk0=>?_)
  .have wT:gf d a b (t++(a.extract p u).reverse) p q:=z.extA ∅ λi hi g1 g2 j v g3=>bS.trans (jT (show j<=q-1 by lia) ∅) (lR (gv i hi ∅ ∅));refine cX (λN=>?_) λN=>?_
   .exact aY ⟨C,.inl ⟨_,_,rfl,wT.doneA (by simpa using N)⟩⟩
   have pM:p≠0:=by simpa using N
   exact wS _ _ wT ∅ ∅
  .exact wS _ _ z ∅ ∅
 exact cX (λ_=>v _ _ H) λ_=>v _ _ H
end
def putL(a:Array Keyed)(c:Nat)(l:List Keyed):Array Keyed:=l.zipIdx.foldl (λa (b:Keyed×Nat)=>a.setIfInBounds (c+b.2) b.1) a
theorem Aw:∀(l:List Keyed) (n b:Nat) (a:Array Keyed),b+n+l.length<=a.size -> ((l.zipIdx n).foldl (λa (c:Keyed×Nat)=>a.setIfInBounds (b+c.2) c.1) a).size=a.size /\ ∀k,((l.zipIdx n).foldl (λa (c:Keyed×Nat)=>a.setIfInBounds (b+c.2) c.1) a)[k]?=if b+n<=k/\k<b+n+l.length then l[k-(b+n)]? else a[k]?
 |[],n,b,a,_=>⟨rfl,λk=>by rw[if_neg (by simp)];rfl⟩
 |x::l,n,b,a,h=>by
  have g:b+(n+1)+l.length<=(a.setIfInBounds (b+n) x).size:=by simp at h ⊢;lia
  obtain⟨j,i⟩:=Aw l (n+1) b (a.setIfInBounds (b+n) x) g;rw[List.zipIdx_cons,lf];refine⟨by rw[j];simp,λk=>?_⟩;rw[i];by_cases f:b+n=k
  .subst f;rw[if_neg ∅,if_pos (by simp)];rw[Array.getElem?_setIfInBounds_self_of_lt (by simp at h;lia)];simp
  .by_cases d:b+(n+1)<=k/\k<b+(n+1)+l.length
   .rw[if_pos d,if_pos (by simp;lia)];rw[show k-(b+n)=k-(b+(n+1))+1 by lia,List.getElem?_cons_succ]
   .rw[if_neg d,if_neg (by simp;lia),Array.getElem?_setIfInBounds_ne f]
theorem Me{a:Array Keyed}{b:Nat}{l:List Keyed}(h:b+l.length<=a.size):(putL a b l).size=a.size:=(Aw l 0 b a ∅).1
theorem BD{a:Array Keyed}{b:Nat}{l:List Keyed}(h:b+l.length<=a.size)(k:Nat):(putL a b l)[k]?=if b<=k/\k<b+l.length then l[k-b]? else a[k]? :=(Aw l 0 b a ∅).2 k
theorem Q8{a:Array Keyed}{b n:Nat}{l:List Keyed}(h:b+n<=a.size)(d:l.Perm ((a.toList.drop b).take n)):(putL a b l).toList.Perm a.toList:=by
 have f:l.length=n:=by rw[d.length_eq,lc,mE];simp;lia
 have e:(putL a b l).toList=a.toList.take b++(l++a.toList.drop (b+n)):=by
  apply wc;intro k;rw[zJ,BD ∅,List.getElem?_append,List.getElem?_append,lc,JF,C8,f];simp only[n5,zJ];rw[show min b a.size=b by lia];by_cases c:k<b
  .rw[if_neg ∅,if_pos c,if_pos c]
  .rw[if_neg c];by_cases i:k<b+n
   .rw[if_pos ∅,if_pos ∅]
   .rw[if_neg ∅,if_neg ∅];congr 1;lia
 rw[e];have g:a.toList=a.toList.take b++((a.toList.drop b).take n++a.toList.drop (b+n)):=by rw[<-List.drop_drop,mH,mH]
 conv=>rhs;rw[g]
 exact zE _ (List.Perm.append_right _ d)
section
variable{κ:KeyKind}{kz:jv}
def Run(κ:KeyKind)(a:Array Keyed)(b n:Nat):Prop:=∀i j x y,b<=i->i<=j->j<b+n->a[i]?=aa x->a[j]?=aa y->bS κ x y
theorem bS.refl(x:Keyed):bS κ x x:=mK _
structure Wr(a a':Array Keyed)(lo n:Nat):Prop where
 perm:a'.toList.Perm a.toList
 size:a'.size=a.size
 out:∀k,k<lo\/lo+n<=k->a'[k]?=a[k]?
theorem Run.keep{a m:Array Keyed}{c n b f:Nat}(h:Run κ a c n)(w:Wr a m b f)(d:c+n<=b\/b+f<=c):Run κ m c n:=by intro i j x y q p o l g;rw[w.out i ∅]at l;rw[w.out j ∅]at g;exact h i j x y q p o l g
end
section
variable{b:aS}{w:aG}{A:aV}{E:ai->am->Prop}{s:am}{κ:KeyKind}{c:jv}
theorem Sd{a:Type}{M:Model}{Q:PUnit->a->Prop}{f d:a}(h:Q ⟨⟩ d):wpS M A E s (set d:StateT a Sem PUnit) Q f:=by unfold wpS;rw[StateT.run_set];exact aI ⟨rfl,h⟩
theorem Um(a:Array Keyed){p q t:Nat}(f:p<=q)(d:q<=t):(a.extract p q).toList++(a.extract q t).toList=(a.extract p t).toList:=by rw[lH,lH,lH,show t-p=(q-p)+(t-q) by lia,List.take_add,List.drop_drop,show p+(q-p)=q by lia]
theorem Tj{a:Array Keyed}{d f p k g:Nat}(Z:d+f+p<=a.size)(hk:k<f)(h0:0<g)(hnb:g<=p)(Y:Run κ a d f)(X:Run κ a (d+f) p)(a1:∀i (o:i<a.size),d<=i->i<d+k->bS κ a[i] (a[d+f]'∅)) (b2:∀i (o:i<a.size),d+f+g<=i->i<d+f+p->bS κ (a[d+f-1]'∅) a[i]){r:Array Keyed} (v:g8 κ ((a.extract (d+k) (d+f)).toList++(a.extract (d+f) (d+f+g)).toList) r):Wr a (putL a (d+k) r.toList) d (f+p)/\Run κ (putL a (d+k) r.toList) d (f+p):=by
 rw[Um _ ∅ ∅]at v;have bo:r.toList.length=f-k+g:=by rw[v.1.length_eq,lH,lc,mE,n5];lia
 have F:d+k+r.toList.length<=a.size:=∅
 have C:∀m∈r.toList,∃t,∃D:t<a.size,d+k<=t/\t<d+f+g/\a[t]=m:=λm C=>Bw ∅ (v.1.mem_iff.mp C);have H:∀{i j:Nat} (B:i<=j) (l:j<d+f),d<=i->bS κ (a[i]'∅) (a[j]'∅):=λ{i j} B l o=>Y i j _ _ o B l (getElem?_pos _ _ _) (getElem?_pos _ _ _);have G:∀{i j:Nat} (B:i<=j) (l:j<d+f+p),d+f<=i->bS κ (a[i]'∅) (a[j]'∅):=λ{i j} B l o=>X i j _ _ o B l (getElem?_pos _ _ _) (getElem?_pos _ _ _);have pS:∀i (o:i<a.size) j (l:j<a.size),d<=i->i<d+k->d+f<=j->j<d+f+p->bS κ a[i] a[j]:=λi o j l c1 J N c4=>(a1 i o c1 J).trans (G N c4 (a9 _));refine⟨⟨?_,Me F,λq hq=>?_⟩,?_⟩
 .refine Q8 (n:=f-k+g) ∅ ?_;have:=v.1;rwa[lH,show d+f+g-(d+k)=f-k+g by lia]at this
 .rw[BD F,if_neg ∅]
 .intro i j x y h1 K h3 u h;rw[BD F]at u h;by_cases M:d+k<=i/\i<d+k+r.toList.length
  .rw[if_pos M]at u;obtain⟨t,D,W,T,rfl⟩:=C x (zr u);by_cases z:d+k<=j/\j<d+k+r.toList.length
   .rw[if_pos z]at h;by_cases I:i=j
    .subst I;rw[u]at h;cases h;exact bS.refl _
    .obtain⟨S,Q⟩:=d7.mp u;obtain⟨P,O⟩:=d7.mp h;have:=List.pairwise_iff_getElem.mp v.2 (i-(d+k)) (j-(d+k)) S P ∅;rw[Q,O]at this;exact this
   .rw[if_neg z]at h;obtain⟨l,rfl⟩:=qY.mp h;by_cases L:t<d+f
    .exact(H (show t<=d+f-1 by lia) ∅ ∅).trans (b2 j l ∅ ∅)
    .exact G ∅ ∅ ∅
  .rw[if_neg M]at u;obtain⟨o,rfl⟩:=qY.mp u;by_cases z:d+k<=j/\j<d+k+r.toList.length
   .rw[if_pos z]at h;obtain⟨t,D,W,T,rfl⟩:=C y (zr h);by_cases L:t<d+f
    .exact H ∅ L ∅
    .exact pS i o t D ∅ ∅ ∅ ∅
   .rw[if_neg z]at h;obtain⟨l,rfl⟩:=qY.mp h;by_cases J:i<d+k
    .by_cases N:j<d+k
     .exact H K ∅ h1
     .exact pS i o j l ∅ J ∅ ∅
    .exact G K ∅ ∅
theorem Er{a:Array Keyed}{f d g:Nat}(q:f+d+g<=a.size)(t:0<d)(r:0<g)(n:Run κ a f d)(m:Run κ a (f+d) g)(u:bS κ (a[f+d-1]'∅) (a[f+d]'∅)):Run κ a f (d+g):=by
 intro i j x y p o z l h;by_cases v:j<f+d
 .exact n i j x y p o v l h
 .by_cases B:i<f+d
  .exact((n i (f+d-1) x _ p ∅ ∅ l (getElem?_pos _ _ _)).trans u).trans (m (f+d) j _ y ∅ ∅ ∅ (getElem?_pos _ _ _) h)
  .exact m i j x y ∅ o ∅ l h
theorem Wr.same{a:Array Keyed}{lo n:Nat}:Wr a a lo n:=⟨tY _,rfl,λ_ _=>rfl⟩
theorem Q5(J:jI κ c b w A s){o:bN}(hk:SB c o)(v:∀i (m:i<(arrOf o).size),il κ (arrOf o)[i]){i d a pw g D:Nat}(M:(bw o)[i]?=aa (d,a,pw)) (L:(bw o)[i+1]?=aa (d+a,g,D)) (x:0<a) (F:0<g) (p:d+a+g<=(arrOf o).size)(z:Run κ (arrOf o) d a) (y:Run κ (arrOf o) (d+a) g) {Q:Bool->bN->Prop}(h:∀t,SB c t->bw t=((bw o).setIfInBounds i (d,a+g,pw)).eraseIdxIfInBounds (i+1)->Wr (arrOf o) (arrOf t) d (a+g)->Run κ (arrOf t) d (a+g)->Q ah t):wpS (ax b w) A E s (mergeAt' i) Q o:=by
 obtain⟨kd,f,I,mg,fl⟩:=o;have P:c=kd:=hk.kind.symm;have mV:fl=ae:=hk.failed;subst mV;subst P;replace v:∀i (m:i<f.size),il κ f[i]:=v;replace p:d+a+g<=f.size:=p;replace z:Run κ f d a:=z;replace y:Run κ f (d+a) g:=y;replace M:I[i]?=aa (d,a,pw):=M;replace L:I[i+1]?=aa (d+a,g,D):=L;replace h:∀t,SB c t->bw t=(I.setIfInBounds i (d,a+g,pw)).eraseIdxIfInBounds (i+1)->Wr f (arrOf t) d (a+g)->Run κ (arrOf t) d (a+g)->Q ah t:=h;have g1:∀{i j:Nat} (q:i<=j) (l:j<d+a),d<=i->bS κ (f[i]'∅) (f[j]'∅):=λ{i j} q l m=>z i j _ _ m q l (getElem?_pos _ _ _) (getElem?_pos _ _ _);have g2:∀{i j:Nat} (q:i<=j) (l:j<d+a+g),d+a<=i->bS κ (f[i]'∅) (f[j]'∅):=λ{i j} q l m=>y i j _ _ m q l (getElem?_pos _ _ _) (getElem?_pos _ _ _);unfold mergeAt';refine aJ (lQ ?_);dsimp only;rw[M,L];dsimp only;refine aJ (Sd ?_);generalize (I.setIfInBounds i (d,a+g,pw)).eraseIdxIfInBounds (i+1)=pend at *;refine aJ (fD ∅ ?_);refine aJ (BZ J ⟨rfl,rfl⟩ (base:=d) (n:=a) (hint:=0) (v _ _) ∅ v (λi j q l m=>g1 q l m) x λk m1 Z m3=>?_);dsimp only;refine cX (λW=>?_) λW=>?_
 .have X:a<=k:=by have:a-k=0:=(by simpa using W);lia
  refine aY (h _ ⟨rfl,rfl⟩ rfl Wr.same (Er p x F z y (Z _ _ ∅ ∅)))
 have X:k<a:=by have:a-k≠0:=(by simpa using W);lia
 refine aJ (fD ∅ ?_);refine aJ (Bq J ⟨rfl,rfl⟩ (base:=d+a) (n:=g) (hint:=g-1) (v _ _) ∅ v (λi j q l m=>g2 q l m) ∅ λu n1 Y N=>?_);dsimp only;have G:d+k+(a-k)-1=d+a-1:=∅
 simp only[G]at Y N;refine cX (λT=>?_) λT=>?_
 .have lW:u=0:=by simpa using T
  refine aY (h _ ⟨rfl,rfl⟩ rfl Wr.same (Er p x F z y (N _ _ ∅ ∅)))
 have lW:u≠0:=by simpa using T
 have xs:(f.extract (d+k) (d+a)).size=a-k:=by simp;lia
 have ys:(f.extract (d+a) (d+a+u)).size=u:=by simp;lia
 refine cX (λ_=>?_) λ_=>?_
 all_goals
  first
   |refine aJ (Q7 J ⟨rfl,rfl⟩ ∅ ∅ ?_ ?_ ?_ ?_ ?_ ?_ ?_)
   |refine aJ (Ng J ⟨rfl,rfl⟩ ∅ ∅ ?_ ?_ ?_ ?_ ?_ ?_ ?_)
  .intro j l;rw[ou];exact v _ _
  .intro j l;rw[ou];exact v _ _
  .intro i j l q;rw[ou,ou];exact g1 ∅ ∅ ∅
  .intro i j l q;rw[ou,ou];exact g2 ∅ ∅ ∅
  .rw[ou,ou];exact lR (m3 _ _ ∅ ∅)
  .intro j l;rw[ou,ou];have:=Y (d+a+j) ∅ ∅ ∅;have e:d+k+((f.extract (d+k) (d+a)).size-1)=d+a-1:=∅
   simp only[e];exact lR this
  .rintro r ⟨O,H,K,mg',S⟩ ⟨C,B,c3,c4⟩ hD;change O=c at C;change H=f at B;change K=pend at c3;change S=ae at c4;subst C B c3 c4;refine aJ (ot ?_);refine aJ (lQ ?_);obtain⟨w1,w2⟩:=Tj p X ∅ n1 z y (λi m C B=>Z i m C B) (λi m C B=>N i m C B) hD;exact aY (h _ ⟨rfl,rfl⟩ rfl w1 w2)
end
section
variable{κ:KeyKind}{kz:jv}
theorem AN{a:Array Keyed}{i:Nat}{x:Keyed}(h:a[i]?=aa x):KK κ a i=kO κ x:=by unfold KK kO;rw[h]
theorem yG{a:Array Keyed}{i:Nat}(h:i<a.size):KK κ a i=kO κ a[i]:=AN (getElem?_pos _ _ _)
def iJ(κ:KeyKind)(a:Array Keyed)(lo n:Nat):Prop:=∀i j,lo<=i->i<=j->j<lo+n->κ.kle (KK κ a i) (KK κ a j)
def oO(κ:KeyKind)(a:Array Keyed)(lo n:Nat):Prop:=∀i j,lo<=i->i<=j->j<lo+n->κ.kle (KK κ a j) (KK κ a i)
theorem iJ.run{a:Array Keyed}{b n:Nat}(h:iJ κ a b n):Run κ a b n:=by intro i j x y l g f d c;have:=h i j l g f;rw[AN d,AN c]at this;exact this
theorem Wr.trans{a b c:Array Keyed}{d n:Nat}(g:Wr a b d n)(f:Wr b c d n):Wr a c d n :=⟨f.perm.trans g.perm,f.size.trans g.size,λk h=>(f.out k h).trans (g.out k h)⟩
theorem Wr.mono{a b:Array Keyed}{d n c f:Nat}(h:Wr a b d n)(j:c<=d)(i:d+n<=c+f):Wr a b c f :=⟨h.perm,h.size,λk g=>h.out k ∅⟩
theorem Ko{a:Array Keyed}{i j:Nat}(b:j<=a.size)(d:i<=j):Wr a (mirror a i j ((j-i) / 2)) i (j-i) :=⟨JG.mp (mirror_perm _ _ _ _),mirror_size _ _ _ _,λk c=>by rw[getElem?_mirror_all b,if_neg ∅]⟩
theorem OK{a:Array Keyed}{b d:Nat}(c:b<a.size)(f:d<=b):Wr a (bubble a b d) (b-d) (d+1) :=⟨JG.mp (bubble_perm _ _ _),bubble_size _ _ _,λk g=>by rw[getElem?_bubble c d f,if_neg ∅,if_neg ∅]⟩
def AllK(κ:KeyKind)(a:Array Keyed):Prop:=∀i (b:i<a.size),il κ a[i]
theorem AllK.of{a b:Array Keyed}(h:AllK κ a)(p:b.toList.Perm a.toList):AllK κ b:=by intro i f;have c:b[i]∈a.toList:=p.mem_iff.mp (by simp);obtain⟨j,d,e⟩:=zN c;rw[<-e];simpa using h j (by simpa using d)
end
section
variable{d:aS}{w:aG}{A:aV}{E:ai->am->Prop}{s:am}{κ:KeyKind}{f:jv}
theorem qa(m:jI κ f d w A s){a:bN}(l:SB f a)(g:AllK κ (arrOf a)){i j:Nat}{Q:Option Bool->bN->Prop}(c:i<(arrOf a).size)(b:j<(arrOf a).size)(h:Q (aa (κ.blt (KK κ (arrOf a) i) (KK κ (arrOf a) j))) a):wpS (ax d w) A E s (ltAt' i j) Q a:=by rw[yG c,yG b]at h;rw[ltAt'_eq];refine aJ (lQ ?_);exact aJ (fD c (aJ (fD b (vK m l (g i c) (g j b) h))))
theorem u9{b a:bN}{lo n i j:Nat}{Q:Unit->bN->Prop}(m:SB f a)(o:bw a=bw b)(l:Wr (arrOf b) (arrOf a) lo n)(r:i<=j)(p:j<=(arrOf b).size)(q:lo<=i)(t:j<=lo+n)(h:∀c,SB f c->bw c=bw b->Wr (arrOf b) (arrOf c) lo n->(∀k,KK κ (arrOf c) k=if i<=k/\k<j then KK κ (arrOf a) (i+j-1-k)else KK κ (arrOf a) k)->Q () c):wpS (ax d w) A E s (reverseSlice' i j) Q a:=by
 have g:j<=(arrOf a).size:=by rw[l.size];exact p
 exact wpS_reverse (h _ ⟨m.kind,m.failed⟩ o (l.trans ((Ko g r).mono q ∅)) λk=>KK_mirror g k)
theorem Ud{i:Type}{c:Prop}[Decidable c]{j h:StateT bN Sem i}{Q:i->bN->Prop}{g:bN}{J:bN->Prop}(l:¬c->J g)(a:∀b,J b->wpS (ax d w) A E s h Q b)(m:c->(∀b,J b->wpS (ax d w) A E s h Q b)->wpS (ax d w) A E s j Q g):wpS (ax d w) A E s (if c then j else h) Q g :=cX (λe=>m e a) λe=>a g (l e)
theorem Br{a:Array Keyed}{lo x:Nat}(b:iJ κ a lo x)(h:1<=x)(e:κ.kle (KK κ a (lo+x-1)) (KK κ a (lo+x))):iJ κ a lo (x+1):=λi j c n o=>by
 by_cases l:j<lo+x
 .exact b i j c n l
 .have g:j=lo+x:=∅
  subst g;by_cases m:i=lo+x
  .subst m;exact mK _
  .exact we (b i (lo+x-1) c ∅ ∅) e
theorem Ed{a:Array Keyed}{lo x:Nat}(b:oO κ a lo x)(h:1<=x)(e:κ.kle (KK κ a (lo+x)) (KK κ a (lo+x-1))):oO κ a lo (x+1):=λi j c n o=>by
 by_cases l:j<lo+x
 .exact b i j c n l
 .have g:j=lo+x:=∅
  subst g;by_cases m:i=lo+x
  .subst m;exact mK _
  .exact we e (b i (lo+x-1) c ∅ ∅)
theorem N0{a:Array Keyed}{lo x b:Nat}(g:∀i,lo+x-(b+1)<=i->i<lo+x->KK κ a i=KK κ a (lo+x-1))(h:KK κ a (lo+x)=KK κ a (lo+x-1)):∀i,lo+(x+1)-(b+1+1)<=i->i<lo+(x+1)->KK κ a i=KK κ a (lo+(x+1)-1):=λi l j=>by
 rw[show lo+(x+1)-1=lo+x by lia];by_cases c:i=lo+x
 .rw[c]
 .rw[g i ∅ ∅,h]
theorem E5{a b:Array Keyed}{i j n:Nat}(g:∀k,KK κ b k=if i<=k/\k<j then KK κ a (i+j-1-k)else KK κ a k)(c:∀k,i<=k->k<j->KK κ a k=KK κ a n):∀k,KK κ b k=KK κ a k:=λk=>by
 rw[g];split
 .rw[c _ ∅ ∅,c k ∅ ∅]
 .rfl
theorem Lw(P:jI κ f d w A s){u:bN}(O:SB f u)(S:AllK κ (arrOf u)){lo a:Nat}(h1:1<=a)(hsz:lo+a<=(arrOf u).size){Q:Option Nat->bN->Prop}(h:∀n p,SB f p->bw p=bw u->Wr (arrOf u) (arrOf p) lo a->1<=n->n<=a->iJ κ (arrOf p) lo n->Q (aa n) p):wpS (ax d w) A E s (countRun' lo a) Q u:=by
 have one:iJ κ (arrOf u) lo 1:=λi j r v C=>by
  have:i=j:=∅
  subst this;exact mK _
 have go:∀{t:bN},Wr (arrOf u) (arrOf t) lo a->(arrOf t).size=(arrOf u).size:=λw=>w.size;unfold countRun';refine aJ (ie (ig (I:=λx c g=>g=u/\c=(ae,x)/\iJ κ (arrOf u) lo x) (Q:=λc g=>g=u/\∃n,c=(ae,n)/\1<=n/\n<=a/\iJ κ (arrOf u) lo n/\(n=a\/κ.klt (KK κ (arrOf u) (lo+n)) (KK κ (arrOf u) (lo+n-1)))) ?_ ?_ ?_) ?_)
 .rintro x c g mX oD ⟨rfl,rfl,o⟩;dsimp only;refine aJ (qa P O S ∅ ∅ ?_);cases e:κ.blt (KK κ (arrOf g) (lo+x)) (KK κ (arrOf g) (lo+x-1))with
  |true=>exact aY ⟨rfl,x,rfl,∅,∅,o,.inr e⟩
  |false=>exact aY ⟨rfl,rfl,Br o ∅ e⟩
 .rintro c g ⟨rfl,rfl,o⟩;rw[show max 1 a=a by lia]at o ⊢;exact⟨rfl,a,rfl,∅,∅,o,.inl rfl⟩
 .exact⟨rfl,rfl,one⟩
 rintro c p ⟨rfl,n,rfl,n1,n2,o,hn⟩;dsimp only;refine cX (λe1=>aY (h n p O rfl Wr.same n1 n2 o)) λe1=>?_;have uj:n≠a:=by simpa using e1
 replace hn:κ.klt (KK κ (arrOf p) (lo+n)) (KK κ (arrOf p) (lo+n-1)):=hn.resolve_left uj;refine Ud (J:=λB=>SB f B/\bw B=bw p/\Wr (arrOf p) (arrOf B) lo a/\oO κ (arrOf B) lo (n+1)) (λen=>⟨O,rfl,Wr.same,λi j r v C=>?_⟩) (λB ⟨cK,fK,uk,hD⟩=>?_) λen key=>?_
 .have en':n=1:=∅
  by_cases hi:i=j
  .subst hi;exact mK _
  .have e1:i=lo+n-1:=∅
   have e2:j=lo+n:=∅
   rw[e1,e2];exact lR hn
 .refine aJ (t9 (og ⟨rfl,?_⟩));refine aJ (ie (ig (I:=λx c l=>∃b,c=(ae,x,b)/\SB f l/\bw l=bw p/\Wr (arrOf p) (arrOf l) lo a/\oO κ (arrOf l) lo x/\b+1<=x/\(∀i,lo+x-(b+1)<=i->i<lo+x->KK κ (arrOf l) i=KK κ (arrOf l) (lo+x-1))) (Q:=λc l=>∃m b,c=(ae,m,b)/\SB f l/\bw l=bw p/\Wr (arrOf p) (arrOf l) lo a/\1<=m/\m<=a/\oO κ (arrOf l) lo m/\b+1<=m/\(∀i,lo+m-(b+1)<=i->i<lo+m->KK κ (arrOf l) i=KK κ (arrOf l) (lo+m-1))) ?_ ?_ ?_) ?_)
  .rintro x c l mX oD ⟨b,rfl,z,F,y,D,hq,G⟩;have sz3:=y.size;dsimp only;refine aJ (qa P z (S.of y.perm) ∅ ∅ ?_);cases e3:κ.blt (KK κ (arrOf l) (lo+x)) (KK κ (arrOf l) (lo+x-1))with
   |true=>
    have hd':oO κ (arrOf l) lo (x+1):=Ed D ∅ (lR e3);dsimp only;rw[if_pos rfl];refine cX (λDJ=>?_) λDJ=>?_
    .refine aJ (u9 (κ:=κ) (lo:=lo) (n:=a) z F y ∅ ∅ ∅ ∅ λbW Z gK X DL=>?_);have W:=E5 DL G;exact aY ⟨0,rfl,Z,gK,X,λi j r v C=>by rw[W,W];exact hd' i j r v C,∅,λi r v=>by congr 1;lia⟩
    .exact aY ⟨0,rfl,z,F,y,hd',∅,λi r v=>by congr 1;lia⟩
   |false=>
    dsimp only;rw[if_neg (by simp)];refine aJ (qa P z (S.of y.perm) ∅ ∅ ?_);cases e4:κ.blt (KK κ (arrOf l) (lo+x-1)) (KK κ (arrOf l) (lo+x))with
    |true=>exact aY ⟨x,b,rfl,z,F,y,∅,∅,D,hq,G⟩
    |false=>have ex:KK κ (arrOf l) (lo+x)=KK κ (arrOf l) (lo+x-1):=KeyOrd.kle_antisymm e4 e3;exact aY ⟨b+1,rfl,z,F,y,Ed D ∅ (by rw[ex];exact mK _),∅,N0 G ex⟩
  .rintro c l ⟨b,rfl,z,F,y,D,hq,G⟩;rw[show max (n+1) a=a by lia]at D hq G ⊢;exact⟨a,b,rfl,z,F,y,∅,∅,D,hq,G⟩
  .exact⟨0,rfl,cK,fK,uk,hD,∅,λi r v=>by congr 1;lia⟩
  rintro c l ⟨m,b,rfl,z,F,y,m1,m2,D,hq,G⟩;dsimp only;refine cX (λDJ=>?_) λDJ=>?_
  .refine aJ (u9 (κ:=κ) (lo:=lo) (n:=a) z F y ∅ ∅ ∅ ∅ λbW Z gK X DL=>?_);have W:=E5 DL G;have N:oO κ (arrOf bW) lo m:=λi j r v C=>by rw[W,W];exact D i j r v C
   refine aJ (u9 (κ:=κ) (lo:=lo) (n:=a) Z gK X ∅ ∅ ∅ ∅ λt Y M H T=>?_);have L:iJ κ (arrOf t) lo m:=λi j r v C=>by rw[T,T,if_pos ⟨r,∅⟩,if_pos ⟨∅,C⟩];exact N _ _ ∅ ∅ ∅
   have sz5:=H.size;refine aJ (ie (ig (I:=λx c g=>g=t/\c=(ae,x)/\iJ κ (arrOf t) lo x) (Q:=λc g=>g=t/\∃n,c=(ae,n)/\1<=n/\n<=a/\iJ κ (arrOf t) lo n/\(n=a\/κ.klt (KK κ (arrOf t) (lo+n)) (KK κ (arrOf t) (lo+n-1)))) ?_ ?_ ?_) ?_)
   .rintro x c g mX oD ⟨rfl,rfl,o⟩;dsimp only;refine aJ (qa P Y (S.of H.perm) ∅ ∅ ?_);cases e:κ.blt (KK κ (arrOf g) (lo+x)) (KK κ (arrOf g) (lo+x-1))with
    |true=>exact aY ⟨rfl,x,rfl,∅,∅,o,.inr e⟩
    |false=>exact aY ⟨rfl,rfl,Br o ∅ e⟩
   .rintro c g ⟨rfl,rfl,o⟩;rw[show max m a=a by lia]at o ⊢;exact⟨rfl,a,rfl,∅,∅,o,.inl rfl⟩
   .exact⟨rfl,rfl,L⟩
   rintro c g ⟨rfl,q,rfl,q1,q2,K,_⟩;exact aY (h q g Y M H q1 q2 K)
  .have Z:=z;have gK:=F;have X:=y;have N:=D;refine aJ (u9 (κ:=κ) (lo:=lo) (n:=a) Z gK X ∅ ∅ ∅ ∅ λt Y M H T=>?_);have L:iJ κ (arrOf t) lo m:=λi j r v C=>by rw[T,T,if_pos ⟨r,∅⟩,if_pos ⟨∅,C⟩];exact N _ _ ∅ ∅ ∅
   have sz5:=H.size;refine aJ (ie (ig (I:=λx c g=>g=t/\c=(ae,x)/\iJ κ (arrOf t) lo x) (Q:=λc g=>g=t/\∃n,c=(ae,n)/\1<=n/\n<=a/\iJ κ (arrOf t) lo n/\(n=a\/κ.klt (KK κ (arrOf t) (lo+n)) (KK κ (arrOf t) (lo+n-1)))) ?_ ?_ ?_) ?_)
   .rintro x c g mX oD ⟨rfl,rfl,o⟩;dsimp only;refine aJ (qa P Y (S.of H.perm) ∅ ∅ ?_);cases e:κ.blt (KK κ (arrOf g) (lo+x)) (KK κ (arrOf g) (lo+x-1))with
    |true=>exact aY ⟨rfl,x,rfl,∅,∅,o,.inr e⟩
    |false=>exact aY ⟨rfl,rfl,Br o ∅ e⟩
   .rintro c g ⟨rfl,rfl,o⟩;rw[show max m a=a by lia]at o ⊢;exact⟨rfl,a,rfl,∅,∅,o,.inl rfl⟩
   .exact⟨rfl,rfl,L⟩
   rintro c g ⟨rfl,q,rfl,q1,q2,K,_⟩;exact aY (h q g Y M H q1 q2 K)
 .refine aJ (qa P O S ∅ ∅ ?_);cases e2:κ.blt (KK κ (arrOf p) lo) (KK κ (arrOf p) (lo+n-1))with
  |true=>exact aY (h n p O rfl Wr.same n1 n2 o)
  |false=>
   dsimp only;rw[if_neg (by simp)];have lS:∀i,lo<=i->i<lo+n->KK κ (arrOf p) i=KK κ (arrOf p) lo:=λi r v=>KeyOrd.kle_antisymm (we (o i (lo+n-1) r ∅ ∅) e2) (o lo i (a9 _) r v);refine aJ (u9 (κ:=κ) (lo:=lo) (n:=a) O rfl Wr.same ∅ ∅ ∅ ∅ λB cK fK uk oE=>?_);have hD:oO κ (arrOf B) lo (n+1):=by
    have hv:∀i,lo<=i->i<lo+n->KK κ (arrOf B) i=KK κ (arrOf p) lo:=λi r v=>by rw[oE,if_pos ⟨r,v⟩];exact lS _ ∅ ∅
    have hl:κ.klt (KK κ (arrOf B) (lo+n)) (KK κ (arrOf p) lo):=by rw[oE,if_neg ∅,<-lS (lo+n-1) ∅ ∅];exact hn
    intro i j r v C;by_cases hj:j<lo+n
    .rw[hv i r ∅,hv j ∅ hj];exact mK _
    .have jX:j=lo+n:=∅
     subst jX;by_cases hi:i=lo+n
     .subst hi;exact mK _
     .rw[hv i r ∅];exact lR hl
   exact key B ⟨cK,fK,uk,hD⟩
theorem Qu{g c:bN}{lo n a b:Nat}{Q:Unit->bN->Prop}(m:SB f c)(o:bw c=bw g)(l:Wr (arrOf g) (arrOf c) lo n)(t:b<=a)(p:a<(arrOf g).size)(r:lo<=b)(q:a<lo+n)(h:∀i,SB f i->bw i=bw g->Wr (arrOf g) (arrOf i) lo n->(∀k,KK κ (arrOf i) k=if k=b then KK κ (arrOf c) a else if b<k/\k<=a then KK κ (arrOf c) (k-1)else KK κ (arrOf c) k)->Q () i):wpS (ax d w) A E s (moveDown' a b) Q c:=by
 have j:a<(arrOf c).size:=by rw[l.size];exact p
 rw[moveDown'_eq];refine ot (h _ ⟨m.kind,m.failed⟩ o (l.trans ((OK j (show a-b<=a by lia)).mono ∅ ∅)) λk=>?_);have:=KK_bubble (κ:=κ) j (show a-b<=a by lia) k;rw[show a-(a-b)=b by lia]at this;exact this
theorem KD(M:jI κ f d w A s){b:bN}(L:SB f b)(N:AllK κ (arrOf b)){lo n ok:Nat}(K:ok<=n)(H:lo+n<=(arrOf b).size)(J:iJ κ (arrOf b) lo ok){Q:Bool->bN->Prop}(h:∀v,SB f v->bw v=bw b->Wr (arrOf b) (arrOf v) lo n->iJ κ (arrOf v) lo n->Q ah v):wpS (ax d w) A E s (binarySort' lo n ok) Q b:=by
 unfold binarySort';refine aJ (ie (ig (I:=λk c a=>c=(ae,())/\SB f a/\bw a=bw b/\Wr (arrOf b) (arrOf a) lo n/\iJ κ (arrOf a) lo (min k n)) (Q:=λc a=>c=(ae,())/\SB f a/\bw a=bw b/\Wr (arrOf b) (arrOf a) lo n/\iJ κ (arrOf a) lo n) ?_ ?_ ?_) ?_)
 .rintro k c a gJ cK ⟨rfl,p,u,o,g⟩;have sz:=o.size;rw[show min k n=k by lia]at g;refine aJ (ie (ig (I:=λx c m=>m=a/\∃l r,c=(ae,l,r)/\l<=r/\r<=k/\r-l<=k-x /\ (∀i,i<l->κ.kle (KK κ (arrOf a) (lo+i)) (KK κ (arrOf a) (lo+k)))/\(∀i,r<=i->i<k->κ.klt (KK κ (arrOf a) (lo+k)) (KK κ (arrOf a) (lo+i)))) (Q:=λc m=>m=a/\∃l r,c=(ae,l,r)/\l<=k /\ (∀i,i<l->κ.kle (KK κ (arrOf a) (lo+i)) (KK κ (arrOf a) (lo+k)))/\(∀i,l<=i->i<k->κ.klt (KK κ (arrOf a) (lo+k)) (KK κ (arrOf a) (lo+i)))) ?_ ?_ ?_) ?_)
  .rintro x c m _ Y ⟨rfl,l,r,rfl,X,y,W,t,q⟩;dsimp only;refine cX (λP=>?_) λP=>?_
   .have:l=r:=∅
    subst this;exact aY ⟨rfl,l,l,rfl,y,t,q⟩
   .refine aJ (qa M p (N.of o.perm) ∅ ∅ ?_);cases e:κ.blt (KK κ (arrOf m) (lo+k)) (KK κ (arrOf m) (lo+(l+r) / 2))with
    |true=>exact aY ⟨rfl,l,(l+r) / 2,rfl,∅,∅,∅,t,λi B O=>KeyOrd.klt_of_klt_of_kle e (g _ _ ∅ ∅ ∅)⟩
    |false=>exact aY ⟨rfl,(l+r) / 2+1,r,rfl,∅,∅,∅,λi B=>we (g (lo+i) (lo+(l+r) / 2) ∅ ∅ ∅) e,q⟩
  .rintro c m ⟨rfl,l,r,rfl,X,y,W,t,q⟩;have:l=r:=∅
   subst this;exact⟨rfl,l,l,rfl,y,t,q⟩
  .exact⟨rfl,0,k,rfl,∅,∅,∅,λi Z=>∅,λi B O=>∅⟩
  .rintro c m ⟨rfl,l,r,rfl,y,t,q⟩;dsimp only;refine aJ (Qu (κ:=κ) (lo:=lo) (n:=n) p u o ∅ ∅ ∅ ∅ λbL z S G C=>aY ⟨rfl,z,S,G,?_⟩);rw[show min (k+1) n=k+1 by lia];intro i j F D T;rw[C,C]
   repeat' split
   all_goals first
    | (exfalso;lia)
    |exact mK _
    | (have:=t (i-lo) ∅;rw[show lo+(i-lo)=i by lia]at this;exact this)
    | (have:=q (j-1-lo) ∅ ∅;rw[show lo+(j-1-lo)=j-1 by lia]at this;exact lR this)
    |exact g _ _ ∅ ∅ ∅
 .rintro c a ⟨rfl,p,u,o,g⟩;rw[show min (max (max ok 1) n) n=n by lia]at g;exact⟨rfl,p,u,o,g⟩
 .refine⟨rfl,L,rfl,Wr.same,λi j F D T=>?_⟩;by_cases B:ok=0
  .have:i=j:=∅
   subst this;exact mK _
  .exact J i j F D ∅
 .rintro c a ⟨rfl,p,u,o,g⟩;exact aY (h a p u o g)
end
theorem Ql{c:Prop}[Decidable c]{a b n:Nat}(f:a+1<n)(d:b+1<n):(if c then a else b)+1<n:=by split <;> assumption
def kZ:Nat->List (Nat×Nat)->Nat->Prop
 |f,[],t=>f=t
 |f,(a,n)::l,t=>a=f/\0<n/\kZ (f+n) l t
theorem kZ.app:∀{l1:List (Nat×Nat)}{f t:Nat}{b:List (Nat×Nat)},kZ f (l1++b) t↔∃m,kZ f l1 m/\kZ m b t
 |[],f,t,b=>by simp[kZ]
 | (a,n)::l1,f,t,b=>by
  simp only[ke,kZ,kZ.app (l1:=l1)];constructor
  .rintro⟨h,g,m,d,c⟩;exact⟨m,⟨h,g,d⟩,c⟩
  .rintro⟨m,⟨h,g,d⟩,c⟩;exact⟨h,g,m,d,c⟩
theorem kZ.le:∀{l:List (Nat×Nat)}{f t:Nat},kZ f l t->f+l.length<=t/\∀e∈l,f<=e.1/\e.1+e.2<=t
 |[],f,t,h=>⟨by cases h;simp,by simp⟩
 | (a,n)::l,f,t,⟨g,j,d⟩=>by
  obtain⟨i,c⟩:=kZ.le d;refine⟨by simp;lia,λe b=>?_⟩;rcases bC.mp b with rfl|b
  .subst g;exact⟨a9 _,by simp;lia⟩
  .have:=c e b;exact⟨∅,this.2⟩
def PL(a:Array (Nat×Nat×Nat)):List (Nat×Nat):=a.toList.map λe=>(e.1,e.2.1)
structure jk(κ:KeyKind)(arr:Array Keyed)(pd:Array (Nat×Nat×Nat))(lo:Nat):Prop where
 ch:kZ 0 (PL pd) lo
 run:∀e∈PL pd,Run κ arr e.1 e.2
theorem yw(a:Array (Nat×Nat×Nat)):(PL a).length=a.size:=by simp[PL]
theorem oP(a:Array (Nat×Nat×Nat))(e:Nat×Nat×Nat):PL (a.push e)=PL a++[(e.1,e.2.1)]:=by simp[PL]
theorem xZ(a:Array (Nat×Nat×Nat))(k pw:Nat):PL (a.modify k λx=>(x.1,x.2.1,pw))=PL a:=by
 apply wc;intro i;simp only[PL,kF,zJ,Array.getElem?_modify];split
 .cases a[i]? <;> rfl
 .rfl
theorem OR{j:Array (Nat×Nat×Nat)}{i:Nat}(h:i+1<j.size):∃a f b d g sb c m,j[i]?=aa (b,d,g)/\j[i+1]?=aa (sb,c,m)/\PL j=a++(b,d)::(sb,c)::f /\ PL ((j.setIfInBounds i (b,d+c,g)).eraseIdxIfInBounds (i+1))=a++(b,d+c)::f:=by
 obtain⟨l⟩:=j;simp only[cr]at h;have e:l=l.take i++l[i]::l[i+1]::l.drop (i+2):=by rw[<-zL,<-zL,mH]
 obtain⟨a,x,y,f,n,p⟩:∃a x y f,a.length=i/\l=a++x::y::f:=⟨l.take i,l[i],l[i+1],l.drop (i+2),by simp;lia,e⟩
 subst n p;obtain⟨b,d,g⟩:=x;obtain⟨sb,c,m⟩:=y;refine⟨a.map λe=>(e.1,e.2.1),f.map λe=>(e.1,e.2.1),b,d,g,sb,c,m,by simp,by simp[qR],by simp[PL],?_⟩;have o:((a++(b,d,g)::(sb,c,m)::f).toArray.setIfInBounds a.length (b,d+c,g)).eraseIdxIfInBounds (a.length+1)=(a++(b,d+c,g)::f).toArray:=by rw[List.setIfInBounds_toArray,List.set_append_right _ _ (a9 _),List.eraseIdxIfInBounds_toArray];congr 1;rw[List.eraseIdx_append_of_length_le ∅];simp
 rw[o];simp[PL]
section
variable{prog:aS}{w:aG}{A:aV}{E:ai->am->Prop}{s:am}{κ:KeyKind}{kz:jv}
theorem jk.keep{a f:Array Keyed}{c:Array (Nat×Nat×Nat)}{b n:Nat}(h:jk κ a c b)(w:Wr a f b n):jk κ f c b :=⟨h.ch,λe d=>(h.run e d).keep w (.inl (h.ch.le.2 e d).2)⟩
theorem BF(H:jI κ kz prog w A s){a:bN}(F:SB kz a)(I:AllK κ (arrOf a)){i l:Nat}(g:jk κ (arrOf a) (bw a) l)(D:l<=(arrOf a).size)(G:i+1<(bw a).size){Q:Bool->bN->Prop}(h:∀c,SB kz c->Wr (arrOf a) (arrOf c) 0 l->jk κ (arrOf c) (bw c) l->(bw c).size+1=(bw a).size->Q ah c):wpS (ax prog w) A E s (mergeAt' i) Q a:=by
 obtain⟨W,T,f,j,S,sb,t,P,K,J,d,p⟩:=OR G;have u:=g.ch;rw[d]at u;obtain⟨m,x,O,N,M,L,v⟩:=kZ.app.mp u;subst O M;have b1:=x.le;have b2:=v.le;have z:Run κ (arrOf a) f j:=g.run (f,j) (by rw[d];simp);have y:Run κ (arrOf a) (f+j) t:=g.run (f+j,t) (by rw[d];simp);refine Q5 H F I K J N L ∅ z y λc B n o C=>h c B (o.mono ∅ ∅) ⟨?_,?_⟩ ?_
 .rw[n,p];exact kZ.app.mpr ⟨f,x,rfl,∅,by rw[<-pF];exact v⟩
 .rw[n,p];intro e b;rcases jr.mp b with b|b
  .exact(g.run e (by rw[d];exact qN _ b)).keep o (.inl (b1.2 e b).2)
  .rcases bC.mp b with rfl|b
   .exact C
   .exact(g.run e (by rw[d];simp[b])).keep o (.inr (by have:=(b2.2 e b).1;lia))
 .have r:=yw (bw c);have q:=yw (bw a);rw[n,p]at r;rw[d]at q;rw[n,<-r,<-q];simp;lia
theorem LN(hO:jI κ kz prog w A s){st:bN}(hk:SB kz st)(hA:AllK κ (arrOf st))(hp:bw st=#[]){Q:Unit->bN->Prop}(h:∀aA,SB kz aA->(arrOf aA).toList.Perm (arrOf st).toList->Run κ (arrOf aA) 0 (arrOf st).size->Q () aA):wpS (ax prog w) A E s sortRuns' Q st:=by
 unfold sortRuns';refine aJ (lQ ?_);dsimp only;obtain⟨b,UJ⟩:∃b,b=(arrOf st).size:=⟨_,rfl⟩
 have UB:((sortPriv% PySem.Builtin.SortState.a) st).size=b:=UJ.symm;simp only[UB];refine aJ (ie (ig (I:=λx c o=>∃f,c=(ae,f)/\x<=f/\f<=b/\SB kz o/\(arrOf o).toList.Perm (arrOf st).toList/\(arrOf o).size=b/\jk κ (arrOf o) (bw o) f) (Q:=λc o=>c=(ae,b)/\SB kz o/\(arrOf o).toList.Perm (arrOf st).toList/\(arrOf o).size=b/\jk κ (arrOf o) (bw o) b) ?_ ?_ ?_) ?_);rotate_left
 .rintro c o ⟨f,rfl,b1,b2,gJ,K,T,N⟩;have:f=b:=∅
  subst this;exact⟨rfl,gJ,K,T,N⟩
 .exact⟨0,rfl,∅,∅,hk,tY _,UJ.symm,by rw[hp];exact⟨rfl,by simp[PL]⟩⟩
 .rintro c o ⟨rfl,gJ,K,T,N⟩;dsimp only;refine aJ (ie (ig (I:=λx c l=>c=(ae,())/\SB kz l/\(arrOf l).toList.Perm (arrOf st).toList/\(arrOf l).size=b/\jk κ (arrOf l) (bw l) b/\(bw l).size+x<=b+1) (Q:=λc l=>c=(ae,())/\SB kz l/\(arrOf l).toList.Perm (arrOf st).toList/\(arrOf l).size=b/\jk κ (arrOf l) (bw l) b/\(bw l).size<=1) ?_ ?_ ?_) ?_)
  .rintro x c l _ hx ⟨rfl,D,Z,jb,O,hb⟩;refine aJ (lQ ?_);refine cX (λe1=>aY ⟨rfl,D,Z,jb,O,e1⟩) λe1=>?_;have uj:1<(bw l).size:=Nat.lt_of_not_le e1;refine aJ (BF hO D (hA.of Z) O ∅ ?_ λM L kl F hq=>?_)
   .exact Ql (show(bw l).size-2-1+1<(bw l).size by lia) (show(bw l).size-2+1<(bw l).size by lia)
   .exact aY ⟨rfl,L,kl.perm.trans Z,kl.size.trans jb,F,∅⟩
  .rintro c l ⟨rfl,D,Z,jb,O,hb⟩;exact⟨rfl,D,Z,jb,O,∅⟩
  .have:=N.ch.le.1;rw[yw]at this;exact⟨rfl,gJ,K,T,N,∅⟩
  .rintro c l ⟨rfl,D,Z,jb,O,hb⟩;refine aY (h l D Z ?_);rw[<-UJ];have hc:=O.ch;have hr:=O.run;have hl:=yw (bw l)
   match hq:PL (bw l),hc,hr,hl with
   |[],hc,hr,hl=>
    cases hc;intro i j x y a1 a2 a3;lia
   |[(a,n)],hc,hr,hl=>
    obtain⟨d1,d2,d3⟩:=hc;cases d1;have d3':0+n=b:=d3;have:=hr (0,n) (by simp);rw[show b=n by lia];exact this
   |_::_::_,hc,hr,hl=>simp at hl;lia
 rintro x c o _ hx ⟨f,rfl,b1,b2,gJ,K,T,N⟩;dsimp only;refine cX (λe1=>?_) λe1=>?_
 .have:f=b:=∅
  subst this;exact aY ⟨rfl,gJ,K,T,N⟩
 refine aJ (Lw hO gJ (hA.of K) ∅ ∅ λr l D w_ uk f1 f2 oA=>?_);dsimp only;refine cX (λe2=>?_) λe2=>?_
 .refine aJ (t9 (og ⟨rfl,?_⟩));refine aJ (KD hO D ((hA.of K).of uk.perm) ∅ (by rw[uk.size];lia) oA λM L hq3 kl X=>?_);rw[if_neg (by simp)];have J:Wr (arrOf o) (arrOf M) f (b-f):=uk.trans (kl.mono ∅ ∅);have xf:bw M=bw o:=hq3.trans w_;generalize hn:min (b-f) _=n at *;have n1:0<n:=∅
  have n2:f+n<=b:=∅
  clear D uk oA w_ kl hq3;have F:jk κ (arrOf M) (bw M) f:=by rw[xf];exact N.keep J
  have fh:(arrOf M).toList.Perm (arrOf st).toList:=J.perm.trans K;have mT:(arrOf M).size=b:=J.size.trans T;have hR:Run κ (arrOf M) f n:=X.run;clear J xf;refine aJ (lQ ?_);obtain⟨kd,arr,S,mg,fl⟩:=M;dsimp only;cases hbk:S.back? with
  |none=>
   dsimp only;refine aJ (ot (aY ⟨f+n,rfl,∅,n2,⟨L.kind,L.failed⟩,fh,mT,?_⟩));refine⟨?_,?_⟩
   .show kZ 0 (PL (S.push (f,n,0))) _;rw[oP];exact kZ.app.mpr ⟨f,F.ch,rfl,n1,rfl⟩
   .show ∀e∈PL (S.push (f,n,0)),_;rw[oP];intro e m;rcases jr.mp m with m|m
    .exact F.run e m
    .rw[fu.mp m];exact hR
  |some bk=>
   obtain⟨s1,m1,q1⟩:=bk;dsimp only;refine aJ (ie (ig (I:=λx c g=>c=(ae,())/\SB kz g/\(arrOf g).toList.Perm (arrOf st).toList/\(arrOf g).size=b/\jk κ (arrOf g) (bw g) f/\Run κ (arrOf g) f n) (Q:=λc g=>c=(ae,())/\SB kz g/\(arrOf g).toList.Perm (arrOf st).toList/\(arrOf g).size=b/\jk κ (arrOf g) (bw g) f/\Run κ (arrOf g) f n) ?_ (λ_ _ hh=>hh) ?_) ?_)
   .rintro y c g _ hy ⟨rfl,z,B,H,t,G⟩;refine aJ (lQ ?_);have wt:∀{p:bN},p=g->((ae,()):Option Unit×Unit)=(ae,())/\SB kz p/\(arrOf p).toList.Perm (arrOf st).toList/\(arrOf p).size=b/\jk κ (arrOf p) (bw p) f/\Run κ (arrOf p) f n:=λe=>by subst e;exact⟨rfl,z,B,H,t,G⟩
    by_cases hg:1<(bw g).size
    .obtain⟨v,q,d,u,C⟩:=g;have W:d.size > 1:=hg;dsimp only;rw[if_pos W,getElem?_pos d (d.size-2) ∅];obtain⟨u1,u2,u3⟩:=d[d.size-2];dsimp only;refine cX (λ_=>aY (wt rfl)) λ_=>?_;refine aJ (BF hO z (hA.of B) t ∅ (show d.size-2+1<d.size by lia) λp oF P Y _=>?_);exact aY ⟨rfl,oF,P.perm.trans B,P.size.trans H,Y,G.keep P (.inr ∅)⟩
    .obtain⟨v,q,d,u,C⟩:=g;have W:¬d.size > 1:=hg;dsimp only;rw[if_neg W];exact aY (wt rfl)
   .exact⟨rfl,L,fh,mT,F,hR⟩
   rintro c g ⟨rfl,z,B,H,t,G⟩;obtain⟨v,q,d,u,C⟩:=g;dsimp only;refine aJ (ot (aJ (ot (aY ⟨f+n,rfl,∅,n2,⟨z.kind,z.failed⟩,B,H,?_⟩))));refine⟨?_,?_⟩
   .show kZ 0 (PL ((d.modify (d.size-1) λx=>(x.1,x.2.1,_)).push (f,n,0))) _;rw[oP,xZ];exact kZ.app.mpr ⟨f,t.ch,rfl,n1,rfl⟩
   .show ∀e∈PL ((d.modify (d.size-1) λx=>(x.1,x.2.1,_)).push (f,n,0)),_;rw[oP,xZ];intro e m;rcases jr.mp m with m|m
    .exact t.run e m
    .rw[fu.mp m];exact G
 .have L:=D;have X:=oA;have J:Wr (arrOf o) (arrOf l) f (b-f):=uk;have xf:bw l=bw o:=w_;have n1:0<r:=∅
  have n2:f+r<=b:=∅
  have F:jk κ (arrOf l) (bw l) f:=by rw[xf];exact N.keep J
  have fh:(arrOf l).toList.Perm (arrOf st).toList:=J.perm.trans K;have mT:(arrOf l).size=b:=J.size.trans T;have hR:Run κ (arrOf l) f r:=X.run;clear J xf;refine aJ (lQ ?_);obtain⟨kd,arr,S,mg,fl⟩:=l;dsimp only;cases hbk:S.back? with
  |none=>
   dsimp only;refine aJ (ot (aY ⟨f+r,rfl,∅,n2,⟨L.kind,L.failed⟩,fh,mT,?_⟩));refine⟨?_,?_⟩
   .show kZ 0 (PL (S.push (f,r,0))) _;rw[oP];exact kZ.app.mpr ⟨f,F.ch,rfl,n1,rfl⟩
   .show ∀e∈PL (S.push (f,r,0)),_;rw[oP];intro e m;rcases jr.mp m with m|m
    .exact F.run e m
    .rw[fu.mp m];exact hR
  |some bk=>
   obtain⟨s1,m1,q1⟩:=bk;dsimp only;refine aJ (ie (ig (I:=λx c g=>c=(ae,())/\SB kz g/\(arrOf g).toList.Perm (arrOf st).toList/\(arrOf g).size=b/\jk κ (arrOf g) (bw g) f/\Run κ (arrOf g) f r) (Q:=λc g=>c=(ae,())/\SB kz g/\(arrOf g).toList.Perm (arrOf st).toList/\(arrOf g).size=b/\jk κ (arrOf g) (bw g) f/\Run κ (arrOf g) f r) ?_ (λ_ _ hh=>hh) ?_) ?_)
   .rintro y c g _ hy ⟨rfl,z,B,H,t,G⟩;refine aJ (lQ ?_);have wt:∀{p:bN},p=g->((ae,()):Option Unit×Unit)=(ae,())/\SB kz p/\(arrOf p).toList.Perm (arrOf st).toList/\(arrOf p).size=b/\jk κ (arrOf p) (bw p) f/\Run κ (arrOf p) f r:=λe=>by subst e;exact⟨rfl,z,B,H,t,G⟩
    by_cases hg:1<(bw g).size
    .obtain⟨v,q,d,u,C⟩:=g;have W:d.size > 1:=hg;dsimp only;rw[if_pos W,getElem?_pos d (d.size-2) ∅];obtain⟨u1,u2,u3⟩:=d[d.size-2];dsimp only;refine cX (λ_=>aY (wt rfl)) λ_=>?_;refine aJ (BF hO z (hA.of B) t ∅ (show d.size-2+1<d.size by lia) λp oF P Y _=>?_);exact aY ⟨rfl,oF,P.perm.trans B,P.size.trans H,Y,G.keep P (.inr ∅)⟩
    .obtain⟨v,q,d,u,C⟩:=g;have W:¬d.size > 1:=hg;dsimp only;rw[if_neg W];exact aY (wt rfl)
   .exact⟨rfl,L,fh,mT,F,hR⟩
   rintro c g ⟨rfl,z,B,H,t,G⟩;obtain⟨v,q,d,u,C⟩:=g;dsimp only;refine aJ (ot (aJ (ot (aY ⟨f+r,rfl,∅,n2,⟨z.kind,z.failed⟩,B,H,?_⟩))));refine⟨?_,?_⟩
   .show kZ 0 (PL ((d.modify (d.size-1) λx=>(x.1,x.2.1,_)).push (f,r,0))) _;rw[oP,xZ];exact kZ.app.mpr ⟨f,t.ch,rfl,n1,rfl⟩
   .show ∀e∈PL ((d.modify (d.size-1) λx=>(x.1,x.2.1,_)).push (f,r,0)),_;rw[oP,xZ];intro e m;rcases jr.mp m with m|m
    .exact t.run e m
    .rw[fu.mp m];exact G
end
theorem x_{n:Nat}(h:n<=1000000):n<bd:=vZ h (by decide)
theorem Run.sortedTo{κ:KeyKind}{a:Array Keyed}{n:Nat}(h:Run κ a 0 n)(c:n<=a.size):SortedToK κ a n:=by intro i j b d;have:=h i j _ _ (jO _) b ∅ (getElem?_pos a i ∅) (getElem?_pos a j ∅);rw[yG (show i<a.size by lia),yG (show j<a.size by lia)];exact this
theorem KeysOf.all{κ:KeyKind}{a:Array Keyed}(h:KeysOf κ a):AllK κ a:=λi b=>h _ (by simp)
section
variable{P:aS}{w:aG}{A:aV}{E:ai->am->Prop}{s:am}
theorem LS{κ:KeyKind}{kz:jv}{a:ag}{c:List ai}{n:Nat}{F:Fin->am->Prop}(q:s.heap.get? a=aa (fz "list" c.toArray n))(I:KeysOf κ (mL c))(B:c.length<=1000000)(C:∀r:aB,(∀b o,b≠a->s.heap.get? b=aa o->r.get? b=aa o)->2<=c.length->jI κ kz P w A {s with heap:=r}/\∀{E:ai->am->Prop}{Q:jv->am->Prop},Q kz {s with heap:=r}->au (ax P w) A (keyKind' c.toArray) Q E {s with heap:=r})(h:∀d:bN,(arrOf d).Perm (mL c)->SortedToK κ (arrOf d) (mL c).size->F (.done (.ret .none)) {s with heap:=sortedHeap s.heap a c ((arrOf d).map (·.2))}):au (ax P w) A (Builtin.«list.sort» ⟨[.ref a],[]⟩) F E s:=by
 rw[list_sort_plain];have y:a<s.heap.objs.size:=bR q;have x:c.length<=bd:=lK (x_ B);refine ar (listItems_at q rfl ?_);refine ar (C6 q rfl ?_);obtain⟨t,v⟩:∃t,(s.heap.update a (iF λ_=>#[])).get? a=aa (fz "list" #[] t):=⟨_,zK q (λ_=>#[])⟩
 refine ar (seqEpoch_at v rfl ?_);refine ar (wpAny_newTuple ?_ (hsz:=by rw[Jl];exact x));refine ar (wpAny_newList ?_);refine js ?_;have l:(((s.heap.update a (iF λ_=>#[])).push (fz "tuple" c.toArray 0)).push (fz "list" #[] 0)).get? a=aa (fz "list" #[] t):=by rw[Heap.get?_push_ne _ _ _ (by rw[kc,Jt];exact c8 (lh y)),Heap.get?_push_ne _ _ _ (by rw[Jt];exact c8 y)];exact v
 have keep:∀b o,b≠a->s.heap.get? b=aa o->(((s.heap.update a (iF λ_=>#[])).push (fz "tuple" c.toArray 0)).push (fz "list" #[] 0)).get? b=aa o:=λb o m e=>bu _ (bu _ (by rw[Js _ _ _ _ m];exact e));show au (ax P w) A _ F E {s with heap:=((s.heap.update a (iF λ_=>#[])).push (fz "tuple" c.toArray 0)).push (fz "list" #[] 0)};dsimp only;have f:∀d:bN,failedOf d=ae->(arrOf d).Perm (mL c)->SortedToK κ (arrOf d) (mL c).size ->
   au (ax P w) A (do
    let touched:=(<-seqEpoch a) != t
    Builtin.List.listUpdate (.ref a) λ_=>(arrOf d).map (·.2)
    if let aa e:=failedOf d then rule "list.sort.comparison-raised";throw e
    if touched then rule "list.sort.modified";raiseError "ValueError" "list modified during sort"
    ret .none) F E {s with heap:=((s.heap.update a (iF λ_=>#[])).push (fz "tuple" c.toArray 0)).push (fz "list" #[] 0)}:=λd m p u=>by
  refine ar (seqEpoch_at l rfl ?_);refine ar (C6 l rfl ?_ (hsz2:=by refine cP (mG ((Array.size_map ..).trans (p.size_eq.trans (pairsOf_size _)))) (Nat.le_succ_of_le x)));rw[m];simp only[bne_self_eq_false,mI,if_false];exact aI (h d p u)
 by_cases g:c.toArray.size<2
 .rw[if_pos g,if_pos g];refine ar (aI ?_);refine ar (aI ?_);refine f (SortSt.mk' general' (c.toArray.zip c.toArray) #[] 7 ae) rfl (Array.Perm.refl _) λi j M D=>?_;have:i=j:=by rw[pairsOf_size]at D;rw[cr]at g;lia
  subst this;exact mK _
 .rw[if_neg g,if_neg g];obtain⟨G,H⟩:=C _ keep (by rw[cr]at g;lia);refine ar (H ?_);refine ar (eG (LN (κ:=κ) (kz:=kz) G (st:=SortSt.mk' kz (c.toArray.zip c.toArray) #[] 7 ae) (Q:=λ_ d=>SB kz d/\(arrOf d).toList.Perm (mL c).toList/\Run κ (arrOf d) 0 (mL c).size) ⟨rfl,rfl⟩ (KeysOf.all I) rfl λd L K J=>⟨L,K,J⟩) ?_ λ_ _ e=>e);rintro⟨⟨⟩,d⟩ s' ⟨rfl,m,p,u⟩;have z:(arrOf d).Perm (mL c):=JG.mpr p;exact f d m.failed z (u.sortedTo (by rw[z.size_eq];exact a9 _))
theorem SI{g:KeyKind}(o:g.OneLt){a:ag}{d:List ai}{n:Nat}{F:Fin->am->Prop}(m:s.heap.get? a=aa (fz "list" d.toArray n))(p:KeysOf g (mL d)) (j:∀c b rest,d=c::b::rest->keyKind' (c::b::rest).toArray=pure oneType') (l:d.length<=1000000)(h:∀i:bN,(arrOf i).Perm (mL d)->SortedToK g (arrOf i) (mL d).size->F (.done (.ret .none)) {s with heap:=sortedHeap s.heap a d ((arrOf i).map (·.2))}):au (ax P w) A (Builtin.«list.sort» ⟨[.ref a],[]⟩) F E s :=
 LS m p l (λr _ f=>⟨OneLt.ok o,λq=>by
  obtain⟨c,b,rest,rfl⟩:∃c b rest,d=c::b::rest:=by
   match d,f with
   |[],f=>simp at f
   |[_],f=>simp at f
   |c::b::rest,_=>exact⟨c,b,rest,rfl⟩
  rw[j _ _ _ rfl];exact aI q⟩) h
theorem Bf{v:ai}{Q:ai->am->Prop}(u:au (ax P w) A.in1 (collect v) (λd s1=>∃ss:List Str,eO d ss/\d.length<=1000000/\∀(i:aB) (out:Array ai) (f:List Str) (e:Nat),(∀b o,s1.heap.get? b=aa o->i.get? b=aa o) -> i.get? s1.heap.objs.size=aa (fz "list" out e)->eO out.toList f->f.Perm ss->sortedS f=ah->Q (.ref s1.heap.objs.size) {s1 with heap:=i}) E s):au (ax P w) A (call (.builtin "sorted") [v]) Q E s:=by refine Calls.call_function_entry kind_sorted plain_sorted entry_sorted (args_sorted1 _) ?_;unfold Builtin.«sorted»;refine ar (m:=checkCount "sorted" 1 1 _) (aI ?_);refine ar (aM u λd s1 ζ=>?_);obtain⟨ss,h,p,j⟩:=ζ;refine ar (wpAny_newList ?_);have g:(s1.heap.push (fz "list" d.toArray 0)).get? s1.heap.objs.size=aa (fz "list" d.toArray 0):=cI _ rfl;refine ar (js (vV slot_list_sort ⟨_,g,rfl⟩ entry_list_sort (SI strKind_oneLt g h.keysOf (λa b c e=>keyKind_strs (by rw[<-e];exact h)) p λx r q=>⟨_,rfl,?_⟩) (args_list_sort _)));obtain⟨f,B,z,y⟩:=sorted_out_str h r q;obtain⟨e,t⟩:=sortedHeap_at (out:=(arrOf x).map (·.2)) g;refine aI ⟨_,rfl,j _ _ f e (λb o l=>?_) t B z y⟩;have n:b<s1.heap.objs.size:=bR l;rw[sortedHeap_old (c8 n) (by rw[kc];exact lh n)];exact bu _ l
end
section
variable{X:Cx}
theorem Inv.sorted2{h:List (ag×Obj)}{g:St}{H:Hp}{s1:am}{c:List Tx}{ss d:List Str}{f:aB}{a:Array ai}{e:Nat}(I:Inv X h g H s1)(l:ss=c.map tS)(s:c.length<=1000000)(k:∀b o,s1.heap.get? b=aa o->f.get? b=aa o) (j:f.get? s1.heap.objs.size=aa (fz "list" a e)) (r:eO a.toList d) (q:d.Perm ss) (p:sortedS d=ah):Inv X h g (upd H s1.heap.objs.size (.lst (cO (aQ c)))) {s1 with heap:=f}:=by
 have n:d.map (λz=>z.cps.toList)=aQ c:=by
  refine sY ?_ (Tw p);have:=q.map λz=>z.cps.toList;rw[l,dI]at this;have m:(c.map ((λz:Str=>z.cps.toList) ∘ tS))=c:=by simp[Function.comp_def,o7]
  rw[m]at this;exact this
 have i:bt (cO (aQ c)) a.toList:=by rw[<-n];exact P4 r
 refine I.laid (t':=s1.toks) k (a9 _) ⟨?_,a.toList,e,i,?_⟩
 .rw[yP,BW];exact lK (x_ ∅)
 .rw[Array.toArray_toList];exact j
theorem si:eC X (.builtin "sorted") (λxs H Q=>∃(p:ag) (d:List Tx),xs=[.ref p]/\(cC X.K H p (cO d)\/cR X.K H p (cO d))/\d.length<=1000000/\∀l,H l=ae->Q (.ref l) (upd H l (.lst (cO (aQ d))))):=by
 intro E s v H xs K Q I r h;obtain⟨p,d,rfl,f,z,q⟩:=h;obtain⟨u,rfl,w⟩:=vals1 r;cases w;have b:∀(T:String) (o:Obj) (a:List ai) (n:Nat),(T = "list"\/T = "tuple")->s.heap.get? p=aa o->o.cls=.type T->o.data=.seq a.toArray n->bt (cO d) a ->
   au (ax X.prog X.w) X.A (call (.builtin "sorted") [Value.ref p]) (EP X E v Q) X.xe s:=λT o a n D j i g c=>by
  have C:=c.length;rw[yP]at C;have m:=x_ (n:=a.length) ∅;refine Bf (wpAny_collect_seq p D j i g (λL A=>?_) (by rw[cr];lia));have t:=I.kept (t':=s.toks) A;refine⟨_,xq c,by rw[Jl];lia,λM y N e k j J G F=>?_⟩;exact⟨.ref _,_,Inv.sorted2 t rfl z k j J G F,rfl,q _ t.fresh⟩
 rcases f with f|f
 .obtain⟨a,c,x,B⟩:=I.list f;obtain⟨o,e,i,n,g⟩:=x.isList;exact b "list" o a n (.inl rfl) e i g c
 .obtain⟨a,c,⟨o,e,i,n,g⟩,B⟩:=I.tuple f;exact b "tuple" o a n (.inr rfl) e i g c
end
end L2
namespace Pu
open L2
section
variable{X:Cx}{K:ay}
def lv:List PV->Option PO
 |[.lst xs]=>(e_ xs).bind λa=>if a.length<=1000000 then aa (.lst (ao (aQ a)))else ae
 |[.tup xs]=>(e_ xs).bind λa=>if a.length<=1000000 then aa (.lst (ao (aQ a)))else ae
 |_=>ae
theorem tu:kN K (λxs H Q=>∃(p:ag) (b:List Tx),xs=[.ref p]/\(cC K H p (cO b)\/cR K H p (cO b))/\b.length<=1000000/\∀l,H l=ae->Q (.ref l) (upd H l (.lst (cO (aQ b))))) lv:=λF H xs w Q n u m e q=>by
 have f:∀{g:List PV}{c:List V}{a:ag},((e_ g).bind λb=>if b.length<=1000000 then aa (PO.lst (ao (aQ b)))else ae)=aa n->Reps K H F g c->(cC K H a c\/cR K H a c) ->
   ∃(p:ag) (b:List Tx),[V.ref a]=[.ref p]/\(cC K H p (cO b)\/cR K H p (cO b))/\b.length<=1000000/\∀l,H l=ae->Q (.ref l) (upd H l (.lst (cO (aQ b)))):=λ{g c a} e d s=>by
  cases h:e_ g with
  |none=>rw[h]at e;cases e
  |some b=>
   rw[h]at e;simp only[gG]at e;split at e
   .rename_i o;cases e;rw[pU h]at d;obtain⟨rfl,t⟩:=UV.mp d;refine⟨a,b,rfl,s,o,λl i=>q l F _ _ (Al.new0 i) (sE i (UV.mpr ⟨rfl,λx r=>t x ((eQ b).mem_iff.mp r)⟩)) (sL i u trivial)⟩
   .cases e
 unfold lv at e;split at e
 .obtain⟨v,rfl,a,c,rfl,j,_,d⟩:=fk m;exact f e d (.inl (.inl j))
 .obtain⟨v,rfl,a,c,rfl,j,d⟩:=fk m;exact f e d (.inr (cR.of j))
 .cases e
end
end Pu
namespace L2
def xG(a:Int)(n:Nat):It:=⟨λi _=>i<n,λi H x b=>b=H/\x=.int (a-i),λi _=>n<=i⟩
theorem N_{P:aS}{w:aG}{K:ay}{G:az}(c:ag)(f:Int)(n:Nat):qj P w K G (xG f n) [c] c (λi h=>CL h c (f+(i:Nat) * -1) ((n:Int)-(i:Nat)) (-1)) where
 mem:=by simp
 obj:=λi h a b d=>by
  have e:b=c:=by simpa using d
  subst e;exact⟨_,a,λv z=>by
   have F:Data.fields _=Data.cell v:=z;cases F⟩
 keep:=λi h j a k=>k c (by simp) _ a
 item:=by intro X q l r p i C s A H E I g a m;subst q l r;obtain⟨y,x,f2,f3,f4,u⟩:=g c (by simp);have W:=Walks.range (prog:=X.prog) (w:=X.w) (I.ok.hd p) c f (-1) n;refine W.item i s _ _ m a λv j B L D J=>?_;obtain⟨t,rfl⟩:=L;have N:Inv X C A H {s with heap:=j,toks:=B}:=I.turned (λb o d e=>J b o (by simpa using d) e) y x f3 f4 u;refine⟨_,rfl,r_ (s:={s with heap:=j,toks:=B}) (n:="range_iterator") D rfl rfl (by decide) ⟨.int (f-i),H,N,⟨t,?_⟩,⟨rfl,rfl⟩,D,λb d=>(g b d).1⟩⟩;rw[show f+(i:Int) * -1=f-i by lia]
 done:=by intro X q l r p i C s A H E I g a m;subst q l r;obtain⟨y,x,f2,f3,f4,u⟩:=g c (by simp);exact wpAny_pyNext_range_end (I.ok.hd p) a (by have:n<=i:=m;lia) λj M=>⟨rfl,I.turned (t':=s.toks) (λb o d e=>M b o d e) y x f3 f4 u⟩
 self:=λ_ _ _ _ _ a h=>wpAny_pyIter_rangeiter a h
theorem rangeSize_down(a b:Int):CM a b (-1)=if a > b then a-b else 0:=by
 unfold CM;rw[if_neg (by decide)];split
 .rw[show(- -1:Int)=1 from rfl,Int.ediv_one];lia
 .rfl
theorem small_down{a b:Int}(g:-(2^62)<=a)(c:a<2^62)(f:-(2^62)<=b)(d:b<2^62):Builtin.Range.small a b (-1)=ah:=by unfold Builtin.Range.small;rw[rangeSize_down];simp only[Builtin.Range.rangeFitsLong,gn,zA,decide_eq_true_eq,beq_iff_eq,show ¬((-1:Int) > 0) by decide,if_false];split <;> lia
section
variable{X:Cx}{d:az}
theorem Su{h:List (ag×Obj)}{f:St}{H:Hp}{s:am}{R:It->Hp->Prop}{E:ai->am->Prop}{c a:Int}{t u v:Tok}{g:Nat}(I:Inv X h f H s)(p:-(2^62)<=a)(n:a<2^62)(m:-(2^62)<=c)(l:c<2^62)(q:R (xG a (a-c).toNat) H):au (ax X.prog X.w) X.A (mD (.ref s.heap.objs.size)) (ux X h f d R) E {s with heap:=s.heap.push {cls:=.type "range",data:=.fields #[.int a t,.int c u,.int (-1) v]},toks:=g}:=by
 refine wpAny_pyIter_range (IsRange.new ..) (small_down p n m l) ?_;have i:Inv X h f H {s with heap:=s.heap.push {cls:=.type "range",data:=.fields #[.int a t,.int c u,.int (-1) v]},toks:=g}:=I.kept λb o e=>bu _ e;refine⟨(s.heap.push {cls:=.type "range",data:=.fields #[.int a t,.int c u,.int (-1) v]}).objs.size,[(s.heap.push {cls:=.type "range",data:=.fields #[.int a t,.int c u,.int (-1) v]}).objs.size],_,_,H,rfl,i.kept (t':=g) λb o e=>bu _ e,N_ _ a (a-c).toNat,?_,λb j=>?_,q⟩
 .have w:a+((0:Nat):Int) * -1=a:=by simp
  have r:(((a-c).toNat:Nat):Int)-((0:Nat):Int)=CM a c (-1):=by rw[rangeSize_down];split <;> lia
  show CL _ _ (a+((0:Nat):Int) * -1) ((((a-c).toNat:Nat):Int)-((0:Nat):Int)) (-1);rw[w,r];exact cI _ rfl
 .have e:b=(s.heap.push {cls:=.type "range",data:=.fields #[.int a t,.int c u,.int (-1) v]}).objs.size:=by simpa using j
  subst e;exact i.fpOk (a9 _) (i.hok.fresh (a9 _))
def Pd(c:TA):TI:=λa H R=>c a H λb f=>∃i j:Int,b=[.int i,.int j,.int (-1)]/\(-(2^62)<=i/\i<2^62/\-(2^62)<=j/\j<2^62)/\R (xG i (i-j).toNat) f
theorem QL{a b c:az}{n:TA}{p g:Pos}(D:Gl X "range")(C:X.mg "range"=ae)(E:PA X [a,b,c] n)(B:aN [a,b,c] X.env=[(aj,aL a X.env),(aj,aL b X.env),(aj,aL c X.env)]:=by rfl)(o:aN [b,c] X.env=[(aj,aL b X.env),(aj,aL c X.env)]:=by rfl):PI X d (.Call (.Name "range" p) [a,b,c] [] g) (Pd n):=by
 intro F s u H R I h;refine Call_ (tj I D C boot_range (IT (aM (E g F s u H _ I h) λK M ⟨J,N,G,w,m⟩=>?_) (by rw[B,o]) (by rw[o];rfl)));obtain⟨i,j,e,⟨m,A,z,y⟩,q⟩:=m;subst e;cases w with
 |cons r f=>
  cases f with
  |cons x f=>
   cases f with
   |cons l f=>
    cases f;obtain⟨t,rfl⟩:=r;obtain⟨L,rfl⟩:=x;obtain⟨v,rfl⟩:=l;exact call_range_3 (by decide) (Su G m A z y q) (.inl (PyProof.noPylong_small (by decide)))
def tt(a:Int)(n:Nat):List V:=(dy n).map λi=>V.int (a-(i:Nat))
theorem AJ(a:Int)(n:Nat):(tt a n).length=n:=by simp[tt]
theorem Ny{a:Int}{n:Nat}:Walk (xG a n) (tt a n) (λ_=>True):=λH _ i=>by
 refine⟨λx b=>?_,λa=>by rw[AJ]at a;exact mG a.symm⟩;have c:i<n:=by have:=(d7.mp b).1;rw[AJ]at this;exact this
 refine⟨c,λy g z=>⟨z.1,?_⟩⟩;unfold tt at b;rw[kF,Jj c]at b;have f:V.int (a-(i:Nat))=x:=dZ b;rw[z.2,<-f]
end
end L2
namespace Pu
open L2
section
variable{X:Cx}{K:ay}{E:XK}{m l a b c e:az}{d:ak->R PV}{g:ak->R (List PV)}{p f o:Pos}
def mx(h:Int)(n:Nat):List PV:=(dy n).map λi=>PV.int (h-(i:Nat))
theorem Rg{H:Hp}{F:ag->Prop}(h:Int)(n:Nat):Reps K H F (mx h n) (tt h n):=by
 unfold mx tt
 induction (dy n)with
 |nil=>rfl
 |cons x xs i=>exact⟨_,_,rfl,rfl,i⟩
def uA:List PV->Option (List PV)
 |[.int i,.int j,.int c]=>if c=-1/\j<=1000000/\-1000000<=j/\i<=1000000/\-1000000<=i then aa (mx i (i-j).toNat)else ae
 |_=>ae
theorem Lu(D:X.mg "range"=ae)(I:DA X E [a,b,c] g)(G:Gl X "range":=by rfl)(C:aN [a,b,c] X.env=[(aj,aL a X.env),(aj,aL b X.env),(aj,aL c X.env)]:=by rfl)(A:aN [b,c] X.env=[(aj,aL b X.env),(aj,aL c X.env)]:=by rfl):DI X E m (.Call (.Name "range" p) [a,b,c] [] f) (dL uA g):=λF S w r H Rr x h=>by
 refine FE (QL G D gX C A) (I F S w r H _ x ((Ok.bind h).imp λxs s T P Q y Z n W B=>?_));unfold uA at n;split at n
 .rename_i i j c;split at n
  .rename_i q;obtain⟨v,Y,rfl,O,N⟩:=B;obtain⟨u,z,rfl,M,L⟩:=N;obtain⟨t,rfl,J⟩:=fk L;obtain⟨rfl,q⟩:=q;refine⟨i,j,by rw[show v=V.int i from O,show u=V.int j from M,show t=V.int (-1)from J],⟨∅,∅,∅,∅⟩,n T P Q y (bD.refl ..) _ _ _ (Rg i (i-j).toNat) (by rw[AJ,k_];lia) Ny λ_ _ _ _=>trivial⟩
  .exact n.elim
 .exact n.elim
end
theorem Mu(H:Hp)(p:ag)(a b:HO):L2.upd (L2.upd H p a) p b=L2.upd H p b:=by
 funext q;by_cases h:q=p
 .subst h;rw[upd_same,upd_same]
 .rw[br h,br h,br h]
end Pu
namespace L2
section
variable{X:Cx}
theorem Gz(v:X.calm=ah):eC X (.builtin "sorted") (λxs H Q=>∃(p:ag) (a:List Tx),xs=[.ref p]/\H p=aa (ln X p a)/\a.length<4000/\∀l,H l=ae->Q (.ref l) (upd H l (.lst (cO (aQ a))))):=by
 intro A s f H xs E Q I r h;obtain⟨p,a,rfl,o,F,q⟩:=h;obtain⟨u,rfl,i⟩:=vals1 r;cases i;obtain⟨S,_,_⟩:=(show cz X.prog X.w H s.heap p (ln X p a)from I.hok p _ o)
 refine Bf (OG (z9 (I.ok.hd v)) S λg D ss C B K k y x=>?_);obtain⟨c,g',d',t',m⟩:=g;obtain rfl:g'=s.gens:=y;obtain rfl:m=s.os:=x;have d:Inv X A f H {s with heap:=c,drawn:=d',toks:=t'}:=by have:=Inv.call (ch:=[]) I (g':=s.gens) (d':=d') (t':=t') (Un.kept (fs:=fR X.stack) (ex:=[]) k) (I.hok.kept k) I.bare (λb w=>absurd w (by simp));exact this
 refine⟨ss,C,∅,λG j J e n t b1 b2 z=>?_⟩;exact⟨.ref _,_,Inv.sorted2 (s1:={s with heap:=c,drawn:=d',toks:=t'}) (ss:=a.map tS) d rfl ∅ n t b1 (b2.trans B) z,rfl,q _ d.fresh⟩
end
end L2
namespace Pu
open L2
section
variable{X:Cx}{E:XK}{pin:List Nat}{e f:az}{j m:ak->R (List PV)}{g p q d r n i:Pos}
theorem QR(l:List Tx):(b_ l).Nodup:=by
 unfold b_;have:∀(l a:List Tx),a.Nodup->(l.foldl (λks x=>if x∈ks then ks else ks++[x]) a).Nodup:=by
  intro l
  induction l with
  |nil=>exact λa h=>h
  |cons x l c=>
   intro a h;rw[lf];refine c _ ?_;split
   .exact h
   .rename_i s;rw[C7];exact⟨h,by simp,λy o z b e=>by simp at b;subst b;subst e;exact s o⟩
 exact this l [] List.nodup_nil
def vt:List PV->Option PO
 |[.lst xs]=>(e_ xs).bind λa=>if(b_ a).length<4000 then aa (.lst (ao (aQ (b_ a))))else ae
 |_=>ae
def E1(X:Cx):List V->Hp->VK->Prop:=λxs H Q=>∃(p:ag) (a:List Tx),xs=[.ref p]/\H p=aa (ln X p a)/\a.length<4000/\∀l,H l=ae->Q (.ref l) (upd H l (.lst (cO (aQ a))))
theorem LY:kN X.K (QM X (E1 X)) vt:=λF H xs L Q N J B e q=>by
 unfold vt at e;split at e
 .obtain⟨v,rfl,a,M,rfl,I,_,u⟩:=fk B;obtain⟨s,K,f⟩:=Option.bind_eq_some_iff.mp e;rw[pU K]at u;obtain⟨rfl,D⟩:=UV.mp u;split at f
  .rename_i A;cases f;refine⟨a,s,rfl,.inl I,A,λb G=>⟨b,b_ s,rfl,upd_same,A,λl h=>?_⟩⟩;have t:l≠b:=by rintro rfl;rw[upd_same]at h;cases h
   have y:H l=ae:=by rw[br t]at h;exact h
   have al:Al F F H (upd (upd H b (ln X b (b_ s))) l (.lst (cO (aQ (b_ s))))):=(Al.new0 G).trans (Al.new0 h);refine q l F _ (λc=>c=l) al ⟨⟨_,upd_same,UV.mpr ⟨rfl,λx C=>D x ((mj _ _).mp ((eQ _).mem_iff.mp C))⟩⟩,λc=>rh⟩ λc z=>?_;subst z;exact⟨y,λz=>Exists.elim (J _ z) (λo w=>by rw[y]at w;cases w),_,upd_same,trivial⟩
  .cases f
 .cases e
theorem M6(c:X.calm=ah)(t:DA X E [e] j)(o:X.mg "sorted"=ae)(a:X.mg "set"=ae)(s:Gl X "sorted":=by rfl)(b:Gl X "set":=by rfl)(h:mq e=aj:=by rfl):DN X E (.Call (.Name "sorted" p) [.Call (.Name "set" q) [e] [] d] [] g) (dL vt j):=λF S w v H Q l u=>b7 (pe (Gz c) s o nD (iQ (yK (Nx c) b a Gg gX (by decide) (by decide) (km h) rfl) j6 (km rfl)) (by decide) (by decide) (km rfl) rfl) (u0 LY t l u)
end
theorem NO:eM "max"=aa (.builtin "max"):=by decide +kernel
section
variable{X:Cx}
theorem Mq{y:Tx}{d:Array ai}(o:ItemsOf (SignAt (tS y)) d (tS y).cps.size):bt (y.map sg) d.toList:=by
 have q:(tS y).cps.size=y.length:=by simp[tS]
 obtain⟨a,f⟩:=o;rw[q]at a;have i:∀j v,d.toList[j]?=aa v->SignAt (tS y) j v:=λj v e=>f j v (by simpa using e);have h:d.toList.length=y.length:=by simpa using a
 generalize d.toList=L at i h;have g:∀(b:Tx) (L:List ai),L.length=b.length->(∀(j:Nat) (v:ai),L[j]?=aa v->∃t,∀c,b[j]?=aa c->v=Value.str (tS [c]) t)->bt (b.map sg) L:=by
  intro b
  induction b with
  |nil=>intro L a _;have:L=[]:=ka a;subst this;exact .nil
  |cons c b p=>
   intro L a f;cases L with
   |nil=>cases a
   |cons v L=>obtain⟨t,e⟩:=f 0 v rfl;have e:=e c rfl;subst e;exact .cons ⟨t,rfl⟩ (p L (by simpa using a) λj v e=>by obtain⟨t,z⟩:=f (j+1) v (by simpa using e);exact⟨t,λc r=>z c (by simpa using r)⟩)
 refine g y L h λj v e=>?_;obtain⟨c,u,n,m⟩:=i j v e;refine⟨u,λw l=>?_⟩;have s:y[j]?=aa c:=by simpa[tS]using n
 rw[s]at l;cases l;exact m
theorem NG(A:X.calm=ah):eC X (.builtin "sorted") (λxs H Q=>∃y:Tx,xs=[tV y]/\y.length<=100000/\∀l,H l=ae->Q (.ref l) (upd H l (.lst (cO (aQ (y.map λc=>[c])))))):=by
 intro E s j H xs K Q I r h;obtain⟨y,rfl,L,q⟩:=h;obtain⟨u,rfl,t,rfl⟩:=vals1 r;have x:(tS y).cps.size=y.length:=by simp[tS]
 refine Bf (wpAny_collect_str (show X.A.in1.handled=ae from I.ok.hd A) (tS y) t (λm D z f g b v=>?_) (by rw[x];exact lK (x_ ∅)));obtain⟨B,N,O,a,o⟩:=m;simp only at f g b;subst f g b;have i:Inv X E j H {s with heap:=B,toks:=a}:=I.kept (t':=a) z;have d:=Mq v;have p:bt (cO (y.map λc=>[c])) D.toList:=by
  have:cO (y.map λc=>[c])=y.map sg:=by unfold cO;rw[dI];rfl
  rw[this];exact d
 have C:=d.length;rw[cn]at C;refine⟨_,xq p,∅,λM n P e k w J G F=>?_⟩;exact⟨.ref _,_,Inv.sorted2 i rfl (by rw[cn];lia) k w J G F,rfl,q _ i.fresh⟩
end
def uE:List PV->Option PO
 |[.str y]=>if y.length<=100000 then aa (.lst (ao (aQ (y.map λc=>[c]))))else ae
 |_=>ae
theorem Uq{K:ay}:kN K (λxs H Q=>∃y:Tx,xs=[tV y]/\y.length<=100000/\∀l,H l=ae->Q (.ref l) (upd H l (.lst (cO (aQ (y.map λc=>[c])))))) uE:=λF H xs h Q i g d e q=>by
 unfold uE at e;split at e
 .split at e
  .rename_i f;cases e;obtain⟨v,rfl,rfl,_⟩:=fk d;refine⟨_,rfl,f,λl b=>q l F _ _ (Al.new0 b) (sE b (UV.mpr ⟨rfl,λx a=>?_⟩)) (sL b g trivial)⟩;have a:=(eQ _).mem_iff.mp a;obtain⟨c,_,rfl⟩:=cx.mp a;show [c].length<=bE;unfold bE;simp
  .cases e
 .cases e
end Pu
namespace Mx
def F5:Nat->Nat->Nat
 |0,x=>x
 |n+1,x=>F5 n (5*x+1)
end Mx
namespace Pu
open L2
def sT:List PV->Option PV
 |[.int i,.int j]=>aa (.int (if j > i then j else i))
 |_=>ae
theorem ME{K:ay}:PL K (λxs H Q=>∃i j,xs=[.int i,.int j]/\Q (.int (if j > i then j else i)) H) sT:=λF H xs f Q pv a e q=>by
 unfold sT at e;split at e
 .cases e;obtain⟨v,g,rfl,d,c⟩:=a;obtain⟨u,rfl,b⟩:=fk c;exact⟨_,_,by rw[show v=V.int _ from d,show u=V.int _ from b],q _ F H (Al.refl ..) rfl⟩
 .cases e
end Pu
namespace L2
section
variable{X:Cx}{f:List (ag×Obj)}{d:St}{H:Hp}{s:am}{a:ag}
theorem Inv.recast{p q:HO}(I:Inv X f d H s)(e:H a=aa p)(m:∀xs,p≠.tup xs)(B:∀o u,X.H₀ a≠aa (.frz o u))(A:∀l,p≠.tbl l)(y:∀x,p≠.own x)(new:cz X.prog X.w (upd H a q) s.heap a q):Inv X f d (upd H a q) s:=by
 have g:∀b,H b=ae->(upd H a q) b=ae:=λb i=>by rw[br (by rintro rfl;rw[e]at i;cases i)];exact i
 refine⟨I.ok,I.os,I.bare,⟨I.base.keep,I.base.slot,λb o h n t=>g b (I.base.free b o h n t),I.base.there,λb xs h=>?_,λb o u h=>?_,λb l h=>?_⟩,I.loc,I.cell,g _ I.free,λx c h=>g _ (I.freeC x c h),λp w=>?_,λb u i=>?_,I.len⟩
 .have z:=I.base.tups b xs h;rw[br (by rintro rfl;rw[e]at z;exact m xs (dZ z))];exact z
 .have z:=I.base.frzs b o u h;rw[br (by rintro rfl;exact B o u h)];exact z
 .have z:=I.base.tbls b l h;rw[br (by rintro rfl;rw[e]at z;exact A _ (dZ z))];exact z
 .obtain⟨E,D,C⟩:=I.pin p w;exact⟨E,g _ D,C⟩
 .by_cases j:b=a
  .subst j;rw[upd_same]at i;cases i;exact new
  .rw[br j]at i;refine(I.hok b u i).stay (λc v _ r=>r) (λc r=>?_) λc xs r=>?_
   .rw[br (by rintro rfl;rw[e]at r;exact y _ (dZ r))];exact r
   .rw[br (by rintro rfl;rw[e]at r;exact m _ (dZ r))];exact r
def xw(o:Obj):Nat:=match o.data with
 |.dict _ b=>b
 |_=>0
theorem Cv{P:aS}{w:aG}{h:aB}{o:Obj}{b:List (aD×V)}(i:h.get? a=aa o)(k:cz P w H h a (.dK b)):(a == j8)=aj/\∃c,KV b c/\h.DictAt (gU P w) a c (xw o):=by
 obtain⟨_,n,c,l,t,p,q,g,m,j,r⟩:=k;rw[i]at g;cases g;refine⟨n,c,l,o,p,i,m,?_,r⟩;have:xw o=q:=by unfold xw;rw[j]
 rw[this];exact j
theorem Inv.freeze{b:List (aD×V)}(I:Inv X f d H s)(e:H a=aa (.dK b)):∃o,s.heap.get? a=aa o/\Inv X f d (upd H a (.frz o (.dK b))) s:=by
 have k:cz X.prog X.w H s.heap a (.dK b):=I.hok a _ e;obtain⟨z,i,g,h,o,j,l,c,r⟩:=id k;refine⟨o,c,I.recast e (λ_ q=>by cases q) (λo u q=>?_) (λ_ q=>by cases q) (λ_ q=>by cases q) ⟨c,⟨z,i,g,h,o,j,l,c,r⟩⟩⟩;have:=I.base.frzs a o u q;rw[e]at this;cases this
theorem Inv.thaw{o:Obj}{b:List (aD×V)}(I:Inv X f d H s)(e:H a=aa (.frz o (.dK b)))(i:∀o u,X.H₀ a≠aa (.frz o u)):Inv X f d (upd H a (.dK b)) s:=by
 obtain⟨j,z,h,c,g,r⟩:=(show cz X.prog X.w H s.heap a (.frz o (.dK b))from I.hok a _ e)
 exact I.recast e (λ_ q=>by cases q) i (λ_ q=>by cases q) (λ_ q=>by cases q) ⟨z,h,c,g,r⟩
end
theorem KV.at{a:List (aD×V)}{vs:List (aD×ai)}(h:KV a vs){i:Nat}{p:aD×V}(e:a[i]?=aa p):∃q,vs[i]?=aa q/\p.1=q.1/\RelV p.2 q.2:=by
 unfold KV at h
 induction h generalizing i with
 |nil=>simp at e
 |cons r _ b=>
  cases i with
  |zero=>simp at e;subst e;exact⟨_,rfl,r⟩
  |succ i=>exact b (by simpa using e)
theorem KV.len{a:List (aD×V)}{vs:List (aD×ai)}(h:KV a vs):a.length=vs.length:=by
 unfold KV at h
 induction h with
 |nil=>rfl
 |cons _ _ b=>simp[b]
theorem KV.keysD{a:List (aD×V)}{b:List (aD×ai)}(h:KV a b):a.map (·.1)=b.map (·.1):=by
 unfold KV at h
 induction h with
 |nil=>rfl
 |cons r _ c=>simp[c,r.1]
end L2
namespace Pu
open L2
section
variable{X:Cx}{E:XK}{pin:List Nat}{e b c:az}{de db f:ak->R PV}{d:Pos}
def nH(i:Nat):ak->R PV:=λa=>(aE (dA a i) a).bind λg a=>.ok (.int (g.length:Nat)) a
theorem HK(i:Nat){y:Str}{p g:Pos}(q:X.mg "len"=ae)(w:X.N[i]?=aa y:=by rfl)(A:eD X.env.scope y:=by first|exact Or.inl rfl|exact Or.inr (Or.inl rfl)|exact Or.inr (Or.inr rfl))(u:(y==("__debug__":Str))=aj:=by decide) (B:(y==("__classdict__":Str))=aj:=by decide) (t:Gl X "len":=by rfl)(l:aN [.Name y g] X.env=(aj,aL (.Name y g) X.env)::aN [] X.env:=by rfl) (z:(c_ d (aN [] X.env)).any (·.1)=aj:=by rfl):DE X E (.Call (.Name "len" p) [.Name y g] [] d) (nH i):=λF S m C H Q r h=>by
 unfold nH at h;cases j:dA m i with
 |none=>rw[j]at h;exact h.elim
 |some o=>rw[j]at h;obtain⟨a,n,x,v,s,_⟩:=r.dkAt (lG j);refine b7 (pe MN t q rfl (iQ (fE w A u B) j6 l) (by decide) (by decide) l z) ⟨_,x,a,n,rfl,v,?_⟩;rw[s.len];exact h F S H r (bD.refl ..) _ rfl
def gC(neg:Bool)(i:Nat)(db:ak->R PV):ak->R PV:=λε=>(db ε).bind λk ε1=>(aE (dA ε1 i) ε1).bind λa ε1=>aE ((jf k).map λk=>.bl (neg^^(j4 a k).isSome)) ε1
theorem D1{i:Nat}(j:Bool){F:ag->Prop}{S:Nat->ag->Prop}{n:ak}{g:St}{H:Hp}{Q:VK}(J:DE X E b db)(D:aZ X.K F S n g H)(h:Ok X.K E g F S H (gC j i db n) (λpv _ M _ z=>∀v,a_ X.K z M pv v->Q v z)):jA X b g H λy l=>∃x,g[i]?=aa (aa x)/\∃a o,x=.ref a/\lp l a y o/\Q (.bl (j^^o.isSome)) l:=by
 unfold gC at h;refine J F S n g H _ D ((Ok.bind h).imp λk m A w l p N q u C=>?_);cases s:dA m i with
 |none=>rw[s]at q;exact q.elim
 |some G=>
  rw[s]at q;simp only[cg,R.bind_ok]at q;obtain⟨a,B,L,K,I,_⟩:=p.dkAt (lG s);cases r:jf k with
  |none=>rw[r]at q;exact q.elim
  |some t=>
   rw[r,pE]at q;rw[vy C r];refine⟨.ref a,L,a,fV B t,rfl,lp.k K,?_⟩;rcases I.val t with⟨x,v,h1,h2,h3⟩|⟨h1,h2⟩
   .rw[h1]at q;rw[h2];exact q A w l p (bD.refl ..) _ rfl
   .rw[h1]at q;rw[h2];exact q A w l p (bD.refl ..) _ rfl
theorem Bp(i:Nat){y:Str}{a:Pos}(t:X.A.units+64<cLine)(m:DE X E b db)(n:X.N[i]?=aa y:=by rfl)(o:eD X.env.scope y:=by first|exact Or.inl rfl|exact Or.inr (Or.inl rfl)|exact Or.inr (Or.inr rfl))(l:(y==("__debug__":Str))=aj:=by decide) (p:(y==("__classdict__":Str))=aj:=by decide) (j:nX .In (.Name y a)=aj:=by rfl):DT X E (.Compare b [.In] [.Name y a] d) (dB (gC aj i db)):=λF S s r H Q g h=>by refine qI (yW (OL ∅ bI (fE n o l p)) j) ?_;have:=D1 (Q:=λv q=>∃k,v=.bl k/\Q k q) aj m g (pX h);simp only[Dj]at this;exact this
theorem OW(i:Nat){y:Str}{a:Pos}(t:X.A.units+64<cLine)(m:DE X E b db)(n:X.N[i]?=aa y:=by rfl)(o:eD X.env.scope y:=by first|exact Or.inl rfl|exact Or.inr (Or.inl rfl)|exact Or.inr (Or.inr rfl))(l:(y==("__debug__":Str))=aj:=by decide) (p:(y==("__classdict__":Str))=aj:=by decide) (j:nX .NotIn (.Name y a)=aj:=by rfl):DT X E (.Compare b [.NotIn] [.Name y a] d) (dB (gC ah i db)):=λF S s r H Q g h=>by refine qI (yW (QW ∅ bI (fE n o l p)) j) ?_;have:=D1 (Q:=λv q=>∃k,v=.bl k/\Q k q) ah m g (pX h);simp only[t_]at this;exact this
theorem Ue{H:Hp}{a l:ag}{o:HO}{u v:HO}(e:H a=aa v)(i:l≠a):upd (upd (upd H a o) l u) a v=upd H l u:=by
 funext b;by_cases h:b=a
 .subst h;rw[upd_same,br (ef i),e]
 .rw[br h];by_cases g:b=l
  .subst g;rw[upd_same,upd_same]
  .rw[br g,br g,br h]
def uv(db f:ak->R PV):ak->R PO:=λh=>(db h).bind λk g=>(f g).bind λy a=>(aE (jf k) a).bind λi a=>.ok (.dK [(i,y)]) a
theorem Nk(Y:DE X E b db)(W:DE X E c f):DN X E (.Dict [aa b] [c] d) (uv db f):=λF S M G H Q t h=>by
 refine b7 (Lx (Pl bI bI SJ) rfl rfl (by simp) (by simp)) λp l=>?_;have al:Al F F H (upd H p (.dK [])):=Al.new0 l;have T:¬F p:=λz=>by obtain⟨o,q⟩:=t.ex p z;rw[l]at q;cases q
 have nS:¬U S p:=λζ=>by obtain⟨i,z⟩:=ζ;obtain⟨_,_,o,q,_⟩:=t.foot i p z;rw[l]at q;cases q
 have A:bD (U S) (U S) F F H (upd H p (.dK [])):=al.grow;refine Y F S M G _ _ (t.al al) ((Ok.bindB h A).imp λk n F1 S1 H1 I C Z u N=>?_);obtain⟨e1,x,v⟩:=C.stay (upd_same:upd H p (.dK []) p=aa (.dK [])) nS T;refine W F1 S1 n G H1 _ I ((Ok.bindB Z (A.trans C)).imp λy L K S2 H2 P B m w r=>?_);obtain⟨J,g,a⟩:=B.stay e1 v x;cases D:jf k with
 |none=>rw[D]at m;exact m.elim
 |some j=>
  rw[D]at m;simp only[cg,R.bind_ok]at m;have s:a_ X.K H2 K k u:=N.grow B I.fit;refine⟨J,[(j,w)],?_,by simp,?_⟩
  .rw[cu,vX,<-vy s D]
  .rw[show tF [] [(j,w)]=[(j,w)] from rfl];obtain⟨gl,fit,O⟩:=P.lay (o':=.dK [(j,w)]) J trivial g a;have g3:=((A.trans C).trans B).lay (o':=.dK [(j,w)]) l;refine m K S2 _ O g3 p (λb=>b=p) ⟨⟨_,upd_same,.cons ⟨rfl,r.grow gl fit⟩ .nil⟩,λb=>rh⟩ λb z=>?_;subst z;exact⟨l,g,a,_,upd_same,trivial⟩
end
end Pu
namespace L2
theorem Nc{d:Pos}{a b:Int}{c g:ai}(l:List ai)(h:TriplesOk l)(e:vO d (l++[ez a,ez b,c])=aa g):vO d l=aa g\/g=c:=by
 fun_induction TriplesOk l with
 |case1=>simp[vO,ez]at e;exact .inr e.2.symm
 |case2 o t n u x rest i=>
  simp only[ke,vO]at e ⊢;split at e
  .rename_i f;rw[if_pos f];exact .inl e
  .rename_i f;rw[if_neg f];exact i h e
 |case3 l m j=>exact h.elim
section
variable{X:Cx}{i:List (ag×Obj)}{d:St}{H:Hp}{s:am}
structure xT(X:Cx)(x:Str)(c P:ag):Prop where
 mem:x∈vE
 tab:lJ X.K x=aa (c,P)
 hd:zx X.K c P=ah
 code:X.env.code=.ref c
theorem SF(I:Inv X i d H s){x:Str}{c P:ag}(L:xT X x c P){j:qS}{y:az}{l:dH}{F:Pos}{w:List (Str×ag)}(hq:X.env.qual++"<lambda>"=x++".<locals>.<lambda>") (jx:zy l X.env=pure w) (wy:defaultsOf j X.env=([],[])) {Q:ai->am->Prop}(h:∀f c' p H' Y,Inv X i d H' Y->(∀b o,H b=aa o->H' b=aa o)->Y.heap.get? f=aa (Dk "<lambda>" (X.env.qual++"<lambda>") j y l w ((X.mg "__name__").getD .none) c' p)->f≠X.env.locals -> Y.heap.CodeRec (.ref c') (X.env.qual++"<lambda>")->c'≠X.env.locals->Q (.ref f) Y):au (ax X.prog X.w) X.A (aL (.Lambda j y l F) X.env) Q X.xe s:=by
 have M:=I.tab x L.mem c P L.tab;obtain⟨ps,hP,C,g⟩:=I.hok P _ M;have J:s.heap.Ns bU X.mg:=I.mod.glob.keeps I.bk;have hgP:bU≠P:=λz=>by
  obtain⟨o,es,ep,e,Z,_⟩:=J;rw[z,hP]at e;cases e;cases Z
 have S:s.heap.BuiltinsAt X.mg P:=by
  obtain⟨bm,ob,b1,b2,b3,b4,b5,b6⟩:=I.mod.bm;refine⟨bm,ob,b1,b2,λz=>?_,λz=>?_,I.bk _ _ b3,b4,b5,b6⟩
  .obtain⟨o,es,ep,e,Z,_⟩:=I.mod.glob;rw[<-z,b3]at e;cases e;rw[b6]at Z;cases Z
  .have e:=I.bk _ _ b3;rw[z,hP]at e;cases e;simp at b4
 have hC:=PySem.W.codeHd_of_K I.kIn L.hd;have Lne:X.env.locals≠P:=λz=>by have:=I.free;rw[z,M]at this;cases this
 refine PySem.W.kla_eval wy ?_;cases hf:vO F ps.toList with
 |some cv=>
  obtain⟨A,rfl,jQ,z5⟩:=g F _ hf;refine PySem.W.kla_makeFunctionHit (mg:=X.mg) jx I.ok.glob J L.code hC hP C hf S λp W tk hk hsz=>?_;have D:∀b o,s.heap.get? b=aa o->(W.push (Dk "<lambda>" (X.env.qual++"<lambda>") j y l w ((X.mg "__name__").getD .none) A p)).get? b=aa o:=λb o e=>bu _ (hk b o e);refine h _ A p H _ (I.un (Un.kept D) (I.hok.kept D)) (λ_ _ e=>e) (cI _ rfl) (mC (fY I.lt hsz)) ?_ λz=>?_
  .have G:s.heap.CodeRec (.ref A) (X.env.qual++"<lambda>"):=by rw[hq];exact z5
   exact G.keeps D
  .have:=I.free;rw[<-z,jQ]at this;cases this
 |none=>
  refine PySem.W.kla_makeFunction (mg:=X.mg) jx I.ok.glob J L.code hC hP C hf hgP S λA p W tk hx gH bg z5 O=>?_;generalize ho:Dk "<lambda>" (X.env.qual++"<lambda>") j y l w ((X.mg "__name__").getD .none) A p=fo;have D:∀b o,b≠P->s.heap.get? b=aa o->(W.push fo).get? b=aa o:=λb o n e=>bu _ (hx b o n e);have fr:H A=ae:=I.hok.fresh gH;have B:(W.push fo).CodeRec (.ref A) (X.env.qual++"<lambda>"):=z5.keeps λb o e=>bu _ e;have nP:∀b,H b=ae->b≠P:=λb n z=>by rw[z,M]at n;cases n
  have nc:∀b o,s.heap.get? b=aa o->b≠A:=λb o e=>c8 (fY (bR e) gH);have E:∀b o,H b=aa o->(upd H A (.own P)) b=aa o:=λb o e=>by rw[br (mh e fr)];exact e
  have I':Inv X i d (upd H A (.own P)) {s with heap:=W.push fo,gens:=s.gens,drawn:=s.drawn,toks:=tk}:=by
   refine I.step (ch:=[]) (λ_ z=>nomatch z) (λb o _ _ _ e n=>D b o (nP b n) e) (λb o _ _ _ e n=>⟨o.slots,D b o (nP b n) e⟩) (λb o _ e n=>by rw[br (nc b o e)];exact n)
    (λb o _ e=>?_) (λb xs e=>E b _ e) (λb o u e=>E b _ e) (λb q e=>E b _ e) (λm hm=>?_) (λa u e=>?_) I.bare
   .by_cases T:b=P
    .subst T;exact⟨_,bu _ O⟩
    .exact⟨o,D b o T e⟩
   .exact(hm.extBut hx Lne).push _
   .by_cases ha:a=A
    .subst ha;rw[upd_same]at e;cases e;obtain⟨_,o,_,_,z,e2,_⟩:=B;cases z;exact⟨o,e2⟩
    .rw[br ha]at e;by_cases T:a=P
     .subst T;rw[M]at e;cases e;refine⟨_,bu _ O,by rw[i7];exact TriplesOk_snoc _ _ _ _ C,λN cv K=>?_⟩;rw[i7]at K;rcases Nc _ C K with z|rfl
      .obtain⟨c2,rfl,h1,h2⟩:=g N cv z;refine⟨c2,rfl,E c2 _ h1,?_⟩;obtain⟨c3,o,vs,t,z,e2,r⟩:=h2;cases z;exact⟨c2,o,vs,t,rfl,D c2 o (λz=>by rw[z,M]at h1;cases h1) e2,r⟩
      .exact⟨A,rfl,upd_same,hq ▸ B⟩
     .refine(I.hok a u e).stay (λb v K r=>D b v ?_ r) (λb r=>E b _ r) λb xs r=>E b _ r;rcases K with rfl|K
      .exact T
      .rintro rfl;rw[M]at K;cases K
  exact h _ A p _ _ I' E (by rw[<-ho];exact cI _ rfl) (mC (fY I.lt (cP gH (lK bg)))) B (mC (fY I.lt gH))
end
open Att
theorem HF:∀{xs:List V}{vs:List ai}{i:Nat}{v:ai},bt xs vs->vs[i]?=aa v->∃x,xs[i]?=aa x/\RelV x v
 |_,_,_,_,.nil,e=>by simp at e
 |_,_,0,_,.cons h _,e=>by simp at e;subst e;exact⟨_,rfl,h⟩
 |_,_,i+1,_,.cons _ t,e=>by obtain⟨x,a,b⟩:=HF (i:=i) t (by simpa using e);exact⟨x,by simpa using a,b⟩
section
variable{X:Cx}{d:List (ag×Obj)}{c:St}{H:Hp}{s:am}
theorem Inv.mapKept{i:aB}{l:Nat}{m:Str->Option ai}(I:Inv X d c H s)(t:s.heap.Ns X.env.locals m)(f:i.Ns X.env.locals m)(k:∀b o,b≠X.env.locals->s.heap.get? b=aa o->i.get? b=aa o):Inv X d c H {s with heap:=i,toks:=l}:=by
 refine I.step (g':=s.gens) (d':=s.drawn) (ch:=[]) (λ_ z=>nomatch z) (λb o h _ _ e _=>k b o h e) (λb o h _ _ e _=>⟨o.slots,k b o h e⟩) (λ_ _ _ _ n=>n) (λb o _ e=>?_) (λ_ _ e=>e) (λ_ _ _ e=>e) (λ_ _ e=>e) (λq w=>?_) (λa u e=>?_) I.bare
 .by_cases j:b=X.env.locals
  .subst j;obtain⟨p,_,_,x,_⟩:=f;exact⟨p,x⟩
  .exact⟨o,k b o j e⟩
 .have:q=m:=w.eq_nsMap.trans t.eq_nsMap.symm;rw[this];exact f
 .refine(I.hok a u e).stay (λb v g r=>k b v ?_ r) (λ_ r=>r) λ_ _ r=>r;rintro rfl;have:=I.free;rcases g with rfl|g
  .rw[e]at this;cases this
  .rw[g]at this;cases this
end
end L2
namespace Pu
open L2
structure Ca(K:ay)(mg:Str->Option ai)(x:Str)(c T:ag):Prop where
 tab:lJ K x=aa (c,T)
 hd:zx K c T=ah
 code:∀f fd oc od osl,mg x=aa (.ref f)->K.lookup f=aa ⟨oc,od,.func fd,osl⟩->fd.code=.ref c
theorem QT{K:ay}{h:aB}{b:Str->Option ai}{x:Str}{c T:ag}(X:K.In h)(G:h.Ns bU b)(a:lJ K x=aa (c,T))(l:zx K c T=ah):Ca K b x c T:=by
 refine⟨a,l,λf o oc n g i j=>?_⟩;unfold lJ at a;split at a
 .rename_i p e;have d:=h_ X G e;rw[i]at d;cases d;rw[j]at a;dsimp only at a;split at a
  .rename_i q m;split at a
   .split at a
    .cases a;exact m
    .cases a
   .cases a
  .cases a
 .cases a
theorem R3{y:gz}{P:aS}{w:aG}{K:ay}{m:Str->Option ai}{b:aB}{x:Str}{j:ba}{N l:List Str}{k n:Nat}{d:ak->R aK}{pin:List Nat}(Y:∃c T,Ca K m x c T)(M:x∈vE)(D:cD K m x j)(X:b8 N l (a8 j))(Q:N.length=l.length+n)(C:∀(kV v F:ai) (W:Option ag) (o S:ai) (q:List ai),q.length=l.length->fZ (iY x x (j5 j) (fX j) (a8 j) .none kV v F W o S) ⟨q,[]⟩=pure (l.zip q))(J:∀(f:ag) (o:ai) (c T:ag) (A:aV) (a:List Env) (s:am) (H:Hp) (E:XK),Room k (A.deeper (jt x (a8 j) s.heap.objs.size f o))->xT (iO y P w K m b N x (a8 j) f o A a s H E) x c T->gy (iO y P w K m b N x (a8 j) f o A a s H E) E pin (fX j) d):cN y P w K m b x (k+1) l (bJ K (bh l.length pin (bj n d))):=by
 have no:∀{g},bh l.length pin (bj n d) g≠.no->g.length=l.length/\dX pin 0 g=ah:=λ{g} h=>by
  unfold bh at h;by_cases z:g.length=l.length/\dX pin 0 g=ah
  .exact z
  .rw[if_neg z]at h;exact absurd rfl h
 obtain⟨f,u,B,p⟩:=D.ex;obtain⟨c,T,L⟩:=Y;refine⟨f,u,B,Es p X Q C (λg h=>(no h).1) (λg h i r e=>by have:=(oS (no h).2 i r e).1;rwa[oq]at this) (λg Z aO h=>.inr λi r e=>(oS (no (by rw[h];exact nofun)).2 i r e).2) (λg h=>by unfold bh;rw[if_pos (no h)]) λA a s H E O=>?_,p.binds C,p.kp⟩;obtain⟨oc,G,_,_,_,_,_,_,t,_,I,_⟩:=p.ex;exact J f u.code c T A a s H E O ⟨M,L.tab,L.hd,L.code f u oc G t B I⟩
end Pu
theorem L2.Room.d1{k:Nat}{A:PySem.Around}(r:L2.Room k A):A.depth+1<PySem.recursionLimit:=by have:=r.dp;lia
namespace L2
open Mx
theorem least{p:Nat->Prop}:∀(n:Nat),p n->∃m,m<=n/\p m/\∀k,k<m->¬p k
 |0,h=>⟨0,a9 _,h,λk d=>absurd d (Nat.not_lt_zero _)⟩
 |n+1,h=>by
  by_cases z:∃m,m<=n/\p m/\∀k,k<m->¬p k
  .obtain⟨m,a,b,c⟩:=z;exact⟨m,∅,b,c⟩
  .refine⟨n+1,a9 _,h,λk d f=>z ?_⟩;obtain⟨m,a,b,c⟩:=least k f;exact⟨m,∅,b,c⟩
section
variable{P:aS}{w:aG}{A:aV}{E:ai->am->Prop}{s:am}
structure Keyd(P:aS)(w:aG)(K:Type)[DecidableEq K] where
 is:aB->K->ai->Prop
 hash:K->Int
 room:aV->Prop
 keep:∀{h h':aB}{k:K}{v:ai},is h k v->(∀b o,h.get? b=aa o->o.cls=.type "tuple"->h'.get? b=aa o)->is h' k v
 ref:∀{h:aB}{k:K}{v:ai},is h k v->∃a o,v=.ref a/\h.get? a=aa o
 eqBool:∀{A:aV}{E:ai->am->Prop}{s:am}{x y:K}{u v:ai}{Q:Bool->am->Prop},room A->is s.heap x u->is s.heap y v->Q (decide (x=y)) s->au (ax P w) A (PySem.eqBool u v) Q E s
 quiet:∀{A:aV}{E:ai->am->Prop}{s:am}{k:K}{v:ai}{Q:Bool->am->Prop},is s.heap k v->Q ah s->au (ax P w) A (wf 8 v) Q E s
 cls:∀{A:aV}{E:ai->am->Prop}{s:am}{k:K}{v:ai}{Q:Bool->am->Prop},is s.heap k v->Q aj s->au (ax P w) A (ofAClassStatement 8 v) Q E s
 hbv:∀{A:aV}{E:ai->am->Prop}{s:am}{k:K}{v:ai}{Q:Bool->am->Prop},is s.heap k v->Q aj s->au (ax P w) A (hashByValue 8 v) Q E s
variable{K:Type}[DecidableEq K]{c:Keyd P w K}
end
section
variable{P:aS}{w:aG}{A:aV}{E:ai->am->Prop}{s:am}
theorem tupTy{a:ag}{b:Array ai}(h:IsTup s.heap a b):s.TypeIs (.ref a) "tuple":=let ⟨o,ho,hc,_⟩:=h;⟨o,ho,hc⟩
theorem quiet_tup{n:Nat}{a:ag}{b:Array ai}{Q:Bool->am->Prop}(j:IsTup s.heap a b)(q:∀v∈b.toList,∀(E:ai->am->Prop) (Q:Bool->am->Prop),Q ah s->au (ax P w) A (wf n v) Q E s)(h:Q ah s):au (ax P w) A (wf (n+1) (.ref a)) Q E s:=by
 have g:=tupTy j;obtain⟨o,p,_,m,t⟩:=j;unfold wf;refine ar (zw g F.slot_tuple_eq.lookup ?_);show au _ _ (zD (.ref a) (.type "tuple") >>= _) _ _ s;refine ar (Jp g isSubtype_tuple_tuple ?_);simp only[ua,mI,if_false];refine ar (zH p t ?_);refine ar ?_;show au _ _ (forIn b _ _) _ _ s;rw[<-Array.forIn_toList];refine Dl _ (λrest r c=>r.1=ae/\c=s/\∀v∈rest,v∈b.toList) _ ?_ ?_ _ _ ⟨rfl,rfl,λv l=>l⟩
 .rintro v rest r c ⟨f,rfl,i⟩;refine ar (q v (i v lL) _ _ ?_);simp only[ua,mI,if_false];exact aI ⟨rfl,rfl,λu d=>i u (k8 _ d)⟩
 .rintro⟨y,x⟩ c ⟨f,rfl,_⟩;simp only at f;subst f;exact aI h
theorem tup_uniq{h:aB}{a:ag}{x y:Array ai}(g:IsTup h a x)(f:IsTup h a y):x=y:=by
 obtain⟨o,e,_,n,d⟩:=g;obtain⟨i,b,_,j,c⟩:=f;rw[e]at b;cases b;rw[d]at c;cases c;rfl
theorem strs_uniq{a:List ai}{x y:List Str}(r:eO a x)(s:eO a y):x=y:=by
 induction r generalizing y with
 |nil=>cases s;rfl
 |cons _ _ _ g=>
  cases s with
  |cons _ _ t=>rw[g t]
theorem all_getD{a b:List Str}:((dy (min a.length b.length)).all (λj=>a.getD j ff == b.getD j ff)&&a.length == b.length)=decide (a=b):=by
 rw[lM,gn,q8,decide_eq_true_iff,beq_iff_eq];constructor
 .rintro⟨g,f⟩;refine List.ext_getElem f λi d c=>?_;have:=g i (zn.mpr ∅);rw[beq_iff_eq]at this;simpa[d,c]using this
 .rintro rfl;exact⟨λx _=>by simp,rfl⟩
theorem strs_len{a:List ai}{b:List Str}(h:eO a b):a.length=b.length:=h.length
theorem eq_strs{b h:ag}{c a:Array ai}{i d:List Str}(u:A.units<cLine)(o:IsTup s.heap b c)(f:eO c.toList i)(p:IsTup s.heap h a)(g:eO a.toList d):vW A s (.ref b) (.ref h) (decide (i=d)):=by
 by_cases n:b=h
 .subst n;obtain rfl:=tup_uniq o p;obtain rfl:=strs_uniq f g;rw[decide_eq_true rfl];exact .same _
 .have m:=strs_len f;have l:=strs_len g;rw[n5]at m l;rw[<-all_getD,<-m,<-l];refine .of_refs n (.tuples o p u λj r q=>?_);obtain⟨t,e⟩:=vd j c[j] f (by simp[r]);obtain⟨x,v⟩:=vd j a[j] g (by simp[q]);rw[e,v];exact Jd _ _ _ _
theorem tup_kept{h d:aB}{a:ag}{x:Array ai}(f:IsTup h a x)(k:∀b o,h.get? b=aa o->o.cls=.type "tuple"->d.get? b=aa o):IsTup d a x:=by obtain⟨o,e,c,r⟩:=f;exact⟨o,k a o e c,c,r⟩
theorem strs_mem_shape{a:List ai}{b:List Str}(h:eO a b):∀v∈a,∃z t,v=Value.str z t:=λv c=>h.all v c
end
section
open PySem.SeqAt
open PySem.AutoSeq1 (wpAny_loadPart')
open PySem.MeetsSeq PySem.MeetsSeq2 PySem.MeetsSeq3
end
end L2
namespace Pu
open L2
abbrev UZ:=List aD
end Pu
namespace L2
theorem Px{P:aS}{w:aG}{A:aV}{E:ai->am->Prop}{s:am}{t b:ag}{f:List ai}{Q:ai->am->Prop}(v:IsTup s.heap t #[])(x:IsTup s.heap b f.toArray)(h:Q (.ref b) s):au (ax P w) A (iX .Add (.ref t) (.ref b)) Q E s:=by
 obtain⟨⟨z,y,p,r⟩,l,o,n,m⟩:=id v;obtain⟨⟨q,c,d,a⟩,j,i,u,g⟩:=id x;simp only at o m i g;subst o m i g;exact concat_meets ⟨_,l,rfl⟩ ⟨_,j,rfl⟩ IY seq_tuple_add IZ I_ (Ja _ _)
  (tuple_addW0 t b #[] f.toArray n u y c r a rfl) ⟨l,j,h⟩
def B8(K:ay):R2:=λx y H Q=>∃a b c,x=.ref a/\y=.ref b/\cR K H a []/\cR K H b c/\Q (.ref b) H
theorem Vd{X:Cx}:cb X (iX .Add) (B8 X.K):=by
 intro t s o H x y v u Q I f d h;obtain⟨a,b,p,rfl,rfl,n,m,q⟩:=h;cases f;cases d;obtain⟨l,g,j,_⟩:=I.tuple n;obtain⟨c,r,i,_⟩:=I.tuple m;cases g;exact Px j i ⟨.ref b,H,I,rfl,q⟩
end L2
namespace Pu
open L2
theorem EQ{X:Cx}:cb X (iX .Add) (λx y H Q=>B8 X.K x y H Q\/xU X.K x y H Q):=Vd.or fW
end Pu
namespace L2
section
variable{P:aS}{w:aG}{A:aV}{E:ai->am->Prop}{s:am}
theorem Q3{h:aB}{o:Obj}{l:ag}{a:Array ai}(x:h.IsTuple l a):(h.push o).IsTuple l a:=let ⟨ob,e,r⟩:=x;⟨ob,bu _ e,r⟩
set_option maxRecDepth 100000 in
theorem Pa{l:ag}{a:Array ai}{Q:ai->am->Prop}(hh:A.handled=ae)(hl:s.heap.IsTuple l a){J:Nat->aB->Prop}(hJ:∀i h d,J i h->(∀b o,b<=s.heap.objs.size->h.get? b=aa o->d.get? b=aa o)->J i d) (I:J 0 (s.heap.push {cls:=.type "set",dict:=ae,data:=.set #[] 0 (.fresh 0 0 (!cU w))}))(gq:∀(i:Nat) (v:ai) (f:am) (E:ai->am->Prop) (Q:Bool->am->Prop),i<a.size->a[i]?=aa v->J i f.heap->(∀d m b,f.toks<=m->k9 s.heap.objs.size f.heap d->J (i+1) d->Q b {f with heap:=d,toks:=m})->au (ax P w) A.in1.in1.in1 (setAdd s.heap.objs.size v) Q E f)(h:∀(d:aB) (m:Nat),J a.size d->(∀b o,b<s.heap.objs.size->s.heap.get? b=aa o->d.get? b=aa o)->Q (.ref s.heap.objs.size) {s with heap:=d,toks:=m}):au (ax P w) A (call (.type "set") [.ref l]) Q E s:=by
 obtain⟨c,tl,hmro⟩:=F.called_set.mro;have UG:=F.called_set.made;have kH:=F.called_set.sub;refine tL (codeAny_of_tree ?_);show au _ _ (callAny (.type "set") _) _ _ _;refine aI ⟨Code.quiet_builtin _ (by decide +kernel),oh F.entry_type_call ?_⟩;rw[Around.under_plain (weight_type_call_type "set" [.ref l] []) rfl];have h1:=F.called_set.notType;have h2:=F.called_set.canCreate;have hct:=PySem.F.typeCall_set_1 (.ref l)
 repeat any_goals (first|assumption|wp_step)
 refine n8 (F7 (P:=P) (w:=w) (.ref l) (E:=E) (Q:=λp f=>p=.ref s.heap.objs.size/\f={s with heap:=s.heap.push {cls:=.type "set",dict:=ae,data:=.set #[] 0 (.fresh 0 0 (!cU w))}}/\True) λS0=>⟨rfl,rfl,trivial⟩) λr f C=>?_;cases r with
 |error e=>exact C
 |ok fl=>
  cases fl with
  |ret p=>
   obtain⟨rfl,rfl,S0⟩:=C;have hS:=cI (h:=s.heap) (o:=({cls:=.type "set",dict:=ae,data:=.set #[] 0 (.fresh 0 0 (!cU w))}:Obj));have wI:(s.heap.push {cls:=.type "set",dict:=ae,data:=.set #[] 0 (.fresh 0 0 (!cU w))}).get? s.heap.objs.size=aa {cls:=.type "set",dict:=ae,data:=.set #[] 0 (.fresh 0 0 (!cU w))}:=cI _ rfl;have hT:Shared.TypeIs {s with heap:=s.heap.push {cls:=.type "set",dict:=ae,data:=.set #[] 0 (.fresh 0 0 (!cU w))}} (.ref s.heap.objs.size) "set":=⟨_,wI,rfl⟩
   have hli:=F.called_set.init.lookup;have hbi:=F.called_set.init.bind (.ref s.heap.objs.size)
   repeat any_goals (first|assumption|wp_step)
   refine n8 (Jr (R:=wants (λr M=>r=.none/\∃d m,M={s with heap:=d,toks:=m}/\J a.size d /\ (∀b o,b<s.heap.objs.size->s.heap.get? b=aa o->d.get? b=aa o)) E) F.called_set.init.plain F.entry_set_init (check_set_init_1 hT ?_)) λr2 M z=>?_
   .obtain⟨⟨S,n,y,g⟩,O,X,T,N⟩:=hl;simp only at X N;subst X;subst N;have Dz:(s.heap.push {cls:=.type "set",dict:=ae,data:=.set #[] 0 (.fresh 0 0 (!cU w))}).get? l=aa {cls:=.type "tuple",dict:=n,data:=.seq a T,slots:=g}:=bu _ O;have Y:=PySem.F.sub_tuple_set;have Z:=PySem.F.sub_tuple_frozenset;have bX:(Value.type "tuple" == Value.type "dict")=aj:=by decide
    have W:(s.heap.push {cls:=.type "set",dict:=ae,data:=.set #[] 0 (.fresh 0 0 (!cU w))}).IsTuple l a:=⟨_,Dz,rfl,T,rfl⟩
    unfold Builtin.«set.__init__» noKeywords Builtin.Frozenset.updateFrom;generalize H:mD=PI
    wp_walk
    subst H;refine wpAny_pyIter_tuple W (ar (wpAny_runValue ?_));have L:l<s.heap.objs.size:=bR O;have G:A.in1.in1.in1.handled=ae:=by simp[hh]
    have j:(s.heap.push {cls:=.type "set",dict:=ae,data:=.set #[] 0 (.fresh 0 0 (!cU w))}).objs.size=s.heap.objs.size+1:=zz ..;have DB:l≠(s.heap.push {cls:=.type "set",dict:=ae,data:=.set #[] 0 (.fresh 0 0 (!cU w))}).objs.size:=by rw[j];exact c8 (lh L)
    have uh:s.heap.objs.size∉[(s.heap.push {cls:=.type "set",dict:=ae,data:=.set #[] 0 (.fresh 0 0 (!cU w))}).objs.size,l]:=by rw[j];simp only[bC,fu,i6,or_false,not_or];exact⟨c8 (mJ _),mC L⟩
    refine FK ((Walks.tuple G _ l DB a).toS) s.heap.objs.size uh (λi h d D k=>hJ i h d D λb o t e=>k b o (by rw[j];simp only[fu];exact c8 (Nat.lt_succ_of_le t)) e) (λi v f E Q hi hv D hq=>gq i v f E Q hi hv D hq) (a.size-0) 0 _ ∅ (jO _)
     ⟨⟨_,cI _ rfl,rfl,rfl⟩,(Q3 W)⟩ (hJ 0 _ _ I λb o _ e=>bu _ e) ?_
    intro s' q B;obtain⟨d,g',d',u,x⟩:=s';obtain rfl:g'=s.gens:=q.gens;obtain rfl:d'=s.drawn:=q.drawn;obtain rfl:x=s.os:=q.os;show au _ _ _ _ _ _;refine aI ?_;show au _ _ (ret Value.none) _ _ _;refine aI ⟨rfl,d,u,rfl,B,λb o t e=>q.heap b o ?_ (bu _ (bu _ e))⟩;rw[j];simp only[bC,fu,i6,or_false,not_or];exact⟨c8 t,c8 (lh t)⟩
   .cases r2 with
    |error e=>exact z
    |ok K=>
     cases K with
     |ret r=>
      obtain⟨rfl,d,m,rfl,B,mU⟩:=z
      repeat any_goals (first|assumption|wp_step)
      exact h _ _ B mU
     |_=>exact z.elim
  |_=>exact C.elim
theorem On{l:ag}{a:Array ai}{c:List Str}{Q:ai->am->Prop}(x:A.handled=ae)(r:s.heap.IsTuple l a)(u:eO a.toList c)(z:(met (λi=>c.getD i ff) a.size).length<4000)(h:∀(d:aB) (j:Nat),jJ P w d s.heap.objs.size (met (λi=>c.getD i ff) a.size)->(∀b o,b<s.heap.objs.size->s.heap.get? b=aa o->d.get? b=aa o)->Q (.ref s.heap.objs.size) {s with heap:=d,toks:=j}):au (ax P w) A (call (.type "set") [.ref l]) Q E s:=by
 refine Pa x r (J:=λi h=>jJ P w h s.heap.objs.size (met (λi=>c.getD i ff) i)) (λi h d S k=>S.at λo e=>k _ o (a9 _) e)
  ⟨#[],0,_,[],cI _ rfl,.nil,tY _,λe y=>by simp at y,by decide,rfl,rfl,λh=>absurd rfl h⟩ (λi v f E Q m p S q=>?_) h
 obtain⟨t,rfl⟩:=vd i v u (by rw[zJ];exact p);unfold setAdd;refine js ?_;have B:(ju P w).is (c.getD i ff) (.str (c.getD i ff) t)=ah:=by show nU _ (.str _ t)=ah;simp[nU]
 refine ar ((ju P w).pyHash (k:=c.getD i ff) B ?_);refine EV (s:={f with toks:=f.toks+1}) S (vZ (A9 _ (lK m)) z) λd b n g=>?_;rw[<-BS (λi=>c.getD i ff)]at g;exact q d _ b (v7 _) n g
end
section
variable{X:Cx}
theorem Tb(z:X.calm=ah):eC X (.type "set") (λxs H Q=>∃(p:ag) (c:List Tx),xs=[.ref p]/\cR X.K H p (cO c)/\(b_ c).length<4000/\∀a,H a=ae->Q (.ref a) (upd H a (ln X a (b_ c)))):=by
 intro L s B H xs C Q I r h;obtain⟨p,c,rfl,x,f,q⟩:=h;obtain⟨u,rfl,l⟩:=vals1 r;cases l;obtain⟨d,g,v,E⟩:=I.tuple x;have y:=g.length;rw[yP]at y;refine On (P:=X.prog) (w:=X.w) (I.ok.hd z) v (by simpa using xq g) (by rw[cr,show d.length=c.length by lia,xH,cn];exact f) λA j S k=>?_;have i:jJ X.prog X.w A s.heap.objs.size ((b_ c).map tS):=by
  have e:d.toArray.size=c.length:=by rw[cr];lia
  rw[e,xH]at S;exact S
 refine⟨.ref s.heap.objs.size,_,I.laid (t':=j) (o:=ln X s.heap.objs.size (b_ c)) (λb o e=>k b o (bR e) e) (a9 _) ?_,rfl,q _ I.fresh⟩;obtain⟨J,K,t,D,e,_⟩:=i.ex;exact⟨i,⟨_,e⟩,λG F n m=>n.at m⟩
end
end L2
namespace Pu
open L2
section
variable{X:Cx}{E:XK}{e:az}{g:ak->R (List PV)}{p q f d:Pos}
def qF:List PV->Option PO
 |[.tup xs]=>(e_ xs).bind λa=>if(b_ a).length<4000 then aa (.lst (ao (aQ (b_ a))))else ae
 |_=>ae
def Mw(X:Cx)(r:List V->Hp->VK->Prop):List V->Hp->VK->Prop:=λxs H Q=>∃(p:ag) (b:List Tx),xs=[.ref p]/\cR X.K H p (cO b)/\(b_ b).length<4000/\∀a,H a=ae->r [.ref a] (upd H a (ln X a (b_ b))) Q
theorem L4:kN X.K (Mw X (E1 X)) qF:=λF H xs G Q J C t e q=>by
 unfold qF at e;split at e
 .obtain⟨v,rfl,a,I,rfl,B,n⟩:=fk t;obtain⟨i,D,m⟩:=Option.bind_eq_some_iff.mp e;rw[pU D]at n;obtain⟨rfl,y⟩:=UV.mp n;split at m
  .rename_i s;cases m;refine⟨a,i,rfl,cR.of B,s,λb A=>⟨b,b_ i,rfl,upd_same,s,λl h=>?_⟩⟩;have j:l≠b:=by rintro rfl;rw[upd_same]at h;cases h
   have r:H l=ae:=by rw[br j]at h;exact h
   have al:Al F F H (upd (upd H b (ln X b (b_ i))) l (.lst (cO (aQ (b_ i))))):=(Al.new0 A).trans (Al.new0 h);refine q l F _ (λc=>c=l) al ⟨⟨_,upd_same,UV.mpr ⟨rfl,λx u=>y x ((mj _ _).mp ((eQ _).mem_iff.mp u))⟩⟩,λc=>rh⟩ λc z=>?_;subst z;exact⟨r,λz=>Exists.elim (C _ z) (λo w=>by rw[r]at w;cases w),_,upd_same,trivial⟩
  .cases m
 .cases e
theorem Lz(c:X.calm=ah)(m:DA X E [e] g)(j:X.mg "sorted"=ae)(a:X.mg "set"=ae)(l:Gl X "sorted":=by rfl)(b:Gl X "set":=by rfl)(h:mq e=aj:=by rfl):DN X E (.Call (.Name "sorted" p) [.Call (.Name "set" q) [e] [] d] [] f) (dL qF g):=λF S r o H Q i n=>b7 (pe (Gz c) l j nD (iQ (yK (Tb c) b a Gg gX (by decide) (by decide) (km h) rfl) j6 (km rfl)) (by decide) (by decide) (km rfl) rfl) (u0 L4 m i n)
end
end Pu
namespace L2
open Mx
section
variable{P:aS}{w:aG}{A:aV}{E:ai->am->Prop}{s:am}
def vB(P:aS)(w:aG)(A:aV)(h:aB)(v:ai)(x:Int)(d:Nat):Prop :=
 ∀(s:am) (E:ai->am->Prop) (Q:Int->am->Prop),s.heap=h->Q x {s with toks:=s.toks+d}->au (ax P w) A (pyHash v) Q E s
theorem FY{h:aB}{a:ag}{f:Array ai}{hs:List (ai×Int×Nat)}(t:A.units<cLine)(r:IsTup h a f)(v:f.toList=hs.map (·.1))(y:∀p∈hs,vB P w A.in1 h p.1 p.2.1 p.2.2):vB P w A h (.ref a) (tI (mB (hs.map (·.2.1)))) ((hs.map (·.2.2)).sum+1):=λs E Q B g=>by
 subst B;have j:s.TypeIs (.ref a) "tuple":=tupTy r;obtain⟨o,u,_,n,z⟩:=r;unfold pyHash
 first|unfold pyHashByItsType|skip
 first|refine ar (wpAny_cRoomFor_or (.inr t) ?_)|skip
 refine ar (zw j F.slot_tuple_hash.lookup ?_);show au _ _ (if(aa (Value.builtin "tuple.__hash__") == aa Value.none)=ah then _ else _) Q E _;rw[if_neg (by rw[beq_builtin_none];exact fq)];refine ar (zw j F.slot_tuple_hash.lookup ?_);show au _ _ (callSpecialIfBoundUnlessNone? (.ref a) "__hash__" _ >>= _) Q E _;refine ar (wpAny_callSpecialIfBoundUnlessNone?_slot j Ux (vV Ux j F.entry_tuple_hash ?_ (F.args_tuple_hash_1 _)));show au _ _ (Builtin.Tuple.tupleItemsOf (.ref a) >>= _) _ _ _;refine ar (wpAny_tupleItemsOf u z ?_);refine ar ?_;rw[<-Array.forIn_toList,v];refine Dl _
  (λrest (b:Array Int) q=>∃c d,hs=c++d/\rest=d.map (·.1)/\b.toList=c.map (·.2.1)/\q={s with toks:=s.toks+(c.map (·.2.2)).sum})
  _ ?_ ?_ _ _ ⟨[],hs,rfl,rfl,rfl,rfl⟩
 .rintro x rest b q ⟨c,d,rfl,i,m,rfl⟩;cases d with
  |nil=>cases i
  |cons p d=>
   rw[cu]at i;injection i with h1 h2;subst h1 h2;refine ar (y p (by simp) _ _ _ rfl ?_)
   first
    |exact aI ⟨c++[p],d,by simp,rfl,by simp[m],by simp[pF]⟩
    |exact ar (aI (aI ⟨c++[p],d,by simp,rfl,by simp[m],by simp[pF]⟩))
 .rintro b q ⟨c,d,rfl,i,m,rfl⟩;have:d=[]:=by cases d with|nil=>rfl|cons=>cases i
  subst this;rw[f8]at g;show au _ _ (retInt (mB b.toList)) _ _ _;rw[m];refine wpAny_ret_mkInt ?_;show au _ _ (if(decide (-(2:Int)^63<=mB (c.map (·.2.1)))&&decide (mB (c.map (·.2.1))<2^63))=ah then _ else _) Q E _;unfold tI at g;by_cases l:(decide (-(2:Int)^63<=mB (c.map (·.2.1)))&&decide (mB (c.map (·.2.1))<2^63))=ah
  .rw[if_pos l];rw[if_pos l]at g;exact aI (by simpa[pF]using g)
  .rw[if_neg l];rw[if_neg l]at g;exact ar (og (aI (by simpa[pF]using g)))
theorem EH{h:aB}(z:Str)(t:Tok):vB P w A h (.str z t) (mz w z) 1:=λs E Q _ a=>(ju P w).pyHash (s:=s) (k:=z) (by show nU z (.str z t)=ah;simp[nU]) a
def uF(h:aB)(k:Str×List Str)(a:ag):Prop:=∃(b:ag) (t:Tok) (c:Array ai),IsTup h a #[.str k.1 t,.ref b]/\IsTup h b c/\eO c.toList k.2
theorem uF.inj{h:aB}{k d:Str×List Str}{a:ag}(x:uF h k a)(y:uF h d a):k=d:=by obtain⟨b,t,g,l,j,i⟩:=x;obtain⟨q,p,f,m,n,c⟩:=y;have:=congrArg Array.toList (tup_uniq l m);simp at this;obtain⟨⟨o,_⟩,rfl⟩:=this;obtain rfl:=tup_uniq j n;exact Prod.ext o (strs_uniq i c)
theorem Tg{h:aB}{c:List ai}{b:List Str}(x:eO c b):∃hs:List (ai×Int×Nat),c=hs.map (·.1)/\hs.map (·.2.1)=b.map (mz w)/\(hs.map (·.2.2)).sum=b.length/\∀p∈hs,vB P w A h p.1 p.2.1 p.2.2:=by
 induction x with
 |nil=>exact⟨[],rfl,rfl,rfl,λp a=>by simp at a⟩
 |cons z t _ d=>
  obtain⟨hs,j,i,g,f⟩:=d;refine⟨(.str z t,mz w z,1)::hs,by rw[j];rfl,by rw[cu,i];rfl,by simp[g];lia,λp a=>?_⟩;rcases bC.mp a with rfl|a
  .exact EH z t
  .exact f p a
theorem G7{h b:aB}{a d:ag}{x:Array ai}{o:Obj}{es ep}(g:IsTup h a x)(i:h.get? d=aa o)(j:o.data=.dict es ep)(hs:k9 d h b):IsTup b a x:=by
 obtain⟨f,e,c,n,r⟩:=g;have l:a≠d:=by
  rintro rfl;rw[i]at e;cases e;rw[j]at r;cases r
 exact⟨f,(hs.2 a l).trans e,c,n,r⟩
def KS(P:aS)(w:aG):HeapKind P w (Str×List Str) where
 is:=uF
 hash:=EW w
 draws:=λk=>k.2.length+3
 room:=λA=>A.units+4<cLine
 inj:=λx y=>x.inj y
 keeps:=λ⟨b,t,c,l,i,g⟩ F G hs=>⟨b,t,c,G7 l F G hs,G7 i F G hs,g⟩
 pyHash:=λ{A E s k a Q} M x N=>by
  obtain⟨b,t,c,l,i,g⟩:=x;obtain⟨hs,L,K,J,I⟩:=Tg (P:=P) (w:=w) (A:=A.in1.in1) (h:=s.heap) g;have f:vB P w A.in1 s.heap (.ref b) (tI (mB (k.2.map (mz w)))) (k.2.length+1):=by have:=FY (P:=P) (w:=w) (A:=A.in1) (show A.units+1<cLine by lia) i L I;rw[K,J]at this;exact this
  have d:=FY (P:=P) (w:=w) (A:=A) (hs:=[(.str k.1 t,mz w k.1,1),(.ref b,tI (mB (k.2.map (mz w))),k.2.length+1)]) ∅ l rfl λp D=>by
   simp only[bC,i6,or_false]at D;rcases D with rfl|rfl
   .exact EH _ _
   .exact f
  refine d s E Q rfl ?_;have T:([((Value.str k.1 t,mz w k.1,1):ai×Int×Nat),(.ref b,tI (mB (k.2.map (mz w))),k.2.length+1)].map (·.2.2)).sum+1=k.2.length+3:=by simp;lia
  rw[T];exact N
 eqBool:=λ{A E s x y a X Q} M C B q=>by
  by_cases m:a=X
  .subst m;obtain rfl:=C.inj B;rw[decide_eq_true rfl]at q;exact SeqAt.EqAt.same _ _ _ _ _ q
  .obtain⟨b,t,c,l,i,g⟩:=C;obtain⟨b',t',u,O,S,r⟩:=B;have W:decide (x=y)=((dy (min 2 2)).all (λj=>if j=0 then x.1 == y.1 else decide (x.2=y.2))&&2 == 2):=by obtain⟨x1,x2⟩:=x;obtain⟨Z,Y⟩:=y;rw[lM];simp[tW]
   rw[W]at q;refine SeqAt.EqAt.of_refs m (.tuples l O ∅ λj H j2=>?_) _ _ _ _ q
   match j,H with
   |0,_=>exact Jd _ _ _ _
   |1,_=>exact eq_strs (show A.units+1<cLine by lia) i g S r
 quiet:=λ⟨b,t,c,l,i,g⟩ q=>by
  refine quiet_tup (n:=7) l (λv o E Q q=>?_) q;simp only[bC,i6,or_false]at o;rcases o with rfl|rfl
  .exact zC (by unfold wf;rfl) q
  .refine quiet_tup (n:=6) i (λv o E Q q=>?_) q;obtain⟨z,t,rfl⟩:=strs_mem_shape g v o;exact zC (by unfold wf;rfl) q
abbrev KN(H:Hp):List ((Str×List Str)×V)->List ((Str×List Str)×ag×ai)->Prop:=kC λp q=>p.1=q.1/\qb H p.1 q.2.1/\RelV p.2 q.2.2
theorem KN.val{H:Hp}{a:List ((Str×List Str)×V)}{xs:List ((Str×List Str)×ag×ai)}(r:KN H a xs)(k:Str×List Str):nQ (fV a k) ((atKey xs k).map (·.2)):=by
 induction r with
 |nil=>exact True.intro
 |@cons p q ps qs h t ih=>
  obtain⟨b,_,c⟩:=h;by_cases e:p.1=k
  .rw[sU e,show atKey (q::qs) k=aa q.2 by simp[atKey,iZ,b.symm.trans e]];exact c
  .have d:¬q.1=k:=λz=>e (b.trans z);rw[sI e,show atKey (q::qs) k=atKey qs k by simp[atKey,iZ,d]];exact ih
theorem FQ:∀{ks:List Str}{a:List ai},bt (ks.map V.str) a->eO a ks
 |[],_,r=>by rw[vX]at r;cases r;exact .nil
 |k::ks,_,r=>by
  rw[cu]at r;cases r with
  |cons h t=>obtain⟨b,rfl⟩:=h;exact .cons _ _ (FQ t)
theorem xV{H:Hp}{h:aB}{k:Str×List Str}{a:ag}(ok:dz P w H h)(e:qb H k a):uF h k a:=by
 obtain⟨b,n,m⟩:=e;obtain⟨_,o,c,f,_⟩:=ok a _ n;obtain⟨_,i,g,d,_⟩:=ok b _ m;cases c with
 |cons l c=>cases c with
  |cons j c=>
   cases c;obtain⟨t,rfl⟩:=l;cases (show _=Value.ref b from j);exact⟨b,t,i.toArray,f,d,by simpa using FQ g⟩
theorem B4{H:Hp}{h:aB}{a:ag}{b:List ((Str×List Str)×V)}(ok:dz P w H h)(e:H a=aa (.dN b)):b.length<=bd/\(a == j8)=aj/\∃xs,KN H b xs/\h.DictOfH (KS P w) a xs:=by
 obtain⟨z,y,xs,r,o,n,u,j,i,g,f,d⟩:=ok a _ e;refine⟨z,y,xs,r,o,n,u,j,i,g,f,λx c=>?_,d⟩;have all:∀{l:List ((Str×List Str)×V)}{m:List ((Str×List Str)×ag×ai)},KN H l m->∀x∈m,uF h x.1 x.2.1:=by
  intro l m q
  induction q with
  |nil=>intro x c;exact nomatch c
  |@cons p q ps qs hq t ih=>
   intro x c;rcases bC.mp c with e|c
   .subst e;exact xV ok (by rw[<-hq.1];exact hq.2.1)
   .exact ih x c
 exact all r x c
end
def Qy(g ty:TE):TE:=λf H Q=>g f H λx h=>ty f h λy d=>∃a b c k v,x=.ref a/\y=.ref b/\d a=aa (.dN c)/\qb d k b/\fV c k=aa v/\Q v d
def Nv(d:Bool)(ty h:TE):TE:=λg H Q=>ty g H λy i=>h g i λx f=>∃a b c k,x=.ref a/\y=.ref b/\f a=aa (.dN c)/\qb f k b/\Q (.bl (d^^(fV c k).isSome)) f
def MQ(h ty g:TE):TS:=λD d H=>g d H λv j=>h d j λx i=>ty d i λy f=>∃a b c k,x=.ref a/\y=.ref b/\f a=aa (.dN c)/\qb f k b/\fV c k=ae/\c.length<bd/\D.nx d (upd f a (.dN (c++[(k,v)])))
section
variable{X:Cx}{o i e d:az}{f g n:Pos}{l j m:TE}
theorem MO(hu:X.A.units+8<cLine)(O:PE X o l)(S:PE X i j)(M:u5 i):PE X (.Subscript o i f) (Qy l j):=by intro A s t H Q I h;refine Ie PySem.F.slot_dict_getitem.lookup M (aM (O A s t H _ I h) λu B ⟨x,H1,Z,D,F⟩=>aM (S A B t H1 _ Z F) λJ s2 ζ=>?_);obtain⟨y,H2,r,C,a,b,G,k,v,Y,W,e,P,L,E⟩:=ζ;subst Y W;obtain rfl:u=Value.ref a:=D;obtain rfl:J=Value.ref b:=C;obtain⟨z,hd,xs,q,w⟩:=B4 r.hok e;obtain⟨w',K,c⟩:=nQ.some_of (v:=v) (o:=(atKey xs k).map (·.2)) (by rw[<-L];exact q.val k);obtain⟨p,N,T⟩:=mF.mp K;refine⟨w.typeIs,wpAny_getItem_heap (show X.A.in1.units+4<cLine from(show X.A.units+1+4<cLine by lia)) (xV r.hok P) w N ?_⟩;rw[T];exact⟨v,H2,r.tok _,c,E⟩
theorem N2(W:X.A.units+8<cLine)(J:PE X i j)(F:PE X o l):PC X .NotIn i o (Nv ah j l):=by intro w s t H Q I h;refine aM (J w s t H _ I h) λE A ⟨y,S,O,B,D⟩=>aM (F w A t S _ O D) λu T ζ=>?_;obtain⟨x,P,r,C,a,b,p,k,M,L,e,G,v⟩:=ζ;subst M L;obtain rfl:u=Value.ref a:=C;obtain rfl:E=Value.ref b:=B;obtain⟨z,K,xs,c,N⟩:=B4 r.hok e;refine wpAny_notIn_heap (show X.A.in1.units+4<cLine from(show X.A.units+1+4<cLine by lia)) (xV r.hok G) K N ?_;have q:=(c.val k).isSome_eq;rw[vY]at q;rw[<-q];rw[t_]at v;exact⟨.bl (!(fV p k).isSome),P,r.tok _,rfl,v⟩
theorem SU(hu:X.A.units+8<cLine)(ho:PE X o l)(hi:PE X i j)(hv:PE X d m)(G:kD d (aa (.Subscript o i g)) f.line X.env=pure aj):PS X (.Assign [.Subscript o i g] d f) (MQ l j m):=by
 intro L s C H D I h;refine wpAny_Assign_Subscript (aM (hv L s C H _ I h) λr T ⟨v,H1,I1,Z,q1⟩=>aM (ho L T C H1 _ I1 q1) λu S ⟨x,H2,I2,Y,q2⟩=>aM (hi L S C H2 _ I2 q2) λiv s3 ⟨y,N,M,W,a,b,w,k,ex,ey,e,P,hn,hl,q3⟩=>?_) G;subst ex ey;obtain rfl:u=Value.ref a:=Y;obtain rfl:iv=Value.ref b:=W;obtain⟨z,hd,xs,t,dd⟩:=B4 M.hok e;have hz:xs.length<=bd:=by rw[<-CF t];exact z
 refine wpAny_setItem_heap (hsz:=hz) (show X.A.in1.units+4<cLine from(show X.A.units+1+4<cLine by lia)) (xV M.hok P) dd λh' B G=>?_;have rK:atKey xs k=ae:=by have q:=(t.val k).isSome_eq;rw[hn,vY]at q;simpa using q.symm
 rw[storedH_new rK]at B;obtain⟨q,es,ep,O,A,h3,h4,_,h5⟩:=B;refine⟨C,upd N a (.dN (w++[(k,v)])),xD (ob:=.dN (w++[(k,v)])) M (by rw[e];exact True.intro) G ⟨q,O⟩ ⟨by rw[cQ];exact hl,hd,xs++[(k,b,r)],?_,q,es,ep,O,A,h3,h4,h5⟩,q3⟩;have E:∀{c:ag}{F:List V},N c=aa (.tup F)->upd N a (.dN (w++[(k,v)])) c=aa (.tup F):=λ{c F} Q=>by rw[br (Em Q e (λz=>nomatch z))];exact Q
 refine zu (Paired.mapP t λp q z=>⟨z.1,?_,z.2.2⟩) ⟨rfl,?_,Z⟩
 .obtain⟨K,J,A⟩:=z.2.1;exact⟨K,E J,E A⟩
 .obtain⟨K,J,A⟩:=P;exact⟨K,E J,E A⟩
def NM:TE:=λ_ H Q=>∀p,H p=ae->Q (.ref p) (upd H p (.dN []))
theorem Mp{P:aS}{w:aG}{H:Hp}(h:aB)(a:j8<h.objs.size):cz P w H (h.push {cls:=.type "dict",data:=.dict #[]}) h.objs.size (.dN []):=by
 obtain⟨z,y,xs,r,o,s,t,q,p,c,b,u⟩:=Pf (P:=P) (w:=w) (H:=H) h a;cases r;exact⟨z,y,[],.nil,o,s,t,q,p,c,b,.nil⟩
theorem Kd:PE X (.Dict [] [] f) NM:=λc s b H Q I h=>wpAny_Dict_empty ⟨.ref s.heap.objs.size,_,I.laid (a:=s.heap.objs.size) (o:=.dN []) (t':=s.toks) (λ_ _ q=>bu _ q) (a9 _) (Mp s.heap I.big),rfl,h _ (I.hok.fresh (a9 _))⟩
end
end L2
namespace Pu
open L2
def valN(a:List ((Tx×List Tx)×PV))(k:Tx×List Tx):Option PV:=(a.find? λb=>decide (b.1=k)).map (·.2)
def ng:PV->Option (Tx×List Tx)
 |.tup [.str t,.tup xs]=>(e_ xs).map λa=>(t,a)
 |_=>ae
theorem NQ{x y:Tx×List Tx}(h:nS x=nS y):x=y:=by have d:=congrArg Prod.fst h;have c:=congrArg Prod.snd h;refine Prod.ext (qi d) ?_;exact(List.map_inj_right λa b e=>qi e).mp c
section
variable{K:ay}{F:ag->Prop}{S:Nat->ag->Prop}{ε:ak}{g:St}{H:Hp}{i:Nat}{d:List ((Tx×List Tx)×PV)}{f:List ((Str×List Str)×V)}{a:ag}
theorem Bo{x:PV}{v:V}{k:Tx×List Tx}(r:a_ K H F x v)(e:ng x=aa k):∃b,v=.ref b/\qb H (nS k) b:=by
 unfold ng at e;split at e
 .rename_i t xs;obtain⟨j,q,rfl⟩:=mF.mp e;obtain rfl:=pU q;obtain⟨b,s,rfl,n,h⟩:=r;obtain⟨w,A,rfl,p,h⟩:=h;obtain⟨u,z,rfl,o,h⟩:=h;cases h;obtain⟨c,y,rfl,m,l⟩:=o;obtain⟨rfl,_⟩:=UV.mp l;refine⟨b,rfl,c,?_,?_⟩
  .rw[n,p.1];rfl
  .rw[m];show aa (HO.tup (cO j))=aa (HO.tup ((j.map tS).map V.str));rw[dI];rfl
 .cases e
theorem mv.len(h:mv K H F d f):f.length=d.length:=by
 unfold mv at h
 induction h with
 |nil=>rfl
 |cons _ _ b=>simp[b]
theorem mv.val(h:mv K H F d f)(k:Tx×List Tx):(∃x v,valN d k=aa x/\fV f (nS k)=aa v/\a_ K H F x v)\/(valN d k=ae/\fV f (nS k)=ae):=by
 unfold mv at h
 induction h with
 |nil=>exact .inr ⟨rfl,rfl⟩
 |@cons p q ps qs r _ ih=>
  by_cases e:p.1=k
  .refine .inl ⟨p.2,q.2,by simp[valN,iZ,e],?_,r.2⟩;rw[sU (by rw[<-r.1,e])]
  .have b:¬q.1=nS k:=by rw[<-r.1];exact λz=>e (NQ z)
   rw[sI b];have:valN (p::ps) k=valN ps k:=by simp[valN,iZ,e]
   rw[this];exact ih
theorem aZ.dnAt(r:aZ K F S ε g H)(e:ε[i]?=aa (.own (.dN d))):∃a f,g[i]?=aa (aa (.ref a))/\H a=aa (.dN f)/\mv K H F d f/\S i a/\∀b,S i b->b=a:=by obtain⟨a,n,⟨j,m,l⟩,c⟩:=r.own i _ e;exact⟨a,j,n,m,l,(c a).mpr rfl,λb h=>(c b).mp h⟩
end
def jm(b:ak)(i:Nat):Option (List ((Tx×List Tx)×PV)):=match b[i]? with
 |some (.own (.dN a))=>aa a
 |_=>ae
theorem sv{b:ak}{i:Nat}{a:List ((Tx×List Tx)×PV)}(h:jm b i=aa a):b[i]?=aa (.own (.dN a)):=by
 unfold jm at h;split at h
 .cases h;assumption
 .cases h
section
variable{X:Cx}{E:XK}{pin:List Nat}{e b c:az}{de d g:ak->R PV}{f:Pos}
def vH(i:Nat)(d:ak->R PV):ak->R PV:=λa=>(aE (jm a i) a).bind λ_ a=>(d a).bind λk ε1=>(aE (jm ε1 i) ε1).bind λh ε1=>aE ((ng k).bind λk=>valN h k) ε1
theorem Tn(i:Nat){y:Str}{B:Pos}(hu:X.A.units+64<cLine)(N:DE X E b d)(P:X.N[i]?=aa y:=by rfl)(T:eD X.env.scope y:=by first|exact Or.inl rfl|exact Or.inr (Or.inl rfl)|exact Or.inr (Or.inr rfl))(M:(y==("__debug__":Str))=aj:=by decide) (W:(y==("__classdict__":Str))=aj:=by decide) (K:u5 b:=by exact λ_ _=>rfl):DE X E (.Subscript (.Name y B) b f) (vH i d):=λF S p A H Q r h=>by
 unfold vH at h;cases o:jm p i with
 |none=>rw[o]at h;exact h.elim
 |some w=>
  rw[o]at h;simp only[cg,R.bind_ok]at h;obtain⟨a,C,z,_⟩:=r.dnAt (sv o);refine b7 (MO ∅ (fE P T M W) bI K) ⟨.ref a,z,N F S p A H _ r ((Ok.bind h).imp λk l F1 Z H1 s g1 q u G=>?_)⟩;cases n:jm l i with
  |none=>rw[n]at q;exact q.elim
  |some J=>
   rw[n]at q;simp only[cg,R.bind_ok]at q;obtain⟨a',D,j,O,L,_⟩:=s.dnAt (sv n);rw[z]at j;cases j;cases m:ng k with
   |none=>rw[m]at q;exact q.elim
   |some t=>
    rw[m,gG]at q;obtain⟨Y,rfl,I⟩:=Bo G m;rcases L.val t with⟨x,v,h1,h2,h3⟩|⟨h1,h2⟩
    .rw[h1]at q;exact⟨a,Y,D,nS t,v,rfl,rfl,O,I,h2,q F1 Z H1 s (bD.refl ..) v h3⟩
    .rw[h1]at q;exact q.elim
def vr(i:Nat)(d de:ak->R PV):ak->R aK:=λj=>(de j).bind λy ε1=>(aE (jm ε1 i) ε1).bind λ_ ε1=>(d ε1).bind λk a=>(aE (jm a i) a).bind λh a=>(aE (ng k) a).bind λk a=>if h.length<bE/\(valN h k).isNone=ah then .ok .next (a.set i (.own (.dN (h++[(k,y)]))))else .no
theorem Rh(i:Nat){y:Str}{L l:Pos}(hu:X.A.units+64<cLine)(hb:DE X E b d)(he:DE X E e de)(hN:X.N[i]?=aa y:=by rfl)(d8:eD X.env.scope y:=by first|exact Or.inl rfl|exact Or.inr (Or.inl rfl)|exact Or.inr (Or.inr rfl))(hd:(y==("__debug__":Str))=aj:=by decide) (bv:(y==("__classdict__":Str))=aj:=by decide) (hs:kD e (aa (.Subscript (.Name y L) b l)) f.line X.env=pure aj:=by rfl):DS X E pin (.Assign [.Subscript (.Name y L) b l] e f) (vr i d de):=λF S Q t H D rl h=>by
 refine jh (SU ∅ (fE hN d8 hd bv) bI bI hs) (he F S Q t H _ rl (h.bindE.imp λy n F1 S1 H1 z g1 q v Y=>?_));cases K:jm n i with
 |none=>rw[K]at q;exact q.elim
 |some N=>
  rw[K]at q;simp only[cg,R.bind_ok]at q;obtain⟨a,T,I,ha0,_⟩:=z.dnAt (sv K);refine⟨.ref a,I,hb F1 S1 n t H1 _ z (q.bindE.imp λk w P S2 H2 M g2 j u Z=>?_)⟩;cases s:jm w i with
  |none=>rw[s]at j;exact j.elim
  |some o=>
   rw[s]at j;simp only[cg,R.bind_ok]at j;obtain⟨a',r,p,ha,B,_⟩:=M.dnAt (sv s);rw[I]at p;cases p;cases J:ng k with
   |none=>rw[J]at j;exact j.elim
   |some m=>
    rw[J]at j;simp only[cg,R.bind_ok]at j;split at j
    .rename_i A;obtain⟨A,O⟩:=A;obtain⟨bb,rfl,rF⟩:=Bo Z J;have W:fV r (nS m)=ae:=by
      rcases B.val m with⟨x,v,h1,h2,h3⟩|⟨h1,h2⟩
      .rw[h1]at O;cases O
      .exact h2
     have cK:mv X.K H2 P (o++[(m,y)]) (r++[(nS m,v)]):=zu B ⟨rfl,Y.grow g2 z.fit⟩;obtain⟨r3,g3⟩:=M.updO (po':=.dN (o++[(m,y)])) (o':=.dN (r++[(nS m,v)])) (sv s) rfl I trivial λH' m1 m2 G Sa C=>⟨⟨_,G,cK.mono m1⟩,C⟩
     exact⟨a,bb,r,nS m,rfl,rfl,ha,rF,W,by rw[B.len];exact fY A kq,j P S2 t _ r3 g3 (jz.refl _ _)⟩
    .exact j.elim
def BR:ak->R PO:=λa=>.ok (.dN []) a
theorem Ug:DN X E (.Dict [] [] f) BR:=λF S m l H Q i h=>b7 Kd λp a=>by
 have al:Al F F H (upd H p (.dN [])):=Al.new0 a;refine h F S _ (i.al al) al.grow p (λb=>b=p) ⟨⟨[],upd_same,.nil⟩,λb=>rh⟩ λb z=>?_;subst z;refine⟨a,λz=>?_,λ⟨j,z⟩=>?_,_,upd_same,trivial⟩
 .obtain⟨o,q⟩:=i.ex b z;rw[a]at q;cases q
 .obtain⟨_,_,o,q,_⟩:=i.foot j b z;rw[a]at q;cases q
def qM(a:Bool)(i:Nat)(d:ak->R PV):ak->R PV:=λj=>(d j).bind λk ε1=>(aE (jm ε1 i) ε1).bind λh ε1=>aE ((ng k).map λk=>.bl (a^^(valN h k).isSome)) ε1
theorem KO(i:Nat){y:Str}{o:Pos}(Z:X.A.units+64<cLine)(M:DE X E b d)(O:X.N[i]?=aa y:=by rfl)(T:eD X.env.scope y:=by first|exact Or.inl rfl|exact Or.inr (Or.inl rfl)|exact Or.inr (Or.inr rfl))(L:(y==("__debug__":Str))=aj:=by decide) (W:(y==("__classdict__":Str))=aj:=by decide) (J:nX .NotIn (.Name y o)=aj:=by rfl):DT X E (.Compare b [.NotIn] [.Name y o] f) (dB (qM ah i d)):=λF S A z H Q D h=>by
 refine qI (yW (N2 ∅ bI (fE O T L W)) J) ?_;have r:=pX h;unfold qM at r;refine M F S A z H _ D ((Ok.bind r).imp λk j w s t l g1 q u C=>?_);cases n:jm j i with
 |none=>rw[n]at q;exact q.elim
 |some I=>
  rw[n]at q;simp only[cg,R.bind_ok]at q;obtain⟨a,B,P,N,K,_⟩:=l.dnAt (sv n);cases m:ng k with
  |none=>rw[m]at q;exact q.elim
  |some p=>
   rw[m,pE]at q;obtain⟨Y,rfl,G⟩:=Bo C m;refine⟨.ref a,P,a,Y,B,nS p,rfl,rfl,N,G,?_⟩;rcases K.val p with⟨x,v,h1,h2,h3⟩|⟨h1,h2⟩
   .rw[h1]at q;rw[h2];exact q w s t l (bD.refl ..) _ rfl
   .rw[h1]at q;rw[h2];exact q w s t l (bD.refl ..) _ rfl
end
end Pu
namespace L2
open Mx SeqAt
def eZ(x:Int)(y:Str)(a:Int)(b:Str):Bool:=if x=a then decide (y.cps.toList<b.cps.toList)else decide (x<a)
theorem NJ(l b:ag)(x a:Int)(y c:Str)(t u B z:Tok)(n K:Nat)(O I:Option ag)(J D:Array (Option ai)):Meets (Builtin.«tuple.__lt__» ⟨[.ref l,.ref b],[]⟩) (λ_ R s=>s.heap.get? l=aa {cls:=.type "tuple",dict:=O,data:=.seq #[.int x t,.str y u] n,slots:=J}/\s.heap.get? b=aa {cls:=.type "tuple",dict:=I,data:=.seq #[.int a B,.str c z] K,slots:=D} /\ R (.ok (.ret (.bool (eZ x y a c)))) s) :=
 .of_wp λprog w A R s h=>by
  obtain⟨r,g,d,j,m⟩:=s;obtain⟨M,N,h⟩:=h;have f2:=AutoSeq1.sub_tuple_tuple
  wp_walk using zt M,zt N,Dl _ (λrest b F=>b.1=ae/\F=⟨r,g,d,j,m⟩/\(rest=[((Value.int x t:ai),(Value.int a B:ai)),(.str y u,.str c z)] \/ x=a/\rest=[((Value.str y u:ai),(Value.str c z:ai))]\/x=a/\y=c/\rest=[])) _
  case turn=>
   rintro⟨p,q⟩ rest b F ⟨G,rfl,f|⟨C,f⟩|⟨_,_,f⟩⟩
   .cases f;refine ar (EqAt.int_int x t a B prog w _ _ ?_);by_cases e:x=a
    .subst e;rw[beq_self_eq_true]
     wp_walk
     exact⟨rfl,rfl,.inr (.inl ⟨rfl,rfl⟩)⟩
    .rw[beq_false_of_ne e];have H:R (.ok (.ret (.bool (decide (x<a))))) ⟨r,g,d,j,m⟩:=by unfold eZ at h;rwa[if_neg e]at h
     have o:∀(E:ai->am->Prop) (Q:ai->am->Prop),Q (.bool (decide (x<a))) ⟨r,g,d,j,m⟩->au (ax prog w) A.in1 (richCompare .Lt (.int x t) (.int a B)) Q E ⟨r,g,d,j,m⟩:=λE Q h=>CmpOf.ints_lt (prog:=prog) (w:=w) (A:=A.in1) (P:=λi v=>∃t,v=.int (if i=0 then x else a) t) (λi=>if i=0 then x else a) (λi v h=>h) 0 1 _ _ _ _ _ ⟨t,rfl⟩ ⟨B,rfl⟩ (by simpa using h)
     wp_walk using o
     exact⟨_,rfl,by simpa using H⟩
   .cases f;subst C;refine ar (EqAt.str_str y u c z prog w _ _ ?_);by_cases e:y=c
    .subst e;rw[beq_self_eq_true]
     wp_walk
     exact⟨rfl,rfl,.inr (.inr ⟨rfl,rfl,rfl⟩)⟩
    .rw[beq_false_of_ne e];have H:R (.ok (.ret (.bool (decide (y.cps.toList<c.cps.toList))))) ⟨r,g,d,j,m⟩:=by unfold eZ at h;rwa[if_pos rfl]at h
     have o:∀(E:ai->am->Prop) (Q:ai->am->Prop),Q (.bool (decide (y.cps.toList<c.cps.toList))) ⟨r,g,d,j,m⟩->au (ax prog w) A.in1 (richCompare .Lt (.str y u) (.str c z)) Q E ⟨r,g,d,j,m⟩:=λE Q h=>(PyProof.Rows.lt_str h:au (ax prog w) A.in1 (eJ .Lt (.str y u) (.str c z)) Q E _)
     wp_walk using o
     exact⟨_,rfl,by simpa using H⟩
   .cases f
  case fin=>
   rintro⟨b1,b2⟩ F ⟨G,rfl,f|⟨C,f⟩|⟨C,hy,_⟩⟩
   .cases f
   .cases f
   .simp only at G;subst G C hy;have L:eZ x y x y=aj:=by unfold eZ;rw[if_pos rfl];exact decide_eq_false (zO _)
    rw[L]at h
    wp_walk
    exact⟨_,rfl,by simpa[Builtin.Tuple.tupleCompareSizes]using h⟩
  case h=>exact⟨rfl,rfl,.inl rfl⟩
def qg(h:aB)(k:Int×Str)(v:ai):Prop:=∃a t u,v=.ref a/\IsTup h a #[.int k.1 t,.str k.2 u]
section
variable{P:aS}{w:aG}{A:aV}{E:ai->am->Prop}{s:am}
theorem Tp{k a:Int×Str}{v g:ai}{Q:ai->am->Prop}(G:qg s.heap k v)(z:qg s.heap a g)(H:A.units<cLine)(h:Q (.bool (eZ k.1 k.2 a.1 a.2)) s):au (ax P w) A (richCompare .Lt v g) Q E s:=by
 obtain⟨l,t,u,rfl,I⟩:=G;obtain⟨b,C,B,rfl,J⟩:=z;obtain⟨⟨L,K,r,D⟩,o,q,n,p⟩:=id I;obtain⟨⟨y,d,f,c⟩,m,j,F,i⟩:=id J;simp only at q p j i;subst q p j i;exact richCompare_meets_room (op:=.Lt) ⟨_,o,rfl⟩ ⟨_,m,rfl⟩ PySem.F.slot_tuple_lt PySem.F.entry_tuple_lt (PySem.F.args_tuple_lt_2 _ _) (NJ l b k.1 a.1 k.2 a.2 t u C B n F K d D c)
  ⟨o,m,show Value.bool (eZ k.1 k.2 a.1 a.2)≠Value.notImplemented/\Q (.bool (eZ k.1 k.2 a.1 a.2)) s from⟨(λx=>nomatch x),h⟩⟩ H
theorem qg.keep{h c:aB}{k:Int×Str}{v:ai}(x:qg h k v)(g:∀b o,h.get? b=aa o->o.cls=.type "tuple"->c.get? b=aa o):qg c k v:=by obtain⟨a,t,u,rfl,d⟩:=x;exact⟨a,t,u,rfl,tup_kept d g⟩
theorem LM{a b c:Int×Str}(f:eZ a.1 a.2 b.1 b.2=ah)(d:eZ b.1 b.2 c.1 c.2=ah):eZ a.1 a.2 c.1 c.2=ah:=by
 unfold eZ at *;split at f <;> split at d <;> split <;> simp only[decide_eq_true_iff]at * <;> first|lia|skip
 exact List.lt_trans f d
variable{q l I S:ag}{vs:List ai}{kf:Nat->Int×Str}{R:Result->am->Prop}{Q:ai->am->Prop}
def E7(P:aS)(w:aG)(A:aV)(s:am)(q:ag)(vs:List ai)(kf:Nat->Int×Str):Prop:=∀(i:Nat) (v:ai),vs[i]?=aa v->∀(h:aB) (d:Nat),(∀b o,s.heap.get? b=aa o->h.get? b=aa o) ->
 au (ax P w) A.in1 (call (.ref q) [v]) (λu f=>∃c a,f={s with heap:=c,toks:=a}/\(∀b o,h.get? b=aa o->c.get? b=aa o)/\qg c (kf i) u) (λ_ _=>False) {s with heap:=h,toks:=d}
theorem Hq{a:Array ai}{c:Nat}{p:Prop}(h:(fz "list" a c).cls=.type "tuple"):p:=absurd h (by show ¬(_:ai)=_;simp[fz])
structure LG(s:am)(l I S:ag)(vs:List ai)(kf:Nat->Int×Str)(j i:Nat)(h:aB):Prop where
 keep:∀b o,s.heap.get? b=aa o->h.get? b=aa o
 it:h.IsListIter I l (j+1)
 st:∃vb kb c,h.get? S=aa (fz "list" #[vb,kb] c)/\vs[i]?=aa vb/\qg h (kf i) kb
 ij:i<=j
 best:∀j',j'<=j->eZ (kf j').1 (kf j').2 (kf i).1 (kf i).2=aj
theorem K9(hh:A.handled=ae)(hu:A.units+4<cLine)(hl:s.heap.IsList l vs.toArray)(fI:s.heap.get? I=ae)(fS:s.heap.get? S=ae)(N:S≠I)(n:E7 P w A s q vs kf)(hR:∀i v K t,vs[i]?=aa v->(∀j,j<vs.length->eZ (kf j).1 (kf j).2 (kf i).1 (kf i).2=aj)->(∀b o,s.heap.get? b=aa o->K.get? b=aa o)->R (.ok (.ret v)) {s with heap:=K,toks:=t}):∀(r j i:Nat) (h:aB) (Y:Nat),vs.length-(j+1)=r->j+1<=vs.length->LG s l I S vs kf j i h->lO (ax P w) A (.builtin "min.loop" ⟨[.ref I,.ref q,.ref S],[]⟩) R {s with heap:=h,toks:=Y}:=by
 have wu:(toString "min"++toString ".loop" : String) = "min.loop":=by decide
 have hlI:l≠I:=λz=>by obtain⟨o,e,_⟩:=hl;rw[z,fI]at e;cases e
 have ui:l≠S:=λz=>by obtain⟨o,e,_⟩:=hl;rw[z,fS]at e;cases e
 have W:=Walks.list (prog:=P) (w:=w) (A:=A.in1) hh I l hlI vs.toArray;have y:vs.toArray.size=vs.length:=cr ..;have lk:∀{h:aB},(∀b o,s.heap.get? b=aa o->h.get? b=aa o)->h.IsList l vs.toArray:=λk=>by obtain⟨o,e,r⟩:=hl;exact⟨o,k _ _ e,r⟩
 intro r
 induction r with
 |zero=>
  intro j i h Y hr hj M;obtain⟨O,kb,c,H,m,F⟩:=M.st;refine oh JH ?_;rw[re ub _];refine ar (zH H rfl ?_);refine ar (wg (W.done _ _ _ ⟨by rw[y,show vs.length=j+1 by lia];exact M.it,lk M.keep⟩ λK t mU=>?_));have x:=q_ K S (iF λ_=>(#[]:Array ai));refine ar ?_;refine wpAny_updateSeq (mU S _ (by simpa using N) H) rfl (ar (Dm (aI ?_)));refine hR i O _ _ m (λf jX=>M.best f ∅) λb o e=>?_;have nb:b≠I:=λz=>by rw[z,fI]at e;cases e
  have Z:b≠S:=λz=>by rw[z,fS]at e;cases e
  exact(x.2 b Z).trans (mU b o (by simpa using nb) (M.keep b o e))
 |succ r ih=>
  intro j i h Y hr hj M;obtain⟨O,kb,c,H,m,F⟩:=M.st;have bg:j+1<vs.length:=∅
  refine oh JH ?_;rw[re ub _];refine ar (zH H rfl ?_);refine ar (wg (W.item (j+1) _ _ _ (by rw[y];exact bg) ⟨M.it,lk M.keep⟩ λv h1 X hP cZ gJ=>?_));have hv:vs[j+1]?=aa v:=by simpa using hP
  obtain⟨oI,eI,rD,C⟩:=id cZ.1;have d:∀b o,s.heap.get? b=aa o->h1.get? b=aa o:=λb o e=>gJ b o (by intro z;rw[fu.mp z,fI]at e;cases e) (M.keep b o e);refine ar (wg (js (eG (n (j+1) v hv h1 X d) (λu s2 he=>?_) λ_ _ hF=>hF.elim)));obtain⟨G,T,rfl,L,D⟩:=he;have p:∀b o,h.get? b=aa o->o.cls=.type "tuple"->G.get? b=aa o:=λb o e ht=>L b o (gJ b o (by
   intro z;rw[fu.mp z]at e;obtain⟨o',e',c',_⟩:=M.it;rw[e]at e';cases e';rw[ht]at c';simp at c') e)
  have J3:=F.keep p;have a:∀b o,s.heap.get? b=aa o->G.get? b=aa o:=λb o e=>L b o (d b o e);have g:=L S _ (gJ S _ (by simpa using N) H);have J:=L I _ eI;refine ar (wg (js (ar (Tp (s:={s with heap:=G,toks:=T}) (A:=A.in1) D J3 (show A.units+1<cLine by lia) ?_))));refine ar (js (nY ?_));refine ar (Dm (aI ?_));by_cases lZ:eZ (kf (j+1)).1 (kf (j+1)).2 (kf i).1 (kf i).2=ah
  .have x:=q_ G S (iF λ_=>#[v,u]);obtain⟨c2,kh⟩:∃c2,(G.update S (iF λ_=>#[v,u])).get? S=aa (fz "list" #[v,u] c2):=⟨_,zK g λ_=>#[v,u]⟩
   simp only[lZ,if_true];refine ar ?_;refine wpAny_updateSeq g rfl (ar (Dm ?_));rw[wu];refine aI ⟨rg ub _,ih (j+1) (j+1) _ _ ∅ bg ⟨λb o e=>?_,⟨oI,(x.2 I N.symm).trans J,rD,C⟩,⟨v,u,c2,kh,hv,?_⟩,a9 _,λf jX=>?_⟩⟩
   .exact(x.2 b (λz=>by rw[z,fS]at e;cases e)).trans (a b o e)
   .refine D.keep λb o e ht=>(x.2 b ?_).trans e;rintro rfl;rw[g]at e;cases e;exact Hq ht
   .by_cases e:f=j+1
    .subst e;cases B:eZ (kf (j+1)).1 (kf (j+1)).2 (kf (j+1)).1 (kf (j+1)).2 with
     |false=>rfl
     |true=>unfold eZ at B;rw[if_pos rfl,decide_eq_true_iff]at B;exact absurd B (zO _)
    .cases B:eZ (kf f).1 (kf f).2 (kf (j+1)).1 (kf (j+1)).2 with
     |false=>rfl
     |true=>have:=LM B lZ;rw[M.best f ∅]at this;cases this
  .have pN:eZ (kf (j+1)).1 (kf (j+1)).2 (kf i).1 (kf i).2=aj:=by simpa using lZ
   simp only[pN,mI,if_false];refine ar (Dm ?_);rw[wu];refine aI ⟨rg ub _,ih (j+1) i _ _ ∅ bg ⟨a,⟨oI,J,rD,C⟩,⟨O,kb,c,g,m,J3⟩,by have:=M.ij;lia,λf jX=>?_⟩⟩;by_cases e:f=j+1
   .subst e;exact pN
   .exact M.best f ∅
theorem NW(T:A.handled=ae)(hu:A.units+4<cLine)(g:s.heap.IsList l vs.toArray)(bX:0<vs.length)(c:E7 P w A s q vs kf)(hQ:∀i v Z p,vs[i]?=aa v->(∀j,j<vs.length->eZ (kf j).1 (kf j).2 (kf i).1 (kf i).2=aj)->(∀b o,s.heap.get? b=aa o->Z.get? b=aa o)->Q v {s with heap:=Z,toks:=p}):au (ax P w) A (call (.builtin "min") [.ref l] [(vU "key",.ref q)]) Q E s:=by
 have M:(toString "min"++toString ".loop" : String) = "min.loop":=by decide
 refine kmk_tree PySem.F.kind_min PySem.F.plain_min PySem.F.entry_min (kmk_min_key _ _) ?_;refine ar (zC (show Builtin.Builtins.bindParams "min" ["key","default"] 0 ⟨[],[(vU "key",.ref q)]⟩=pure [aa (.ref q),ae] from rfl) ?_);refine ar (aI ?_);refine ar (C4 g ?_);refine ar (wpAny_newList ?_ (jO _));rw[M];generalize h:s.heap.objs.size=I;generalize H:s.heap.push {cls:=.type "list_iterator",data:=.fields #[.ref l,.int 0 0]}=g1;have G:g1.get? I=aa {cls:=.type "list_iterator",data:=.fields #[.ref l,.int 0 0]}:=by rw[<-H,<-h];exact cI _ rfl
 have F:∀b o,s.heap.get? b=aa o->g1.get? b=aa o:=λb o e=>by rw[<-H];exact bu _ e
 have d:g1.objs.size=I+1:=by rw[<-H,<-h];exact kc ..
 generalize hS:g1.objs.size=S at d;have J:s.heap.get? I=ae:=vQ (by rw[<-h];exact a9 _);have fS:s.heap.get? S=ae:=vQ (by rw[h,d];exact v7 _);have m:S≠I:=by rw[d];exact Nat.succ_ne_self _
 refine aI ⟨rg ub _,?_⟩;have N:∀b o,s.heap.get? b=aa o->(g1.push (fz "list" #[] 0)).get? b=aa o:=λb o e=>bu _ (F b o e);have gS:(g1.push (fz "list" #[] 0)).get? S=aa (fz "list" #[] 0):=by rw[<-hS];exact cI _ rfl
 have gI:(g1.push (fz "list" #[] 0)).get? I=aa {cls:=.type "list_iterator",data:=.fields #[.ref l,.int 0 0]}:=bu _ G;have C:l≠I:=λz=>by obtain⟨o,e,_⟩:=g;rw[z,J]at e;cases e
 have W:=Walks.list (prog:=P) (w:=w) (A:=A.in1) T I l C vs.toArray;have x:vs.toArray.size=vs.length:=cr ..;refine oh JH ?_;rw[re ub _];refine ar (zH gS rfl ?_);refine ar (wg (W.item 0 _ _ _ (by rw[x];exact bX) ⟨⟨_,gI,rfl,rfl⟩,(let ⟨o,e,r⟩:=g;⟨o,N _ _ e,r⟩)⟩ λv Y n hP cZ gJ=>?_));have O:vs[0]?=aa v:=by simpa using hP
 obtain⟨oI,eI,rD,B⟩:=id cZ.1;have a:∀b o,s.heap.get? b=aa o->Y.get? b=aa o:=λb o e=>gJ b o (by intro z;rw[fu.mp z,J]at e;cases e) (N b o e);refine ar (wg (js (eG (c 0 v O Y n a) (λu s2 he=>?_) λ_ _ hF=>hF.elim)));obtain⟨X,tk2,rfl,K,D⟩:=he;have f:=K S _ (gJ S _ (by simpa using m) gS);have t:=q_ X S (iF λ_=>#[v,u]);obtain⟨L,kh⟩:∃L,(X.update S (iF λ_=>#[v,u])).get? S=aa (fz "list" #[v,u] L):=⟨_,zK f λ_=>#[v,u]⟩
 refine ar ?_;refine wpAny_updateSeq f rfl ?_;rw[M];refine aI ⟨rg ub _,K9 T hu g J fS m c hQ _ 0 0 _ _ rfl bX ⟨λb o e=>?_,⟨oI,(t.2 I m.symm).trans (K I _ eI),rD,B⟩,⟨v,u,L,kh,O,?_⟩,a9 _,λj' jX=>?_⟩⟩
 .exact(t.2 b (λz=>by rw[z,fS]at e;cases e)).trans (K b o (a b o e))
 .refine D.keep λb o e ht=>(t.2 b ?_).trans e;rintro rfl;rw[f]at e;cases e;exact Hq ht
 .obtain rfl:j'=0:=∅
  cases y:eZ (kf 0).1 (kf 0).2 (kf 0).1 (kf 0).2 with
  |false=>rfl
  |true=>unfold eZ at y;rw[if_pos rfl,decide_eq_true_iff]at y;exact absurd y (zO _)
end
open Att
section
variable{a:aS}{w:aG}{A:aV}{E:ai->am->Prop}{s:am}
structure Az(x:Str)(params:qS)(scope:dH):Prop where
 bind:∀(name qual:Str) (body:az) (cl:List (Str×ag)) (pm aH ct v:ai),fZ (PySem.W.kla_fn name qual params body scope cl pm aH ct) ⟨[v],[]⟩=pure [(x,v)]
 lx:scope.names.lookup x=aa .local
 ly:scope.names.lookup ("len" : Str)=aa .globalImplicit
 nc:∀z∈scope.names,z.2≠.cell
 co:scope.isCoroutine=aj
 gen:scope.isGenerator=aj
 kind:scope.kind=.function
 dx:(x==("__debug__":Str))=aj
abbrev Cp(x:Str)(k:Nat)(g f d c b:Pos):az:=.Tuple [.Call (.Name "len" g) [.Name x f] [] d,.Name x c] k b
theorem M5{f B:ag}{x g:Str}{c:qS}{d:dH}{k:Nat}{J I H G F:Pos}{j:List (Str×ag)}{D p:ai}{z:Str}{t:Tok}{q:Str->Option ai}{Q:ai->am->Prop}(L:Az x c d)(X:A.depth<vS) (M:s.heap.get? f=aa (Dk "<lambda>" g c (Cp x k J I H G F) d j D B p)) (W:s.heap.CodeRec (.ref B) g) (m:s.heap.NoLimit)(O:s.heap.Ns bU q) (N:q "len"=ae) (P:∃l,s.heap.Ns pq l/\l "len"=aa (.builtin "len")) (y:z.length<=bd)(h:∀n C u,(∀b o,s.heap.get? b=aa o->n.get? b=aa o)->qg n ((z.length:Nat),z) u->Q u {s with heap:=n,toks:=C}):au (ax a w) A (call (.ref f) [.str z t]) Q E s:=by refine tL (PySem.W.kla_callFunE X M rfl L.co L.gen rfl W ?_);rw[L.bind];refine aI (wpAny_newFunctionEnv L.nc (λz y=>by rw[fu.mp y];exact L.lx) (λi r K=>?_) L.kind);have keep:∀b o,s.heap.get? b=aa o->i.get? b=aa o:=λb o e=>(K.2 b (c8 (bR e))).trans (bu _ e);refine⟨m.keeps keep,PySem.W.kla_codeExpr ?_⟩;obtain⟨l,T,S⟩:=P;have Y:=qm;refine wpAny_Tuple_spliced ?_;refine tK ?_;refine tN (IR L.kind L.ly (Calls.loadGlobal_builtin (O.keeps keep) N (T.keeps keep) S ?_));refine Ur (tK (zo (IQ L.kind L.lx r (v:=.str z t) (by simp) (zq ?_)) L.dx)) rfl rfl;refine len_str ∅ ?_;refine tK (zo (IQ L.kind L.lx r (v:=.str z t) (by simp) (zq ?_)) L.dx);refine⟨by rw[k_];simp,?_⟩;exact h _ _ _ (λb o e=>bu _ (keep b o e)) ⟨_,_,_,rfl,⟨_,cI _ rfl,rfl,_,rfl⟩⟩
end
section
variable{X:Cx}{g:List (ag×Obj)}{d:St}{H:Hp}{s:am}
def RV(h:TA):TE:=λd H Q=>h d H λi f=>∃(a:ag) (xs:List Str),i=[.ref a]/\Rd f a (.lst (xs.map .str))/\xs≠[]/\(∀x∈xs,x.length<=bd) /\
 ∀x c,x∈xs->(∀y∈xs,eZ (y.length:Nat) y (x.length:Nat) x=aj)->(∀b o,f b=aa o->c b=aa o)->Q (.str x) c
theorem QC{z x n:Str}{p0:Pos}{c P:ag}{l:qS}{r:dH}{k:Nat}{p p1 p2 p3 p4 p5 F kp E:Pos}{W:TA}(hc:X.calm=ah)(hr:X.A.depth+1<vS)(hu:X.A.units+8<cLine)(LA:xT X n c P)(LO:Az x l r)(hq:X.env.qual++"<lambda>"=n++".<locals>.<lambda>")(wJ:zy r X.env=pure []) (wy:defaultsOf l X.env=([],[]))(hg:Gl X "min") (hm:X.mg "min"=ae) (l6:X.mg "len"=ae) (ha:PA X [.Name z p0] W):PE X (.Call (.Name "min" p) [.Name z p0] [⟨aa "key",.Lambda l (Cp x k p1 p2 p3 p4 p5) r F,kp⟩] E) (RV W):=by
 intro g s d H Q I h;refine tN (tj I hg hm (show eM "min"=aa (.builtin "min") by kernel_rfl) ?_ (by decide) (by decide));refine callWith_kw (aM (ha E g s d H _ I h) λus s1 ζ=>?_);obtain⟨vs,H1,I1,Z,q⟩:=ζ;obtain⟨a,xs,rfl,hA,bX,bo,hQ⟩:=q;obtain⟨u,rfl⟩:∃u,us=[u]:=by
  cases Z with
  |cons _ t=>cases t;exact⟨_,rfl⟩
 obtain rfl:u=.ref a:=by
  cases Z with
  |cons z _=>exact z
 refine kws_cons (SF I1 LA hq wJ wy λf c' ctv S s2 w C hf hfL z5 hcL=>kws_nil ?_);have M:Rd S a (.lst (xs.map .str)):=hA.elim (λz=>.inl (C _ _ z)) λ⟨o,z⟩=>.inr ⟨o,C _ _ z⟩;obtain⟨m,lV,hl⟩:=id w.loc;obtain⟨zl,D,n0,Y,eL⟩:=M.ok w.hok;have A:D.length=xs.length:=by rw[<-Y.length,cn]
 have J:∀(i:Nat) (v:ai),D[i]?=aa v->∃x t,xs[i]?=aa x/\v=.str x t:=λi v G=>by obtain⟨xv,B,rx⟩:=HF Y G;rw[kF]at B;obtain⟨x,mX,rfl⟩:=mF.mp B;obtain⟨t,rfl⟩:=rx;exact⟨x,t,mX,rfl⟩
 obtain⟨mb,oG,pN⟩:=w.mod.blt;have L:mb "len"=aa (.builtin "len"):=(pN "len" (by decide)).trans (show eM "len"=aa (.builtin "len") by kernel_rfl);show au _ _ (call (.builtin "min") [.ref a] [(vU "key",.ref f)]) _ _ _;refine NW (vs:=D) (kf:=λi=>(((xs.getD i ff).length:Nat),xs.getD i ff)) (w.ok.hd hc) ∅ ⟨_,eL,rfl,n0,rfl⟩ (by rw[A];exact List.length_pos_iff.mpr bX) (λi v G N T k=>?_) λi v N T G mO k=>?_
 .obtain⟨x,t,B,rfl⟩:=J i v G;have O:xs.getD i ff=x:=by simp[B]
  dsimp only;rw[O];obtain⟨cc,oc,vc,tc,z,ec,rc⟩:=z5;cases z;refine M5 (s:={s2 with heap:=N,toks:=T}) LO (Nat.lt_of_succ_lt hr) (k _ _ hf) ⟨_,oc,vc,tc,rfl,k _ _ ec,rc⟩ (w.mod.nolimit.keeps λb o e=>k b o (w.bk b o e)) ((w.mod.glob.keeps w.bk).keeps k) l6 ⟨mb,(oG.keeps w.bk).keeps k,L⟩ (bo x (zr B)) λh2 K u k2 hu=>?_;exact⟨h2,K,rfl,k2,hu⟩
 .obtain⟨x,t,B,rfl⟩:=J i v G;have O:xs.getD i ff=x:=by simp[B]
  refine⟨.str x,S,?_,⟨t,rfl⟩,hQ x S (zr B) (λy hy=>?_) C⟩
  .have:N.Ns X.env.locals m:=lV.keeps k;exact w.mapKept lV this λb o _ e=>k b o e
  .obtain⟨j,hj⟩:=List.mem_iff_getElem?.mp hy;have:=mO j (by rw[A];exact(d7.mp hj).1);have ey:xs.getD j ff=y:=by simp[hj]
   rw[O,ey]at this;exact this
end
end L2
namespace Pu
open L2
def cf(x y:Tx):Bool:=if x.length=y.length then decide (x<y)else decide (x.length<y.length)
def o5:List Tx->Option Tx
 |[]=>ae
 |x::r=>aa (r.foldl (λb y=>if cf y b then y else b) x)
theorem Oy(x:Tx):cf x x=aj:=by unfold cf;rw[if_pos rfl];exact decide_eq_false (zO x)
theorem BK{x y z:Tx}(b:cf x y=ah)(a:cf y z=ah):cf x z=ah:=by
 unfold cf at *;split at b <;> split at a <;> split <;> simp only[decide_eq_true_iff]at * <;> first|lia|skip
 exact List.lt_trans b a
theorem Bk{x y:Tx}(b:cf x y=aj)(a:cf y x=aj):x=y:=by
 unfold cf at *;split at b
 .rename_i e;rw[if_pos e.symm]at a;simp only[decide_eq_false_iff_not]at b a;exact List.le_antisymm (List.not_lt.mp a) (List.not_lt.mp b)
 .rename_i e;rw[if_neg (λz=>e z.symm)]at a;simp only[decide_eq_false_iff_not]at b a;lia
theorem GD(r:List Tx):∀b:Tx,(r.foldl (λb y=>if cf y b then y else b) b∈b::r)/\∀y∈b::r,cf y (r.foldl (λb y=>if cf y b then y else b) b)=aj:=by
 induction r with
 |nil=>intro b;exact⟨by simp,λy d=>by simp at d;subst d;exact Oy y⟩
 |cons c r n=>
  intro b;rw[lf];obtain⟨l,i⟩:=n (if cf c b then c else b);refine⟨?_,λy d=>?_⟩
  .rcases bC.mp l with h|h
   .rw[h];split <;> simp
   .simp[h]
  .generalize r.foldl (λb y=>if cf y b then y else b) (if cf c b then c else b)=m at l i;have a:=i _ (lL ..);cases f:cf y m with
   |false=>rfl
   |true=>
    rcases bC.mp d with rfl|d
    .by_cases g:cf c y=ah
     .rw[if_pos g]at a;rw[BK g f]at a;cases a
     .rw[if_neg g]at a;rw[f]at a;cases a
    .rcases bC.mp d with rfl|d
     .by_cases g:cf y b=ah
      .rw[if_pos g]at a;rw[f]at a;cases a
      .rw[if_neg g]at a;have o:cf y b=aj:=by simpa using g
       by_cases j:cf b y=ah
       .rw[BK j f]at a;cases a
       .rw[Bk o (by simpa using j)]at f;rw[f]at a;cases a
     .rw[i y (by simp[d])]at f;cases f
theorem Hk{a:List Tx}{x:Tx}(h:x∈a)(c:∀y∈a,cf y x=aj):o5 a=aa x:=by
 cases a with
 |nil=>cases h
 |cons b r=>obtain⟨f,d⟩:=GD r b;show aa _=aa x;congr 1;exact Bk (c _ f) (d x h)
theorem Q1(x y:Tx):eZ ((tS x).length:Nat) (tS x) ((tS y).length:Nat) (tS y)=cf x y:=by
 unfold eZ cf;have b:(tS x).length=x.length:=by simp[tS,pt]
 have a:(tS y).length=y.length:=by simp[tS,pt]
 rw[b,a];simp only[o7,Int.natCast_inj,Int.ofNat_lt]
def sA(i:Nat):ak->R PV:=λa=>(aE (eE a i) a).bind λxs a=>aE ((e_ xs).bind λb=>(o5 b).map .str) a
section
variable{X:Cx}{E:XK}
theorem Mg(i:Nat){z x n:Str}{c P:ag}{d:qS}{f:dH}{k:Nat}{p O N M L K J g Y q:Pos}(hc:X.calm=ah)(hr:X.A.depth+1<vS)(hu:X.A.units+64<cLine)(LA:xT X n c P)(hm:X.mg "min"=ae)(W:X.mg "len"=ae)(hq:X.env.qual++"<lambda>"=n++".<locals>.<lambda>":=by rfl) (G:zy f X.env=pure []:=by rfl)(LO:Az x d f:=by exact⟨λ_ _ _ _ _ _ _ _=>rfl,rfl,rfl,by decide,rfl,rfl,rfl,by decide⟩)(hN:X.N[i]?=aa z:=by rfl) (d8:eD X.env.scope z:=by first|exact Or.inl rfl|exact Or.inr (Or.inl rfl)|exact Or.inr (Or.inr rfl)) (hd:(z==("__debug__":Str))=aj:=by decide) (bv:(z==("__classdict__":Str))=aj:=by decide)(D:defaultsOf d X.env=([],[]):=by rfl) (hg:Gl X "min":=by rfl):DE X E (.Call (.Name "min" p) [.Name z O] [⟨aa "key",.Lambda d (Cp x k N M L K J) f g,Y⟩] q) (sA i):=λF S C σ H Q w h=>by
 unfold sA at h;cases v:eE C i with
 |none=>rw[v]at h;exact h.elim
 |some xs=>
  rw[v]at h;simp only[cg,R.bind_ok]at h;cases u:e_ xs with
  |none=>rw[u]at h;exact h.elim
  |some s=>
   rw[u,gG]at h;cases j:o5 s with
   |none=>rw[j]at h;exact h.elim
   |some r=>
    rw[j]at h;simp only[pE,cg]at h;obtain rfl:=pU u;obtain⟨a,ea,⟨us,ha,I⟩,_⟩:=w.own i _ (ji v);obtain⟨rfl,A⟩:=UV.mp I;refine b7 (QC hc hr ∅ LA LO hq G D hg hm W (iQ (fE hN d8 hd bv) j6 (by rfl))) ?_;refine⟨_,ea,a,s.map tS,rfl,.inl ?_,λz=>?_,λy t=>?_,λy B t T m=>?_⟩
    .rw[ha,dI];rfl
    .rw[JI]at z;subst z;cases j
    .obtain⟨y,l,rfl⟩:=cx.mp t;have:=A y l;have e:(tS y).length=y.length:=by simp[tS,pt]
     rw[e];exact cP this kq
    .obtain⟨y,l,rfl⟩:=cx.mp t;have:o5 s=aa y:=Hk l λz Z=>by have:=T (tS z) (cx.mpr ⟨z,Z,rfl⟩);rwa[Q1]at this
     rw[this]at j;cases j;have al:Al F F H B:=⟨λ_ z=>z,λb o e=>m b o e,λ_ z=>.inl z⟩
     exact h F S B (w.al al) al.grow (tV r) ⟨rfl,A r l⟩
end
end Pu
namespace L2
open SeqAt
theorem Ua{a:Type}{M:Model}{A:aV}{E:ai->am->Prop}{s:am}{Q:a->am->Prop}{n:Nat}{f:Nat->a->Sem (ForInStep a)}{b:a}(h:au M A (forIn (zP 0 n 1) b f) Q E s):au M A (forIn ([0:n]:Vi) b f) Q E s:=by rw[Std.Legacy.Range.forIn_eq_forIn_range'];simpa[Std.Legacy.Range.size]using h
theorem TH(l:ag)(a:Array ai)(n:Nat)(H:Option ag)(t:Array (Option ai))(x:ai)(e:ai->Bool)(j:Nat)(K:j<a.size)(G:e a[j]=ah)(F:∀m (J:m<a.size),m<j->e a[m]=aj):Meets (Builtin.«tuple.index» ⟨[.ref l,x],[]⟩) (λA R s=>s.heap.get? l=aa {cls:=.type "tuple",dict:=H,data:=.seq a n,slots:=t}/\(∀y,y∈a->EqAt A.in1 s y x (e y))/\R (.ok (.ret (.int j s.toks))) {s with toks:=s.toks+1}) :=
 .of_wp λf w A R s h=>by
  obtain⟨v,g,d,r,u⟩:=s;obtain⟨z,D,h⟩:=h
  wp_walk using zt z,Ua
  refine Dl _ (λrest (b:Option Fin×Unit) o=>b.1=ae/\o=⟨v,g,d,r,u⟩/\∃i,i<=j/\rest=zP i (a.size-i) 1) _ ?_ ?_ _ _ ⟨rfl,rfl,0,jO _,by simp⟩
  .rintro i rest b o ⟨E,rfl,k,B,c⟩;have p:a.size-k=(a.size-k-1)+1:=∅
   rw[p,List.range'_succ]at c;injection c with hi c;subst hi;have q:i<a.size:=∅
   have C:a[i]?=aa a[i]:=zG q;rw[C];dsimp only;refine ar (D a[i] (Array.getElem_mem q) f w _ _ ?_);by_cases I:i=j
   .subst I;rw[G]
    wp_walk
    exact⟨_,rfl,h⟩
   .rw[F i q ∅]
    wp_walk
    exact⟨rfl,rfl,i+1,∅,by rw[c];congr 1⟩
  .rintro b o ⟨E,rfl,k,B,c⟩;have:a.size-k=0:=by have:=congrArg jL c;simpa using this.symm
   lia
section
variable{X:Cx}
def To(K:ay):V->List V->Hp->VK->Prop:=λx a H Q=>∃(p:ag) (xs:List V) (y:V) (j:Nat),x=.ref p/\a=[y]/\cR K H p xs/\gk y=ah/\xs.all gk=ah/\j<xs.length /\
 (∀z,xs[j]?=aa z->dU z y=ah)/\(∀(i:Nat) z,i<j->xs[i]?=aa z->dU z y=aj)/\Q (.int j) H
theorem RS:vM X "tuple.index" (To X.K):=by
 intro af s Y H x Z v us Q I C D h;obtain⟨p,xs,y,j,rfl,rfl,M,P,t,hj,O,N,q⟩:=h;cases C;obtain⟨u,rfl,E⟩:=D.one;obtain⟨a,r,⟨⟨W,T,A,B⟩,e,o,n,l⟩,hz⟩:=I.tuple M;simp only at o l;subst o l;have hl:a.length=xs.length:=r.length.symm;have c:∀(i:Nat) (g:i<a.toArray.size),∃w,xs[i]?=aa w/\jH y a.toArray[i]=dU w y:=λi g=>by
  have J:i<a.length:=by simpa using g
  have z:xs[i]?=aa xs[i]:=fg ∅;obtain⟨w,b,G⟩:=r.get z;have S:a[i]=w:=by rw[fg J]at b;exact dZ b
  refine⟨_,z,?_⟩;rw[<-uI G (q8.mp t _ (C5 _))];simp[S]
 refine tR F.slot_tuple_index ⟨_,e,rfl⟩ F.entry_tuple_index (F.args_tuple_index_2 _ _) (TH p a.toArray n T B u (jH y) j (by simp;lia) ?_ ?_) ⟨e,λw K=>uB E P r t w (by simpa using K),?_⟩
 .obtain⟨w,b,d⟩:=c j (by simp;lia);rw[d];exact O w b
 .intro m L f;obtain⟨w,b,d⟩:=c m L;rw[d];exact N m w f b
 .exact⟨.int _,H,I.tok _,⟨_,rfl⟩,q⟩
end
end L2
namespace Pu
open L2
section
variable{X:Cx}{E:XK}{pin:List Nat}{e o:az}{d de:ak->R PV}{y:Str}
theorem Ob{b a:Pos}(Y:DE X E o d)(he:DE X E e de)(W:j9 o "index" X.env (aL o X.env)=aL o X.env:=by rfl)(T:(b.endLine == a.line)=ah:=by rfl) (cZ:mq e=aj:=by rfl):DE X E (.Call (.Attribute o "index" b) [e] [] a) (AC nI d de):=λF S I u H Q M h=>by
 have s:=km (es:=[]) (env:=X.env) cZ;refine b7 (KR PySem.F.slot_tuple_index PySem.F.type_tuple_index RS bI (iQ bI j6 s) W (by rw[s];rfl) T s rfl) (Y F S I u H _ M ((Ok.bind h).imp λx g F1 S1 H1 m g1 t v K=>?_));split at t
 .rename_i xs;obtain⟨p,A,rfl,B,L⟩:=K;refine⟨⟨p,A,rfl,B⟩,he F1 S1 g u H1 _ m ((Ok.bind t).imp λk G F2 S2 H2 N D q w l=>?_)⟩;unfold nI at q;cases c:d9 k with
  |none=>rw[c]at q;exact q.elim
  |some z=>
   cases r:jG xs with
   |none=>rw[c,r]at q;exact q.elim
   |some J=>
    rw[c,r]at q;cases n:J.findIdx? (λy=>dU y z)with
    |none=>rw[gG,gG,n]at q;exact q.elim
    |some j=>
     rw[gG,gG,n]at q;obtain⟨rfl,hf⟩:=uw (L.grow D m.fit) r;rw[jZ l c];obtain⟨C,P,O⟩:=Jm.mp n;refine⟨p,A,z,j,rfl,rfl,cR.of (D.imm m.fit B id),rX c,hf,C,λy f=>?_,λi y Z f=>?_,q F2 S2 H2 N (bD.refl ..) _ rfl⟩
     .rw[fg C]at f;cases f;exact P
     .have:=O i Z;rw[fg ∅]at f;cases f;simpa using this
 .exact t.elim
def Gk:V->List V->Hp->VK->Prop:=λx xs H Q=>∃y c,x=tV y/\xs=[tV c]/\Q (.bl (decide (c <:+ y))) H
theorem TN(y c:Tx):Txt.endswith (tS y) (tS c)=decide (c <:+ y):=by
 have f:(tS y).length=y.length:=by simp[tS,pt]
 have b:(tS c).length=c.length:=by simp[tS,pt]
 unfold Txt.endswith Builtin.Str.subAt;rw[f,b,lM,gn,decide_eq_true_iff,decide_eq_true_iff,beq_iff_eq];have g:(tS y).cps.extract (y.length-c.length) (y.length-c.length+c.length)=(tS c).cps↔(y.drop (y.length-c.length)).take c.length=c:=by show y.toArray.extract _ _=c.toArray↔_;rw[<-Array.toList_inj];simp[List.extract_eq_take_drop]
 rw[g];constructor
 .rintro⟨h,a⟩;have:y.drop (y.length-c.length)=c:=by rw[i5 (by simp;lia)]at a;exact a
  rw[<-this];exact List.drop_suffix _ _
 .rintro⟨p,rfl⟩;refine⟨by simp,?_⟩;simp
theorem KU:nR X "str.endswith" Gk:=by intro j s f H x xs v g Q I a b h;obtain⟨y,c,rfl,rfl,q⟩:=h;obtain⟨t,rfl⟩:=a;obtain⟨u,rfl,i,rfl⟩:=vals1 b;exact SC.endswith ⟨.bl _,H,I.tok _,(by rw[TN];rfl),q⟩
def uy(y:Tx):List PV->Option PV
 |[.str c]=>aa (.bl (decide (c <:+ y)))
 |_=>ae
theorem Td{K:ay}:PM K Gk uy:=λF H y xs b Q pv f a e q=>by
 unfold uy at e;split at e
 .rename_i c;cases e;obtain⟨v,rfl,rfl,_⟩:=fk a;exact⟨y,c,rfl,rfl,q _ F H (Al.refl ..) rfl⟩
 .cases e
end
def rZ:PV->PV->Option PV
 |.tup [],.tup a=>aa (.tup a)
 |.tup (x::xs),.tup []=>if xs.length<1000 then aa (.tup (x::xs))else ae
 |x,y=>bF x y
theorem Ew{K:ay}:P2 K (λx y H Q=>B8 K x y H Q\/xU K x y H Q) rZ:=λF H x y v u Q pv d c e q=>by
 unfold rZ at e;split at e
 .cases e;obtain⟨a,i,rfl,g,j⟩:=d;obtain⟨b,h,rfl,f,l⟩:=id c;rw[show i=[] from j]at g;exact .inl ⟨a,b,h,rfl,rfl,cR.of g,cR.of f,q _ F H (Al.refl ..) c⟩
 .split at e
  .rename_i n;cases e;obtain⟨a,i,rfl,g,j⟩:=id d;obtain⟨b,h,rfl,f,l⟩:=id c;rw[show h=[] from l]at f;have m:=j.len;refine .inr (.inr (.inl ⟨a,b,i,[],rfl,rfl,cR.of g,cR.of f,?_,?_,λ_=>q _ F H (Al.refl ..) d,λz=>absurd rfl z⟩))
   .rintro rfl;simp at m
   .rw[m,k_];simp;lia
  .cases e
 .exact .inr (fP F H _ _ v u Q pv d c e q)
end Pu
namespace L2
open Pu
def uK(a:ag)(o:Obj)(b:List (aD×V)):It :=⟨λi H=>H a=aa (.frz o (.dK b))/\i<b.length,λi H x c=>c=H/\∃p,b[i]?=aa p/\x=p.2,λi H=>H a=aa (.frz o (.dK b))/\b.length<=i⟩
theorem Q0{P:aS}{w:aG}{K:ay}{Y:az}(a j:ag)(o:Obj)(g:List (aD×V)):qj P w K Y (uK a o g) [j] j (λi h=>h.IsValIter j a i g.length (xw o)) where
 mem:=by simp
 obj:=λi h f b l=>by
  have e:b=j:=by simpa using l
  subst e;obtain⟨o,e,c,d⟩:=f;exact⟨o,e,λv z=>by rw[d]at z;cases z⟩
 keep:=λi h r f k=>f.at λo e=>k j (by simp) o e
 item:=by
  intro X D t F S i T s N H E I n f B;subst D t F;obtain⟨x,Q⟩:=B;obtain⟨y,A⟩:=(show cz X.prog X.w H s.heap a (.frz o (.dK g))from I.hok a _ x)
  obtain⟨Z,W,m,C⟩:=Cv y A;obtain⟨p,O⟩:∃p,g[i]?=aa p:=⟨_,fg Q⟩
  obtain⟨q,u,e1,e2⟩:=L2.KV.at m O;obtain⟨L,J,f2,f3,f4,G⟩:=n j (by simp);rw[m.len]at f;refine wpAny_pyNext_values_item (k:=q.1) (v:=q.2) f C u λr M sb=>?_;have I1:Inv X T N H {s with heap:=r}:=I.turned (t':=s.toks) (λb o l e=>(sb.2 b l).trans e) L J f3 f4 G;rw[<-m.len]at M;obtain⟨oi,e,c,d⟩:=id M;exact⟨q.2,rfl,r_ (s:={s with heap:=r}) e c d (by decide) ⟨p.2,H,I1,e2,⟨rfl,p,O,rfl⟩,M,λb l=>(n b l).1⟩⟩
 done:=by
  intro X D t F S i T s N H E I n f B;subst D t F;obtain⟨x,Q⟩:=B;obtain⟨y,A⟩:=(show cz X.prog X.w H s.heap a (.frz o (.dK g))from I.hok a _ x)
  obtain⟨Z,W,m,C⟩:=Cv y A;obtain⟨L,J,f2,f3,f4,G⟩:=n j (by simp);have hl:=m.len;rw[hl]at f;exact wpAny_pyNext_values_end (I.ok.hd S) f C (t8 ∅) λr eb=>⟨rfl,I.turned (t':=s.toks) (λb o l e=>eb b o l e) L J f3 f4 G⟩
 self:=λ_ _ _ _ _ f h=>wpAny_pyIter_valiter f h
section
variable{X:Cx}{c:az}
def Ry(i:Nat):TI:=λd H R=>∃a b,d[i]?=aa (aa (.ref a))/\H a=aa (.dK b)/\∀o q,H q=ae->(b.map (·.1)).Nodup->b.length<=bd->R (uK a o b) (upd (upd H q (iT q a)) a (.frz o (.dK b)))
theorem R0(i:Nat){y:Str}{m g f:Pos}(N:X.N[i]?=aa y)(G:eD X.env.scope y)(L:(y==("__debug__":Str))=aj)(Q:(y==("__classdict__":Str))=aj)(F:j9 (.Name y m) "values" X.env (aL (.Name y m) X.env)=aL (.Name y m) X.env) (E:(g.endLine == f.line)=ah):PI X c (.Call (.Attribute (.Name y m) "values" g) [] [] f) (Ry i):=by
 intro T s B H R I h;obtain⟨a,d,O,n,q⟩:=h;refine aM (Fi Jg Jy PySem.F.type_dict_values GN (fE N G L Q) F E T s B H (λx A=>∃q,x=.ref q/\H q=ae/\A=upd H q (iT q a)) I ⟨.ref a,O,.inr (.inr (.inl ⟨rfl,.inl ⟨_,n⟩⟩)),a,d,rfl,rfl,n,λq J=>⟨q,rfl,J,rfl⟩⟩) λv j ζ=>?_;obtain⟨x,A,r,C,D⟩:=ζ;obtain⟨p,e,t,P⟩:=D;subst e P;cases C;have S:a≠p:=by rintro rfl;rw[n]at t;cases t
 have u:upd H p (iT p a) a=aa (.dK d):=by rw[br S];exact n
 obtain⟨o,K,w⟩:=r.freeze u;obtain⟨Z,Y,z,l⟩:=Cv (o:=o) K (show cz X.prog X.w _ j.heap a (.dK d)from r.hok a _ u);obtain⟨W,_,_⟩:=(show cz X.prog X.w _ j.heap p (iT p a)from r.hok p _ upd_same)
 refine wpAny_pyIter_values W l ?_;rw[<-z.len];refine⟨j.heap.objs.size,[j.heap.objs.size],_,_,_,rfl,w.kept (t':=j.toks) λb o e=>bu _ e,Q0 a _ o d,⟨_,cI _ rfl,rfl,rfl⟩,λb M=>?_,q o p t (by rw[z.keysD];exact l.nodup) (show d.length<=bd by have:=(show cz X.prog X.w _ j.heap a (.dK d)from r.hok a _ u).1;exact this)⟩;have e:b=j.heap.objs.size:=by simpa using M
 subst e;exact w.fpOk (a9 _) (w.hok.fresh (a9 _))
end
section
variable{X:Cx}{c:dH}{x:Str}{f:List Str}{d:List Nat}
def Ui(i:Nat)(u:TT)(w:TE)(d:List Nat):TE:=λp H Q=>∃a g,p[i]?=aa (aa (.ref a))/\H a=aa (.dK g)/\∀o q l,H q=ae->(g.map (·.1)).Nodup->g.length<=bd->upd (upd H q (iT q a)) a (.frz o (.dK g)) l=ae->∃W:Nat->Nat->List V->Hp->Prop,(∃m,W 0 m [] (upd (upd (upd H q (iT q a)) a (.frz o (.dK g))) l (.lst [])))/\∀i m h n,W i m h n ->
 ((uK a o g).stop i n/\Q (.ref l) (upd n a (.dK g)))\/((uK a o g).go i n/\∀v t,(uK a o g).yld i n v t->u (aa v::gT p d) t λb s=>if b=ah then w (aa v::gT p d) s λy r=>r l=aa (.lst h)/\h.length<bd/\∃j,j<m/\W (i+1) j (h++[y]) (upd r l (.lst (h++[y]))) else ∃j,j<m/\W (i+1) j h s)
theorem OS{D:az}{T F r j g:Pos}{y:Str}{A:List az}{K:TT}{L:TE}(i:Nat)(B:jD X c x f d)(hc:X.calm=ah)(hN:X.N[i]?=aa y)(hv:eD X.env.scope y)(hd:(y==("__debug__":Str))=aj)(bv:(y==("__classdict__":Str))=aj)(i9:j9 (.Name y r) "values" X.env (aL (.Name y r) X.env)=aL (.Name y r) X.env) (Z:(j.endLine == g.line)=ah)(ht:∀C b n J G,qC (cH X c f C b n J G) A K) (he:∀C b n J G,PE (cH X c f C b n J G) D L) (hs:∀x,n6 (.Call (.Attribute (.Name y r) "values" j) [] [] g) X.env x=pure x:=by intro _;rfl):PE X (.ListComp D [⟨.Name x T,.Call (.Attribute (.Name y r) "values" j) [] [] g,A,0⟩] c F) (Ui i K L d):=by
 intro af s N H Q I h;obtain⟨a,p,ea,M,h⟩:=h;have hn:∀o u,X.H₀ a≠aa (.frz o u):=λo u z=>by
  have:=I.base.frzs a o u z;rw[M]at this;cases this
 refine aM (Gn B hc (R0 i hN hv hd bv i9 Z) ht he hs af s N H (λv E=>∃o,E a=aa (.frz o (.dK p))/\Q v (upd E a (.dK p))) I ⟨a,p,ea,M,λo q hq Y hz l hl=>?_⟩) λv s' ⟨x,E,I',S,o,e',q⟩=>⟨x,_,I'.thaw e' hn,S,q⟩
 obtain⟨W,P,t⟩:=h o q l hq Y hz hl;refine⟨W,P,λi m O E w=>?_⟩;rcases t i m O E w with⟨st,q⟩|z
 .exact .inl ⟨st,o,st.1,q⟩
 .exact .inr ⟨z.1,λv H1 y=>⟨[aa v],rfl,rfl,z.2 v H1 y⟩⟩
end
end L2
namespace Pu
open L2
section
variable{X:Cx}{E:XK}{pin:List Nat}{c:Pos}
def oN:List (aD×PV)->Option (List Int)
 |[]=>aa []
 | (_,.int i)::r=>(oN r).map (i::·)
 |_=>ae
theorem SG{K:ay}{H:Hp}{F:ag->Prop}:∀{a:List (aD×PV)}{d:List (aD×V)}{b:List Int},iC K H F a d->oN a=aa b->d.map (·.2)=b.map V.int:=by
 intro a d b h e;unfold iC at h
 induction h generalizing b with
 |nil=>cases e;rfl
 |@cons p q ps qs r _ ih=>
  obtain⟨l,pv⟩:=p;obtain⟨j,g⟩:=q;cases pv <;> simp only[oN,mF]at e <;> try cases e
  obtain⟨i,f⟩:=r;obtain rfl:g=V.int _:=f;rename_i h;rw[cu,ih h.1,<-h.2];rfl
def qy(i:Nat):ak->R PO:=λa=>(aE (dA a i) a).bind λb a=>(aE (oN b) a).bind λd a=>.ok (.lst ((d.filter λn=>decide (0<n)).map .int)) a
theorem Eg{K:ay}{H:Hp}{F:ag->Prop}:∀l:List Int,Reps K H F (l.map .int) (l.map V.int)
 |[]=>rfl
 |i::l=>⟨_,_,rfl,rfl,Eg l⟩
theorem Rn{H:Hp}{a l q:ag}{o b:HO}{u v:HO}(e:H a=aa v)(f:l≠a)(d:q≠a):upd (upd (upd (upd H q b) a o) l u) a v=upd (upd H q b) l u:=by
 have:upd H q b a=aa v:=by rw[br (ef d)];exact e
 exact Ue this f
theorem Ta{g:dH}{x y:Str}(i:Nat){px p1 p2 p3 p4 G u t:Pos}{c0}(B:jD X g x [x] [])(hc:X.calm=ah)(hN:X.N[i]?=aa y:=by rfl)(d8:eD X.env.scope y:=by first|exact Or.inl rfl|exact Or.inr (Or.inl rfl)|exact Or.inr (Or.inr rfl))(hd:(y==("__debug__":Str))=aj:=by decide) (bv:(y==("__classdict__":Str))=aj:=by decide)(i9:j9 (.Name y G) "values" X.env (aL (.Name y G) X.env)=aL (.Name y G) X.env:=by rfl) (i_:(u.endLine == t.line)=ah:=by rfl)(hp0:∀C d f A w,PE (cH X g [x] C d f A w) (.Name x p1) (y0 0):=by intro _ _ _ _ _;exact pv 0) (gw:∀C d f A w,PE (cH X g [x] C d f A w) (.Name x p2) (y0 0):=by intro _ _ _ _ _;exact pv 0)(hs:∀x,n6 (.Call (.Attribute (.Name y G) "values" u) [] [] t) X.env x=pure x:=by intro _;rfl):DN X E (.ListComp (.Name x p1) [⟨.Name x px,.Call (.Attribute (.Name y G) "values" u) [] [] t,[.Compare (.Name x p2) [.Gt] [.Constant (.int 0) c0 p3] p4],0⟩] g c) (qy i):=λF S ε σ H Q T h=>by
 unfold qy at h;cases e0:dA ε i with
 |none=>rw[e0]at h;exact h.elim
 |some kvs=>
  rw[e0]at h;simp only[cg,R.bind_ok]at h;cases N:oN kvs with
  |none=>rw[N]at h;exact h.elim
  |some r=>
  rw[N]at h;simp only[cg,R.bind_ok]at h;obtain⟨a,s,ea,ha,hk,hS,_⟩:=T.dkAt (lG e0);have I:=SG hk N;have bo:s.length=r.length:=by have:=congrArg jL I;rwa[cn,cn]at this
  refine b7 (OS i B hc hN d8 hd bv i9 i_ (λC d f A w=>IG (yW (Ki (gw C d f A w) Ig))) (λC d f A w=>hp0 C d f A w) hs) ⟨a,s,ea,ha,λo q l hq nd hz D=>?_⟩;have hqa:q≠a:=by rintro rfl;rw[ha]at hq;cases hq
  have P:l≠a:=by rintro rfl;rw[upd_same]at D;cases D
  have K:l≠q:=by rintro rfl;rw[br P,upd_same]at D;cases D
  have W:H l=ae:=by rw[br P,br K]at D;exact D
  let PS:Nat->List V:=λj=>((r.take j).filter λn=>decide (0<n)).map V.int
  refine⟨λj m Z H'=>m=s.length-j/\j<=s.length/\Z=PS j/\H'=upd (upd (upd H q (iT q a)) a (.frz o (.dK s))) l (.lst Z),⟨_,rfl,jO _,by simp[PS],rfl⟩,?_⟩;rintro j m Z H' ⟨rfl,hj,rfl,rfl⟩;have M:upd (upd (upd H q (iT q a)) a (.frz o (.dK s))) l (.lst (PS j)) a=aa (.frz o (.dK s)):=by rw[br (ef P),upd_same]
  by_cases bg:j<s.length
  .refine .inr ⟨⟨M,bg⟩,λv H1 ⟨N,p,hp,e2⟩=>?_⟩;subst N e2;have L:j<r.length:=∅
   have J:p.2=V.int r[j]:=by
    have h1:(s.map (·.2))[j]?=aa p.2:=by rw[kF,hp];rfl
    rw[I,kF,fg L]at h1;exact(dZ h1).symm
   have Y:PS (j+1)=PS j++(if 0<r[j] then [V.int r[j]] else []):=by show((r.take (j+1)).filter λn=>decide (0<n)).map V.int=((r.take j).filter λn=>decide (0<n)).map V.int++_;rw[Uw L,Do,tX];congr 1;by_cases z:0<r[j] <;> simp[z]
   have dS:(PS j).length<=j:=by show(List.map V.int _).length<=j;rw[cn];exact cP (JJ _ _) (by rw[lc];lia)
   refine⟨p.2,rfl,r[j],0,J,rfl,_,rfl,?_⟩;dsimp only;by_cases z:0<r[j]
   .rw[if_pos (show decide (0<r[j])=ah from decide_eq_true z)];rw[if_pos z]at Y;refine⟨p.2,rfl,upd_same,∅,s.length-(j+1),∅,rfl,bg,?_,?_⟩
    .rw[J];exact Y.symm
    .rw[Mu]
   .rw[if_neg (show ¬decide (0<r[j])=ah by rw[decide_eq_false z];exact fq)];rw[if_neg z,f8]at Y;exact⟨s.length-(j+1),∅,rfl,bg,Y.symm,rfl⟩
  .have e:j=s.length:=∅
   subst e;refine .inl ⟨⟨M,a9 _⟩,?_⟩;rw[Rn ha P hqa];have hPS:PS s.length=(r.filter λn=>decide (0<n)).map V.int:=by show((r.take s.length).filter _).map V.int=_;rw[bo,Di]
   rw[hPS];have O:Al F F H (upd H q (iT q a)):=Al.new0 hq;have li:upd H q (iT q a) l=ae:=by rw[br K];exact W
   have rl1:=T.al O;have al:Al F F (upd H q (iT q a)) (upd (upd H q (iT q a)) l (.lst ((r.filter λn=>decide (0<n)).map V.int))):=Al.new0 li;refine h F S _ (rl1.al al) (O.grow.trans al.grow) l (λb=>b=l) ⟨⟨_,upd_same,Eg _⟩,λb=>rh⟩ λb z=>?_;subst z;refine⟨W,λz=>?_,λ⟨j,z⟩=>?_,_,upd_same,trivial⟩
   .obtain⟨o,q⟩:=T.ex b z;rw[W]at q;cases q
   .obtain⟨_,_,o,q,_⟩:=T.foot j b z;rw[W]at q;cases q
theorem Ac{b:List Int}{a:List ai}(r:bt (b.map V.int) a):IntsAre a b:=by
 induction b generalizing a with
 |nil=>cases r;exact .nil
 |cons i b d=>
  cases r with
  |cons h r=>obtain⟨t,rfl⟩:=h;exact .cons _ _ (d r)
theorem Ly(o:X.calm=ah):eC X (.builtin "sum") (λxs H Q=>∃(p:ag) (a:List Int),xs=[.ref p]/\cC X.K H p (a.map V.int)/\Q (.int a.sum) H):=by
 intro B s x H xs y Q I r h;obtain⟨p,a,rfl,m,q⟩:=h;obtain⟨u,rfl,j⟩:=vals1 r;cases j;obtain⟨b,i,l,z⟩:=I.list m;have f:=Ac i;obtain⟨xs,d⟩:=f.allInts.items;have t:s.heap.IsList p (intItems xs):=d ▸ l.isList;refine sum_intListG (I.ok.hd o) t λA g t' n=>?_;have w:a=xs.toList.map (·.1):=by rw[<-nums_intItems,<-d];exact(show numsOf b.toArray.toList=a from f.numsOf).symm
 have v:preSum (numAt xs) xs.size=a.sum:=by rw[preSum_eq,i5 (by simp),w]
 rw[v];exact⟨.int a.sum,H,I.kept (t':=g) n,⟨t',rfl⟩,q⟩
def sP:List PV->Option PV
 |[.lst xs]=>(intsQ xs).map λa=>.int a.sum
 |_=>ae
where intsQ:List PV->Option (List Int)
 |[]=>aa []
 |.int i::r=>(intsQ r).map (i::·)
 |_=>ae
theorem EO{K:ay}{H:Hp}{F:ag->Prop}:∀{xs:List PV}{a:List V}{b:List Int},Reps K H F xs a->sP.intsQ xs=aa b->a=b.map V.int
 |[],_,_,r,e=>by cases e;exact r
 |x::xs,a,b,⟨v,r,g,f,d⟩,e=>by
  cases x <;> simp only[sP.intsQ,mF]at e <;> try cases e
  rename_i h;rw[g,EO d h.1,<-h.2,show v=_ from f];rfl
theorem Oo:PL X.K (λxs H Q=>∃(p:ag) (b:List Int),xs=[.ref p]/\cC X.K H p (b.map V.int)/\Q (.int b.sum) H) sP:=λF H xs l Q pv f e q=>by
 unfold sP at e;split at e
 .obtain⟨v,rfl,a,m,rfl,h,_,d⟩:=fk f;obtain⟨g,j,i⟩:=mF.mp e;have:=EO d j;subst this;subst i;exact⟨a,g,rfl,.inl h,q _ F H (Al.refl ..) rfl⟩
 .cases e
end
section
variable{X:Cx}
def sk:Tx:=[97,98,99]
def Ak:V->List V->Hp->VK->Prop:=λx xs H Q=>∃k:Nat,k<3/\x=tV sk/\xs=[tV [97+k]]/\Q (.int k) H
theorem D3:∀k:Fin 3,CN (tS sk) (tS [97+k.val]) 0 (tS sk).length 1=[k.val]:=by decide +kernel
theorem LZ:nR X "str.index" Ak:=by intro i s d H x xs v f Q I a b h;obtain⟨k,c,rfl,rfl,q⟩:=h;obtain⟨t,rfl⟩:=a;obtain⟨u,rfl,g,rfl⟩:=vals1 b;exact SC.index (D3 ⟨k,c⟩) ⟨.int _,H,I.tok _,⟨_,rfl⟩,q⟩
theorem Ov:nR X "str.find" Ak:=by
 intro i s d H x xs v f Q I a b h;obtain⟨k,c,rfl,rfl,q⟩:=h;obtain⟨t,rfl⟩:=a;obtain⟨u,rfl,g,rfl⟩:=vals1 b;have e:Txt.find (tS sk) (tS [97+k])=(k:Nat):=by unfold Txt.find;rw[D3 ⟨k,c⟩]
 exact SC.find ⟨.int k,H,I.tok _,⟨_,by rw[e]⟩,q⟩
def tf(y:Tx):List PV->Option PV
 |[.str [c]]=>if y=sk/\97<=c/\c<100 then aa (.int ((c-97:Nat):Int))else ae
 |_=>ae
theorem He{K:ay}:PM K Ak tf:=λF H y xs d Q pv f a e q=>by
 unfold tf at e;split at e
 .rename_i c;split at e
  .rename_i b;obtain⟨rfl,h,g⟩:=b;cases e;obtain⟨v,rfl,rfl,_⟩:=fk a;exact⟨c-97,∅,rfl,by rw[show 97+(c-97)=c by lia],q _ F H (Al.refl ..) rfl⟩
  .cases e
 .cases e
end
end Pu
local macro_rules | `(tactic| simp! [$xs,*]) => `(tactic| simp [Pu.aR, Pu.cE, Pu.dB, Pu.d2, Pu.d1, Pu.dV, Pu.dC, Pu.dL, Pu.dF, Pu.ap, Pu.aC, Pu.bY, Pu.kM, Pu.cp, Pu.eY, Pu.aU, Pu.gV, Pu.gO, Pu.bA, Pu.eW, Pu.fc, Pu.cF, Pu.d_, Pu.fi, Pu.R.bind, Pu.aE, Pu.bh, Pu.dX, Pu.bj, Pu.back, Pu.eR, Pu.lj, Pu.nL, Pu.oV, Pu.o_, Pu.vi, Pu.bn, Pu.kr, Pu.fj, Pu.bQ, Pu.dD, Pu.vJ, Pu.jK, Pu.Cf, Pu.jY, Pu.vz, Pu.xI, Pu.iI, Pu.ni, Pu.BA, Pu.nv, Pu.fA, Pu.eE, Pu.nB, Pu.kx, Pu.qd, Pu.imm, Pu.sW, Pu.nr, bK, jL, $xs,*])
local macro_rules | `(⇑$x) => `(.val (.int $x))
local macro_rules | `(↥$x) => `(.val (.str $x))
namespace Sh
open L2 Pu
set_option genInjectivity false in
structure Ad where
 SlitError:ag
 NoText:ag
 NoWidth:ag
 NoView:ag
 NoWindow:ag
 Never:ag
 Full:ag
 Nothing:ag
 Unlike:ag
 NoPlace:ag
 NoLetters:ag
 BadText:ag
 Seeker:ag
 Slit:ag
def iq(a:Ad):List ag:=[a.NoText,a.NoWidth,a.NoView,a.NoWindow,a.Never,a.Full,a.Nothing,a.Unlike,a.NoPlace,a.NoLetters,a.BadText]
def m_(a:Ad)(c:ai):Bool:=match c with
 |.ref x=>(iq a).contains x
 |_=>aj
def jE(a:Ad)(c:ai)(D:V):Option Bool:=match c,D with
 |.ref x,.ref d=>if(iq a).contains x&&(iq a).contains d then aa (x == d)else ae
 |.ref x,.ty T=>if(iq a).contains x&&T == "ValueError" then aa ah else ae
 |_,_=>ae
def yav(a:Ad):ak->R aK:=bY (dL sR (ap (dF (dG [1] (bP (dV 0)) (eu) (d2 (sh aj) (dV 0) (dV 1)))) (aC)))
def y_(a:Ad):ak->R Slot:=bh 2 [] (bj 0 (yav a))
def yaz(a:Ad):ak->R aK:=bY (ni (dL eF (ap (dV 0) (ap (dC (.raw (.ty "int"))) (aC)))) (vz (dL eF (ap (dV 0) (ap (dC (.raw (.ty "bool"))) (aC))))))
def nh(a:Ad):ak->R Slot:=bh 1 [] (bj 0 (yaz a))
def yaA(a:Ad):ak->R aK:=bY (ni (bn (aU (nh a) (gV (dV 0) (bA)))) (nv (fA λi j=>decide (i<=j)) (fA λi j=>decide (i<=j)) (dC (.int 1)) (dV 0) (dC (.int 4))))
def nN(a:Ad):ak->R Slot:=bh 1 [] (bj 0 (yaA a))
def yaB(a:Ad):ak->R aK:=bY (ni (dL eF (ap (dV 0) (ap (dC (.raw (.ty "str"))) (aC)))) (ni (d2 (eqT aj) (dL bx (ap (dV 0) (aC))) (dV 1)) (bn (aU (y_ a) (gV (dV 0) (gV (dV 2) (bA)))))))
def o8(a:Ad):ak->R Slot:=bh 3 [] (bj 0 (yaB a))
def yao(a:Ad):ak->R aK:=aR (cE (iI (jY (dB (dL eF (ap (dV 0) (ap (dC (.raw (.ty "tuple"))) (aC)))))) (jY (dB (nv (fA λi j=>decide (i<=j)) (fA λi j=>decide (i<=j)) (dC (.int 1)) (dL bx (ap (dV 0) (aC))) (dC (.int 9)))))) (bY (dC (.bl aj))) (dD))
 (aR (cE (jY (dB (dL sR (ap (dF (dG [1,2] (bP (dV 0)) (eu) (bn (aU (o8 a) (gV (dV 0) (gV (dV 1) (gV (dV 2) (bA)))))))) (aC))))) (bY (dC (.bl aj))) (dD))
 (bY (d2 (eqT aj) (dF (dL sO (ap (dV 0) (aC)))) (dF (dL lv (ap (dV 0) (aC)))))))
def ku(a:Ad):ak->R Slot:=bh 3 [] (bj 0 (yao a))
def yay(a:Ad):ak->R aK:=aR (cE (iI (jY (dB (dL eF (ap (dV 0) (ap (dC (.raw (.ty "tuple"))) (aC)))))) (dB (d2 (eqT ah) (dL bx (ap (dV 0) (aC))) (dC (.int 2))))) (bY (dC (.bl aj))) (dD))
 (bY (ni (bn (aU (nN a) (gV (d2 bG (dV 0) (dC (.int 0))) (bA)))) (bn (aU (ku a) (gV (d2 bG (dV 0) (dC (.int 1))) (gV (d2 bG (dV 0) (dC (.int 0))) (gV (dV 1) (bA))))))))
def iR(a:Ad):ak->R Slot:=bh 2 [] (bj 0 (yay a))
def yax(a:Ad):ak->R aK:=kM (aU (iR a) (gV (dV 0) (gV (dC (.str [97,98,99])) (bA))))
def o6(a:Ad):ak->R Slot:=bh 1 [] (bj 0 (yax a))
def yaq(a:Ad):ak->R aK:=cE (jY (dB (bn (aU (o6 a) (gV (dV 0) (bA)))))) (oW (.ref a.NoView) (λb=>dq ((dC (.str [97,32,118,105,101,119,32,105,115,32,97,32,116,117,112,108,101,32,111,102,32,97,32,119,105,100,116,104,32,97,110,100,32,97,32,114,105,115,105,110,103,32,116,117,112,108,101,32,111,102,32,49,32,116,111,32,57,32,119,105,110,100,111,119,115])) b))) (dD)
def jC(a:Ad):ak->R Slot:=bh 1 [] (bj 0 (yaq a))
def yaT(a:Ad):ak->R aK:=aR (cE (jY (dB (nv (fA λi j=>decide (i<=j)) (fA λi j=>decide (i<=j)) (dC (.int 1)) (dL bx (ap (dV 1) (aC))) (dC (.int 9))))) (oW (.ref a.NoView) (λb=>dq ((dC (.str [97,32,118,105,101,119,32,104,97,115,32,49,32,116,111,32,57,32,119,105,110,100,111,119,115])) b))) (dD))
 (bY (dL bQ (ap (dV 0) (ap (dL mn (ap (dF (dL lv (ap (dV 1) (aC)))) (aC))) (aC)))))
def vL(a:Ad):ak->R Slot:=bh 2 [] (bj 0 (yaT a))
def yap(a:Ad):ak->R aK:=cE (iI (jY (dB (dL eF (ap (dV 0) (ap (dC (.raw (.ty "str"))) (aC)))))) (dB (d2 (eqT ah) (dF (dL uE (ap (dV 0) (aC)))) (dF (dL ur (ap (dC (.str [97,98,99])) (aC))))))) (oW (.ref a.NoLetters) (λb=>dq ((dC (.str [116,104,101,32,108,101,116,116,101,114,115,32,97,114,101,32,97,32,116,101,120,116,32,111,102,32,97,44,32,98,44,32,99,44,32,101,97,99,104,32,111,110,99,101,44,32,105,110,32,97,110,121,32,111,114,100,101,114])) b))) (dD)
def pf(a:Ad):ak->R Slot:=bh 1 [] (bj 0 (yap a))
def yaU(a:Ad):ak->R aK:=bY (ko sr (dC (.str [])) (ap (dF (dG [1] (bP (dV 0)) (eu) (d2 bG (dV 1) (ko tf (dC (.str [97,98,99])) (ap (dV 0) (aC)))))) (aC)))
def qh(a:Ad):ak->R Slot:=bh 2 [] (bj 0 (yaU a))
def yaQ(a:Ad):ak->R aK:=aR (jK (aU (jC a) (gV (dV 0) (bA))))
 (aR (jK (aU (pf a) (gV (dV 1) (bA))))
 (kM (aU (vL a) (gV (d2 bG (dV 0) (dC (.int 0))) (gV (dF (dG [1] (bP (d2 bG (dV 0) (dC (.int 1)))) (eu) (bn (aU (qh a) (gV (dV 0) (gV (dV 1) (bA))))))) (bA))))))
def nk(a:Ad):ak->R Slot:=bh 2 [] (bj 0 (yaQ a))
def yar(a:Ad):ak->R aK:=aR (eY 1 (sH))
 (aR (λb=>dQ (et 2 (bP (dV 0)) (fO 1 (dV 2) (d2 bF (iU 1 (dV 2) (dC (.int 0))) (dC (.int 1)))) b))
 (kW 1))
def vI(a:Ad):ak->R Slot:=bh 1 [] (bj 2 (yar a))
def yam(a:Ad)(c:ak->R Slot):ak->R aK:=aR (cE (jY (dB (uY 2))) (aR (nB 3 (dV 0)) (vJ (.ret (.val .non)))) (dD))
 (aR (cp 4 (bV bZ (dV 0) (bT (d2 bF (d2 iV (dL bx (ap (dV 0) (aC))) (dV 1)) (dC (.int 1)))) (b9)))
 (λb=>dQ (et 5 (bP (dC (.str [97,98,99]))) (aR (cp 6 (d2 bF (dV 4) (dV 5)))
 (cE (dB (d2 (fA λi j=>decide (j<i)) (iU 2 (dV 6) (dC (.int 0))) (dC (.int 0)))) (aR (fO 2 (dV 6) (d2 iV (nM 2 (dV 6)) (dC (.int 1))))
 (aR (jK (aU (c) (gV (d2 bF (dV 0) (dV 5)) (gV (dV 1) (gO 2 (gO 3 (bA)))))))
 (fO 2 (dV 6) (d2 bF (nM 2 (dV 6)) (dC (.int 1)))))) (dD))) b)))
def pc(a:Ad):Nat->ak->R Slot
 |0=>bh 4 [2,3] (bj 3 A8)
 |k+1=>bh 4 [2,3] (bj 3 (yam a (pc a k)))
def yaS(a:Ad):ak->R aK:=aR (jK (aU (jC a) (gV (dV 0) (bA))))
 (aR (cp 1 (d2 bG (dV 0) (dC (.int 0))))
 (aR (eY 2 (dL fj (aC)))
 (aR (λb=>dQ (et 3 (bP (dF (dL vt (ap (dF (dG [] (bP (d2 bG (dV 0) (dC (.int 1)))) (eu) (bV bZ (dV 0) (b9) (bT (d1 dP (dC (.int 1))))))) (aC))))) (jK (pR (pc a 12) (nA (dV 3) (nA (dV 1) (gN (kr (aU (vI a) (gV (d2 bG (dV 0) (dC (.int 1))) (bA)))) (gO 2 (bA))))))) b))
 (kW 2))))
def s_(a:Ad):ak->R Slot:=bh 1 [] (bj 3 (yaS a))
def yaw(a:Ad):ak->R aK:=bY (dL bx (ap (bn (aU (s_ a) (gV (dV 0) (bA)))) (aC)))
def uX(a:Ad):ak->R Slot:=bh 1 [] (bj 0 (yaw a))
def yan(a:Ad):ak->R aK:=aR (λb=>dQ (et 2 (dL uA (ap (d2 iV (dL bx (ap (dV 1) (aC))) (dC (.int 1))) (ap (dC (.int 0)) (ap (d1 dP (dC (.int 1))) (aC))))) (cE (dB (ko uy (dV 0) (ap (bV bZ (dV 1) (b9) (bT (dV 2))) (aC)))) (bY (bV bZ (dV 1) (bT (dV 2)) (b9))) (dD)) b))
 (bY (dV 1))
def uN(a:Ad):ak->R Slot:=bh 2 [] (bj 1 (yan a))
def yaV(a:Ad):ak->R aK:=aR (cp 2 (AC nI (dV 0) (dV 1)))
 (bY (d2 rZ (bV bZ (dV 0) (b9) (bT (dV 2))) (bV bZ (dV 0) (bT (d2 rZ (dV 2) (dC (.int 1)))) (b9))))
def uV(a:Ad):ak->R Slot:=bh 2 [] (bj 1 (yaV a))
def yaO(a:Ad)(rc:ak->R Slot):ak->R aK:=aR (cE (dB (d2 (eqT aj) (dL bx (ap (dV 1) (aC))) (dC (.int 0)))) (bY (dC (.str []))) (dD))
 (aR (cE (dB (qM ah 2 (dL bQ (ap (dV 0) (ap (dV 1) (aC)))))) (aR (eY 3 (dL fj (aC)))
 (aR (λb=>dQ (et 4 (bP (dF (dL qF (ap (dV 1) (aC))))) (nB 3 (d2 bF (bn (aU (uN a) (gV (dV 0) (gV (dV 4) (bA))))) (bn (aU (rc) (gV (dV 4) (gV (bn (aU (uV a) (gV (dV 1) (gV (dV 4) (bA))))) (gO 2 (bA)))))))) b))
 (vr 2 (dL bQ (ap (dV 0) (ap (dV 1) (aC)))) (sA 3)))) (dD))
 (bY (vH 2 (dL bQ (ap (dV 0) (ap (dV 1) (aC)))))))
def lm(a:Ad):Nat->ak->R Slot
 |0=>bh 3 [2] (bj 2 A8)
 |k+1=>bh 3 [2] (bj 2 (yaO a (lm a k)))
def yaR(a:Ad):ak->R aK:=aR (jK (aU (jC a) (gV (dV 0) (bA))))
 (kM (pR (lm a 10) (nA (dC (.str [])) (nA (d2 bG (dV 0) (dC (.int 1))) (gN (BR) (bA))))))
def vh(a:Ad):ak->R Slot:=bh 1 [] (bj 0 (yaR a))
def yas(a:Ad):ak->R aK:=aR (eY 1 (sH))
 (aR (λb=>dQ (et 2 (bP (dV 0)) (aR (fO 1 (bV bZ (dV 2) (b9) (bT (d1 dP (dC (.int 1))))) (d2 bF (iU 1 (bV bZ (dV 2) (b9) (bT (d1 dP (dC (.int 1))))) (dC (.int 0))) (dC (.int 1))))
 (fO 1 (bV bZ (dV 2) (bT (dC (.int 1))) (b9)) (d2 iV (iU 1 (bV bZ (dV 2) (bT (dC (.int 1))) (b9)) (dC (.int 0))) (dC (.int 1))))) b))
 (kW 1))
def xA(a:Ad):ak->R Slot:=bh 1 [] (bj 2 (yas a))
def yaP(a:Ad):ak->R aK:=aR (eY 1 (uv (bV bZ (d2 bG (dV 0) (dC (.int 0))) (b9) (bT (d1 dP (dC (.int 1))))) (dC (.bl ah))))
 (aR (cp 2 (dC (.int 0)))
 (aR (λb=>dQ (gm (dB (d2 (fA λi j=>decide (i<j)) (dV 2) (nH 1))) (aR (cp 2 (nH 1))
 (et 3 (bP (dV 0)) (cE (iI (dB (gC aj 1 (bV bZ (dV 3) (b9) (bT (d1 dP (dC (.int 1))))))) (dB (gC aj 1 (bV bZ (dV 3) (bT (dC (.int 1))) (b9))))) (aR (fO 1 (bV bZ (dV 3) (b9) (bT (d1 dP (dC (.int 1))))) (dC (.bl ah)))
 (fO 1 (bV bZ (dV 3) (bT (dC (.int 1))) (b9)) (dC (.bl ah)))) (dD)))) 1000 b))
 (kW 1)))
def ve(a:Ad):ak->R Slot:=bh 1 [] (bj 3 (yaP a))
def yat(a:Ad):ak->R aK:=aR (eY 1 (kr (aU (xA a) (gV (dV 0) (bA)))))
 (bY (dL sT (ap (dC (.int 1)) (ap (dL sP (ap (dF (qy 1)) (aC))) (aC)))))
def ze(a:Ad):ak->R Slot:=bh 1 [] (bj 1 (yat a))
def yau(a:Ad):ak->R aK:=aR (jK (aU (jC a) (gV (dV 0) (bA))))
 (aR (cp 1 (d2 bG (dV 0) (dC (.int 1))))
 (aR (cp 2 (dC (.int 0)))
 (aR (λb=>dQ (gm (dB (d2 (fA λi j=>decide (j<i)) (dL bx (ap (dV 1) (aC))) (dC (.int 0)))) (aR (eY 3 (kr (aU (ve a) (gV (dV 1) (bA)))))
 (aR (cp 2 (d2 bF (dV 2) (bn (aU (ze a) (gV (dF (dG [3] (bP (dV 1)) (dB (gC aj 1 (bV bZ (dV 0) (b9) (bT (d1 dP (dC (.int 1))))))) (dV 0))) (bA))))))
 (cp 1 (dF (dG [3] (bP (dV 1)) (dB (gC ah 1 (bV bZ (dV 0) (b9) (bT (d1 dP (dC (.int 1))))))) (dV 0)))))) 1000 b))
 (bY (dV 2)))))
def uH(a:Ad):ak->R Slot:=bh 1 [] (bj 3 (yau a))
def yaE(a:Ad):ak->R aK:=aR (cE (dB (d2 (fA λi j=>decide (i<j)) (dV 1) (dL bx (ap (dV 0) (aC))))) (bY (d2 bG (dV 0) (dV 1))) (dD))
 (aR (cE (dB (d2 (eqT aj) (dV 0) (dF (dL fj (aC))))) (bY (dC (.int 0))) (dD))
 (bY (d2 bF (d2 lE (d2 bG (dV 0) (d2 gR (dV 1) (dL bx (ap (dV 0) (aC))))) (dC (.int 31))) (dV 1))))
def sJ(a:Ad):ak->R Slot:=bh 2 [] (bj 0 (yaE a))
def yaG(a:Ad):ak->R aK:=aR (cp 3 (d2 gR (d2 bF (d2 bF (d2 lE (bn (aU (sJ a) (gV (dV 0) (gV (dV 1) (bA))))) (dC (.int 1103515245))) (d2 lE (dC (.int 7919)) (dV 1))) (dC (.int 12345))) (dC (.int 2147483647))))
 (bY (d2 gR (d2 gR (d2 gR (d2 uR (dV 3) (dC (.int 5))) (dC (.int 2147483647))) (dC (.int 999983))) (dV 2)))
def y8(a:Ad):ak->R Slot:=bh 3 [] (bj 1 (yaG a))
def yaF(a:Ad):ak->R aK:=aR (nB 1 (dC (.int 0)))
 (kM (aU (y8 a) (gV (dV 0) (gV (kx (λxs=>qd (bx xs)) 1) (gV (dV 2) (bA))))))
def j7(a:Ad):ak->R Slot:=bh 3 [1] (bj 0 (yaF a))
def yaI(a:Ad):ak->R aK:=bY (d2 bG (dV 2) (bn (aU (j7 a) (gV (dV 0) (gO 1 (gV (dL bx (ap (dV 2) (aC))) (bA)))))))
def qt(a:Ad):ak->R Slot:=bh 3 [1] (bj 0 (yaI a))
def yaL(a:Ad):ak->R aK:=aR (cp 4 (bn (aU (qt a) (gV (dV 0) (gO 1 (gV (dF (dL fj (ap (dC (.int 1)) (ap (dC (.int 2)) (ap (dC (.int 2)) (ap (dC (.int 3)) (ap (dC (.int 3)) (ap (dC (.int 3)) (aC))))))))) (bA)))))))
 (aR (cp 5 (dC (.str [])))
 (aR (λb=>dQ (et 6 (dL nE (ap (d2 bF (dV 2) (bn (aU (j7 a) (gV (dV 0) (gO 1 (gV (d2 bF (d2 iV (dV 3) (dV 2)) (dC (.int 1))) (bA))))))) (aC))) (cp 5 (d2 bF (dV 5) (d2 bG (dC (.str [97,98,99])) (bn (aU (j7 a) (gV (dV 0) (gO 1 (gV (dV 4) (bA))))))))) b))
 (bY (dV 5))))
def sm(a:Ad):ak->R Slot:=bh 4 [1] (bj 3 (yaL a))
def yaK(a:Ad):ak->R aK:=bY (dL mn (ap (dF (dL lv (ap (dF (dG [0,1] (dL nE (ap (dL bx (ap (dV 0) (aC))) (aC))) (dB (d2 (fA λi j=>decide (i<=j)) (d2 bF (dV 0) (dV 2)) (dL bx (ap (dV 1) (aC))))) (bV bZ (dV 1) (bT (dV 0)) (bT (d2 bF (dV 0) (dV 2)))))) (aC)))) (aC)))
def xX(a:Ad):ak->R Slot:=bh 2 [] (bj 0 (yaK a))
def yaM(a:Ad):ak->R aK:=aR (cp 4 (cE (dB (d2 (eqT ah) (dV 2) (dC (.int 2)))) (d2 bF (dC (.int 2)) (bn (aU (j7 a) (gV (dV 0) (gO 1 (gV (dC (.int 3)) (bA))))))) (d2 bF (dC (.int 1)) (bn (aU (j7 a) (gV (dV 0) (gO 1 (gV (dC (.int 4)) (bA)))))))))
 (aR (eY 5 (dL sO (ap (bn (aU (xX a) (gV (bn (aU (sm a) (gV (dV 0) (gO 1 (gV (dV 4) (gV (d2 iV (d2 bF (dV 4) (dV 3)) (dC (.int 1))) (bA))))))) (gV (dV 4) (bA))))) (aC))))
 (aR (λb=>dQ (et 6 (dL nE (ap (d2 gR (dV 2) (dC (.int 3))) (aC))) (za 5 (bn (aU (j7 a) (gV (dV 0) (gO 1 (gV (kx (λxs=>qd (bx xs)) 5) (bA)))))) (bn (aU (sm a) (gV (dV 0) (gO 1 (gV (dV 4) (gV (dV 4) (bA)))))))) b))
 (bY (dL bQ (ap (dV 4) (ap (dL mn (ap (dF (kx (λxs=>sW (lv xs)) 5)) (aC))) (aC)))))))
def uo(a:Ad):ak->R Slot:=bh 4 [1] (bj 3 (yaM a))
def yaH(a:Ad):ak->R aK:=aR (cp 2 (dF (dL fj (ap (dC .non) (ap (dC (.int 5)) (ap (dC (.str [50,58,32,97,98])) (ap (dF (dL fj (ap (dC (.int 1)) (ap (dL bQ (ap (dC (.str [97])) (aC))) (aC))))) (ap (dL bQ (ap (dC (.int 1)) (ap (dL bQ (aC)) (aC)))) (ap (dL bQ (ap (dC (.int 2)) (ap (dL bQ (ap (dC (.str [97])) (aC))) (aC)))) (ap (dL bQ (ap (dC (.int 0)) (ap (dL bQ (ap (dC (.str [])) (aC))) (aC)))) (ap (dL bQ (ap (dC (.int 5)) (ap (dL bQ (ap (dC (.str [97,97,97,97,97])) (aC))) (aC)))) (ap (dL bQ (ap (dC (.bl ah)) (ap (dL bQ (ap (dC (.str [97])) (aC))) (aC)))) (aC)))))))))))))
 (aR (cp 2 (d2 bF (dV 2) (dF (dL fj (ap (dL bQ (ap (dC (.int 1)) (ap (dL bQ (ap (dC (.str [98])) (ap (dC (.str [97])) (aC)))) (aC)))) (ap (dL bQ (ap (dC (.int 1)) (ap (d2 xP (dL bQ (ap (dC (.str [97])) (aC))) (dC (.int 10))) (aC)))) (ap (dL bQ (ap (dC (.int 1)) (ap (dL bQ (ap (dC (.str [100])) (aC))) (aC)))) (ap (dL bQ (ap (dC (.int 1)) (ap (dL bQ (ap (dC (.str [65])) (aC))) (aC)))) (ap (dL bQ (ap (dC (.int 1)) (ap (dF (dL fj (ap (dC (.str [97])) (aC)))) (aC)))) (ap (dL bQ (ap (dC (.int 1)) (ap (dL bQ (ap (dC (.int 1)) (aC))) (aC)))) (aC)))))))))))
 (aR (cp 2 (d2 bF (dV 2) (dF (dL fj (ap (dL bQ (ap (dC (.int 1)) (aC))) (ap (dL bQ (ap (dC (.int 1)) (ap (dL bQ (ap (dC (.str [97])) (aC))) (ap (dC (.int 1)) (aC))))) (ap (dL bQ (ap (dC (.str [49])) (ap (dL bQ (ap (dC (.str [97])) (aC))) (aC)))) (aC))))))))
 (kM (aU (qt a) (gV (dV 0) (gO 1 (gV (dV 2) (bA))))))))
def zd(a:Ad):ak->R Slot:=bh 2 [1] (bj 1 (yaH a))
def yaN(a:Ad):ak->R aK:=aR (eY 1 (dL fj (ap (dL (j3 (jE a)) (ap (dV 0) (ap (dC (.raw (.ref a.NoText))) (aC)))) (ap (dL (j3 (jE a)) (ap (dV 0) (ap (dC (.raw (.ref a.NoWidth))) (aC)))) (ap (dL (j3 (jE a)) (ap (dV 0) (ap (dC (.raw (.ref a.NoView))) (aC)))) (ap (dL (j3 (jE a)) (ap (dV 0) (ap (dC (.raw (.ref a.NoWindow))) (aC)))) (aC)))))))
 (aR (yv 1 (dF (dL fj (ap (dL (j3 (jE a)) (ap (dV 0) (ap (dC (.raw (.ref a.Never))) (aC)))) (ap (dL (j3 (jE a)) (ap (dV 0) (ap (dC (.raw (.ref a.Full))) (aC)))) (ap (dL (j3 (jE a)) (ap (dV 0) (ap (dC (.raw (.ref a.Nothing))) (aC)))) (ap (dL (j3 (jE a)) (ap (dV 0) (ap (dC (.raw (.ref a.Unlike))) (aC)))) (aC))))))))
 (aR (yv 1 (dF (dL fj (ap (dL (j3 (jE a)) (ap (dV 0) (ap (dC (.raw (.ref a.NoPlace))) (aC)))) (ap (dL (j3 (jE a)) (ap (dV 0) (ap (dC (.raw (.ref a.NoLetters))) (aC)))) (ap (dL (j3 (jE a)) (ap (dV 0) (ap (dC (.raw (.ref a.BadText))) (aC)))) (aC)))))))
 (aR (cE (iI (dB (d2 (eqT ah) (sK A4 1 (dC (.bl ah))) (dC (.int 1)))) (jY (dB (dL (j3 (jE a)) (ap (dV 0) (ap (dC (.raw (.ty "ValueError"))) (aC))))))) (bY (dL bQ (ap (dC (.str [114,101,102,117,115,101,100])) (ap (d1 dP (dC (.int 1))) (aC))))) (dD))
 (bY (dL bQ (ap (dC (.str [114,101,102,117,115,101,100])) (ap (sK nI 1 (dC (.bl ah))) (aC))))))))
def nJ(a:Ad):ak->R Slot:=bh 1 [] (bj 1 (yaN a))
def yaJ(a:Ad):ak->R aK:=bY (ko sr (dC (.str [])) (ap (dF (dG [1] (bP (dV 0)) (eu) (d2 bG (dV 1) (ko tf (dC (.str [97,98,99])) (ap (dV 0) (aC)))))) (aC)))
def pZ(a:Ad):ak->R Slot:=bh 2 [] (bj 0 (yaJ a))
end Sh
local macro_rules | `(tactic| and_intros) => `(tactic| (refine' Pu.UQ ?a ?l ?c ?k; (case a => k_is); (case l => k_is); (case c => k_is); (case k => k_is)))
namespace K36
open L2 Pu Sh
def c7(i:Nat):ba:=PySem.Challenge.pw_slitview_k36_whole_renamed.main.body.getD i (.Pass ⟨0,0,0,0⟩)
abbrev An:ba:=c7 47
abbrev Aa:ba:=c7 48
abbrev Bn:ba:=c7 49
abbrev Cm:ba:=c7 50
abbrev xt:ba:=c7 52
abbrev A7:ba:=c7 51
abbrev AE:ba:=c7 53
abbrev AM:ba:=c7 18
abbrev Cz:ba:=c7 19
abbrev xO:ba:=c7 17
abbrev B7:ba:=c7 20
abbrev xS:ba:=c7 21
abbrev B0:ba:=c7 22
abbrev BC:ba:=c7 23
abbrev CA:ba:=c7 24
abbrev Bu:ba:=c7 27
abbrev AI:ba:=c7 25
abbrev yt:ba:=c7 28
abbrev yr:ba:=c7 29
abbrev yA:ba:=c7 56
abbrev AX:ba:=c7 32
abbrev Ax:ba:=c7 31
abbrev zh:ba:=c7 33
abbrev Au:ba:=c7 42
abbrev Af:ba:=c7 41
abbrev yz:ba:=c7 44
abbrev u8:ba:=c7 45
abbrev Bc:ba:=c7 34
abbrev A2:ba:=c7 55
abbrev AL:ba:=c7 57
abbrev A0:ba:=c7 36
abbrev Cg:ba:=c7 37
abbrev AY:ba:=c7 38
abbrev BX:ba:=c7 39
abbrev Cw:ba:=c7 54
abbrev rW:ba:=c7 58
structure cY(K:ay)(mg:Str->Option ai)(base:aB)(a:Ad):Prop where
 yaE:cD K mg "_law_cell_at" An
 yaG:cD K mg "_law_mixed" Aa
 yaF:cD K mg "_law_draw" Bn
 yaI:cD K mg "_law_pick" Cm
 yaK:cD K mg "_law_seen" xt
 yaL:cD K mg "_law_text" A7
 yaM:cD K mg "_law_view" AE
 yaz:cD K mg "is_whole_number" AM
 yaA:cD K mg "is_width" Cz
 yav:cD K mg "has_only" xO
 yaB:cD K mg "is_window" B7
 yao:cD K mg "are_windows" xS
 yay:cD K mg "is_view_with" B0
 yax:cD K mg "is_view" BC
 yaq:cD K mg "check_view" CA
 yap:cD K mg "check_letters" Bu
 yaT:cD K mg "view_of" AI
 yaU:cD K mg "with_letters" yt
 yaQ:cD K mg "renamed" yr
 yaJ:cD K mg "_law_rename" yA
 yam:cD K mg "add_endings" AX
 yar:cD K mg "counted" Ax
 yaS:cD K mg "texts" zh
 yaP:cD K mg "reached_pieces" Au
 yas:cD K mg "excesses" Af
 yat:cD K mg "fewest_for" yz
 yau:cD K mg "fewest_texts" u8
 yaw:cD K mg "how_many" Bc
 yaN:cD K mg "_law_which" A2
 yaD:cD K mg "_law_ask" AL
 yan:cD K mg "added_letters" A0
 yaV:cD K mg "without" Cg
 yaO:cD K mg "least_ending" AY
 yaR:cD K mg "shortest" BX
 yaH:cD K mg "_law_odd" Cw
 yaC:cD K mg "law" rW
 yaX:mg "ValueError"=ae
 yaY:mg "all"=ae
 yaZ:mg "any"=ae
 ya0:mg "bool"=ae
 ya1:mg "int"=ae
 ya2:mg "isinstance"=ae
 ya3:mg "len"=ae
 ya4:mg "list"=ae
 ya5:mg "max"=ae
 ya6:mg "min"=ae
 ya7:mg "range"=ae
 ya8:mg "set"=ae
 ya9:mg "sorted"=ae
 yba:mg "str"=ae
 ybb:mg "sum"=ae
 ybc:mg "tuple"=ae
 ybf:∃t,mg "LETTERS"=aa (.str (tS [97,98,99]) t)
 ybg:∃t,mg "MOST_WINDOWS"=aa (.int 9 t)
 ybh:∃t,mg "WIDEST"=aa (.int 4 t)
 yak:mg "SlitError"=aa (.ref a.SlitError)
 yaf:mg "NoText"=aa (.ref a.NoText)
 yah:mg "NoWidth"=aa (.ref a.NoWidth)
 yag:mg "NoView"=aa (.ref a.NoView)
 yai:mg "NoWindow"=aa (.ref a.NoWindow)
 yac:mg "Never"=aa (.ref a.Never)
 yab:mg "Full"=aa (.ref a.Full)
 yaj:mg "Nothing"=aa (.ref a.Nothing)
 yal:mg "Unlike"=aa (.ref a.Unlike)
 yae:mg "NoPlace"=aa (.ref a.NoPlace)
 yad:mg "NoLetters"=aa (.ref a.NoLetters)
 yaa:mg "BadText"=aa (.ref a.BadText)
 ybe:OwnCls "NoView" a.NoView [.type "ValueError",.type "Exception",.type "BaseException",.type "object"] "ValueError.__new__" mg base
 ybd:OwnCls "NoLetters" a.NoLetters [.type "ValueError",.type "Exception",.type "BaseException",.type "object"] "ValueError.__new__" mg base
 err_SlitError:qG base a.SlitError
 und:∀c,m_ a c=ah->Under base a.SlitError c
 tab:AV K (jE a)
 yaW:∃c T,Ca K mg "least_ending" c T
section
variable{P:aS}{w:aG}{K:ay}{d:Str->Option ai}{b:aB}{a:Ad}
theorem QY:b8 ["_law_script","_law_k"] ["_law_script","_law_k"] (a8 An):=by ac_nf
theorem Q9(G:cY K d b a):cN (cm P w) P w K d b "_law_cell_at" 1 ["_law_script","_law_k"] (bJ K (sJ a)) :=
 dm (k:=0) (pin:=[]) G.yaE QY rfl (λ_ _ _ _ _ _ g i=>Pu.US (λ_ _=>rfl) g i) (λf j A c s H E h=>by exact
  (bq (gW (iL HH lA (aq 1) (cV ir iA G.ya3 im (aw (aq 0) aF)) rfl) (bp (dv (gM gZ g7 (aq 0) (aq 1)))) gQ)
  (bq (gW (iL (vA h.units) uO (aq 0) (lB aF) rfl) (bp (dv aP)) gQ)
  (bp (dv (cM fW fP (cM Bh AT (gM gZ g7 (aq 0) (cM se tG (aq 1) (cV ir iA G.ya3 im (aw (aq 0) aF)))) aP) (aq 1)))))))
theorem PX:b8 ["_law_script","_law_k","_law_many","_law_drawn"] ["_law_script","_law_k","_law_many"] (a8 Aa):=by ac_nf
theorem Kf(G:cY K d b a):cN (cm P w) P w K d b "_law_mixed" 2 ["_law_script","_law_k","_law_many"] (bJ K (y8 a)) :=
 dm (k:=1) (pin:=[]) G.yaG PX rfl (λ_ _ _ _ _ _ g i=>Pu.U2 (λ_ _ _=>rfl) g i) (λf j A c s H E h=>by exact
  (bq (fQ 3 PX.nd (cM se tG (cM fW fP (cM fW fP (cM Bh AT ((bM (Q9 G) (h.mono (by decide)) cL (aT (aq 0) (aT (aq 1) bB)))).de aP) (cM Bh AT aP (aq 1))) aP) aP))
  (bp (dv (cM se tG (cM se tG (cM se tG (cM RW Uf (aq 3) aP) aP) aP) (aq 2))))))
theorem S_:b8 ["_law_script","_law_town","_law_many"] ["_law_script","_law_town","_law_many"] (a8 Bn):=by ac_nf
theorem pV(G:cY K d b a):cN (cm P w) P w K d b "_law_draw" 3 ["_law_script","_law_town","_law_many"] (bJ K (j7 a)) :=
 dm (k:=2) (pin:=[1]) G.yaF S_ rfl (λ_ _ _ _ _ _ g i=>Pu.U2 (λ_ _ _=>rfl) g i) (λf j A c s H E h=>by exact
  (bq (Bt 1 aP)
  (bp (r8 (bM (Kf G) (h.mono (by decide)) cL (aT (aq 0) (aT (Hj 1 ir iA G.ya3 im) (aT (aq 2) bB))))))))
theorem P0:b8 ["_law_script","_law_town","_law_some"] ["_law_script","_law_town","_law_some"] (a8 Cm):=by ac_nf
theorem zg(G:cY K d b a):cN (cm P w) P w K d b "_law_pick" 4 ["_law_script","_law_town","_law_some"] (bJ K (qt a)) :=
 dm (k:=3) (pin:=[1]) G.yaI P0 rfl (λ_ _ _ _ _ _ g i=>Pu.U2 (λ_ _ _=>rfl) g i) (λf j A c s H E h=>by exact
  (bp (dv (gM gZ g7 (aq 2) ((bM (pV G) (h.mono (by decide)) cL (aT (aq 0) (gP 1 (aT (cV ir iA G.ya3 im (aw (aq 2) aF)) bB))))).de))))
theorem Sl:b8 ["_law_text_here","_law_width"] ["_law_text_here","_law_width"] (a8 xt):=by ac_nf
theorem K3(G:cY K d b a):cN (cm P w) P w K d b "_law_seen" 1 ["_law_text_here","_law_width"] (bJ K (xX a)) :=
 dm (k:=0) (pin:=[]) G.yaK Sl rfl (λ_ _ _ _ _ _ i l=>Pu.US (λ_ _=>rfl) i l) (λf o A h s H E n=>by exact
  (bp (dv (zi yQ yV G.ybc sD (aw (sj si tu G.ya9 nD (aw (l7 (cap:=[0,1]) (N':=["_law_at","_law_text_here","_law_width"]) (jD.of ["_law_text_here","_law_width"] (a8 xt) rfl rfl (by decide +kernel)) rfl (Ar G.ya7 (aw (cV ir iA G.ya3 im (aw (aq 0) aF)) aF)) (λC c g m j=>by exact Bs (iL pQ lA (cM fW fP (aq 0) (aq 2)) (cV ir iA G.ya3 im (aw (aq 1) aF)) rfl)) (λC c g m j=>by exact(iu iz ix (aq 1) (gL (aq 0)) (gL (cM fW fP (aq 0) (aq 2)))))).de aF)).de aF)))))
theorem TZ:b8 ["_law_script","_law_town","_law_low","_law_most","_law_few","_law_made","_law_k"] ["_law_script","_law_town","_law_low","_law_most"] (a8 A7):=by ac_nf
theorem EU(G:cY K d b a):cN (cm P w) P w K d b "_law_text" 5 ["_law_script","_law_town","_law_low","_law_most"] (bJ K (sm a)) :=
 dm (k:=4) (pin:=[1]) G.yaL TZ rfl (λ_ _ _ _ _ _ h i=>Pu.Ve (λ_ _ _ _=>rfl) h i) (λf j A c s H E g=>by exact
  (bq (fQ 4 TZ.nd ((bM (zg G) (g.mono (by decide)) cL (aT (aq 0) (gP 1 (aT (lB (aw aP (aw aP (aw aP (aw aP (aw aP (aw aP aF))))))) bB))))).de)
  (bq (fQ 5 TZ.nd (ce []))
  (bq (me (nt 6 mM rfl TZ.nd (Ar G.ya7 (aw (cM fW fP (aq 2) ((bM (pV G) (g.mono (by decide)) jl (aT (aq 0) (gP 1 (aT (cM fW fP (cM r9 sd (aq 3) (aq 2)) aP) bB))))).de) aF)) (bp (fQ 5 TZ.nd (cM fW fP (aq 5) (gM gZ g7 (ce [97,98,99]) ((bM (pV G) (g.mono (by decide)) jl (aT (aq 0) (gP 1 (aT (aq 4) bB))))).de))))))
  (bp (dv (aq 5)))))))
theorem SO:b8 ["_law_script","_law_town","_law_spoil","_law_most","_law_width","_law_windows","_law_k"] ["_law_script","_law_town","_law_spoil","_law_most"] (a8 AE):=by ac_nf
theorem RL(G:cY K d b a):cN (cm P w) P w K d b "_law_view" 6 ["_law_script","_law_town","_law_spoil","_law_most"] (bJ K (uo a)) :=
 dm (k:=5) (pin:=[1]) G.yaM SO rfl (λ_ _ _ _ _ _ h i=>Pu.Ve (λ_ _ _ _=>rfl) h i) (λf j A g s H E c=>by exact
  (bq (fQ 4 SO.nd (PU (iL (l9 c.units) mr (aq 2) aP rfl) (cM fW fP aP ((bM (pV G) (c.mono (by decide)) cL (aT (aq 0) (gP 1 (aT aP bB))))).de) (cM fW fP aP ((bM (pV G) (c.mono (by decide)) cL (aT (aq 0) (gP 1 (aT aP bB))))).de)))
  (bq (mw 5 SO.nd (Ba Ix GY G.ya4 AG (aw ((bM (K3 G) (c.mono (by decide)) cL (aT ((bM (EU G) (c.mono (by decide)) cL (aT (aq 0) (gP 1 (aT (aq 4) (aT (cM r9 sd (cM fW fP (aq 4) (aq 3)) aP) bB)))))).de (aT (aq 4) bB)))).de aF)))
  (bq (me (nt 6 mM rfl SO.nd (Ar G.ya7 (aw (cM se tG (aq 2) aP) aF)) (bp (Qs 5 ((bM (pV G) (c.mono (by decide)) jl (aT (aq 0) (gP 1 (aT (Hj 5 ir iA G.ya3 im) bB))))).de ((bM (EU G) (c.mono (by decide)) jl (aT (aq 0) (gP 1 (aT (aq 4) (aT (aq 4) bB)))))).de))))
  (bp (dv (cS (aw (aq 4) (aw (zi yQ yV G.ybc sD (aw (QA 5 si tu G.ya9 nD).de aF)) aF)))))))))
theorem NR:b8 ["thing"] ["thing"] (a8 AM):=by ac_nf
theorem LB(G:cY K d b a):cN (cm P w) P w K d b "is_whole_number" 1 ["thing"] (bJ K (nh a)) :=
 dm (k:=0) (pin:=[]) G.yaz NR rfl (λ_ _ _ _ _ _ g h=>Pu.U5 (λ_=>rfl) g h) (λf j A c s H E i=>by exact
  (bp (dv (vj (cV pY qw G.ya2 io (aw (aq 0) (aw (p8 G.ya1 Qr) aF))) (xr (Rw (cV pY qw G.ya2 io (aw (aq 0) (aw (p8 G.ya0 Qc) aF)))))))))
theorem SN:b8 ["thing"] ["thing"] (a8 Cz):=by ac_nf
theorem NE(G:cY K d b a):cN (cm P w) P w K d b "is_width" 2 ["thing"] (bJ K (nN a)) :=
 dm (k:=1) (pin:=[]) G.yaA SN rfl (λ_ _ _ _ _ _ g i=>Pu.U5 (λ_=>rfl) g i) (λf j A c s H E h=>by exact
  (bp (dv (vj ((bM (LB G) (h.mono (by decide)) cL (aT (aq 0) bB))).de (xr (Tt pQ pQ lA lA aP (aq 0) (Cb G.ybh)))))))
theorem LV:b8 ["text","signs"] ["text","signs"] (a8 xO):=by ac_nf
theorem P6(G:cY K d b a):cN (cm P w) P w K d b "has_only" 1 ["text","signs"] (bJ K (y_ a)) :=
 dm (k:=0) (pin:=[]) G.yav LV rfl (λ_ _ _ _ _ _ i l=>Pu.US (λ_ _=>rfl) i l) (λf o A h s H E n=>by exact
  (bp (dv (cV (HU rfl) IM G.yaY Iy (aw (l7 (cap:=[1]) (N':=["sign","signs"]) (jD.of ["text","signs"] (a8 xO) rfl rfl (by decide +kernel)) rfl (jn (aq 0)) (λC c g m j=>by exact oQ) (λC c g m j=>by exact(yY R9 Kz (aq 0) (aq 1) rfl))).de aF)))))
theorem L6:b8 ["thing","width","signs"] ["thing","width","signs"] (a8 B7):=by ac_nf
theorem Np(G:cY K d b a):cN (cm P w) P w K d b "is_window" 2 ["thing","width","signs"] (bJ K (o8 a)) :=
 dm (k:=1) (pin:=[]) G.yaB L6 rfl (λ_ _ _ _ _ _ h i=>Pu.U2 (λ_ _ _=>rfl) h i) (λf j A c s H E g=>by exact
  (bp (dv (vj (cV pY qw G.ya2 io (aw (aq 0) (aw (p8 G.yba Gm) aF))) (vj (yY (vA g.units) uO (cV ir iA G.ya3 im (aw (aq 0) aF)) (aq 1) rfl) (xr ((bM (P6 G) (g.mono (by decide)) cL (aT (aq 0) (aT (aq 2) bB)))).de))))))
theorem RG:b8 ["thing","width","signs"] ["thing","width","signs"] (a8 xS):=by ac_nf
theorem Og(G:cY K d b a):cN (cm P w) P w K d b "are_windows" 3 ["thing","width","signs"] (bJ K (ku a)) :=
 dm (k:=2) (pin:=[]) G.yao RG rfl (λ_ _ _ _ _ _ j m=>Pu.U2 (λ_ _ _=>rfl) j m) (λf o A h s H E i=>by exact
  (bq (gW ((p9 (nj (pi (cV pY qw G.ya2 io (aw (aq 0) (aw (p8 G.ybc sD) aF))))) (p6 (nj (EX pQ pQ lA lA aP (cV ir iA G.ya3 im (aw (aq 0) aF)) (Cb G.ybg)))))).dt (bp (dv kt)) gQ)
  (bq (gW (nj (pi (cV (HU rfl) IM G.yaY Iy (aw (l7 (cap:=[1,2]) (N':=["window","width","signs"]) (jD.of ["thing","width","signs"] (a8 xS) rfl rfl (by decide +kernel)) rfl (jn (aq 0)) (λC c g n l=>by exact oQ) (λC c g n l=>by exact((bM (Np G) (i.mono (by decide)) jl (aT (aq 0) (aT (aq 1) (aT (aq 2) bB))))).de)).de aF)))) (bp (dv kt)) gQ)
  (bp (dv (yY (vA i.units) uO (Ba Ix GY G.ya4 AG (aw (aq 0) aF)).de (sj si tu G.ya9 nD (aw (aq 0) aF)).de rfl))))))
theorem Kn:b8 ["thing","signs"] ["thing","signs"] (a8 B0):=by ac_nf
theorem L8(G:cY K d b a):cN (cm P w) P w K d b "is_view_with" 4 ["thing","signs"] (bJ K (iR a)) :=
 dm (k:=3) (pin:=[]) G.yay Kn rfl (λ_ _ _ _ _ _ h i=>Pu.US (λ_ _=>rfl) h i) (λf j A c s H E g=>by exact
  (bq (gW ((p9 (nj (pi (cV pY qw G.ya2 io (aw (aq 0) (aw (p8 G.ybc sD) aF))))) (p6 (iL (l9 g.units) mr (cV ir iA G.ya3 im (aw (aq 0) aF)) aP rfl)))).dt (bp (dv kt)) gQ)
  (bp (dv (vj ((bM (NE G) (g.mono (by decide)) cL (aT (gM gZ g7 (aq 0) aP) bB))).de (xr ((bM (Og G) (g.mono (by decide)) cL (aT (gM gZ g7 (aq 0) aP) (aT (gM gZ g7 (aq 0) aP) (aT (aq 1) bB))))).de))))))
theorem Ll:b8 ["thing"] ["thing"] (a8 BC):=by ac_nf
theorem Rz(G:cY K d b a):cN (cm P w) P w K d b "is_view" 5 ["thing"] (bJ K (o6 a)) :=
 dm (k:=4) (pin:=[]) G.yax Ll rfl (λ_ _ _ _ _ _ g i=>Pu.U5 (λ_=>rfl) g i) (λf j A c s H E h=>by exact
  (bp (r8 (bM (L8 G) (h.mono (by decide)) cL (aT (aq 0) (aT (y3 G.ybf) bB))))))
theorem T5:b8 ["thing"] ["thing"] (a8 CA):=by ac_nf
theorem yS(G:cY K d b a):cN (cm P w) P w K d b "check_view" 6 ["thing"] (bJ K (jC a)) :=
 dm (k:=5) (pin:=[]) G.yaq T5 rfl (λ_ _ _ _ _ _ g i=>Pu.U5 (λ_=>rfl) g i) (λf j A c s H E h=>by exact
  (bp (gW (nj (pi ((bM (Rz G) (h.mono (by decide)) cL (aT (aq 0) bB))).de)) (bp (Bz Ap rfl G.ybe JK (ce [97,32,118,105,101,119,32,105,115,32,97,32,116,117,112,108,101,32,111,102,32,97,32,119,105,100,116,104,32,97,110,100,32,97,32,114,105,115,105,110,103,32,116,117,112,108,101,32,111,102,32,49,32,116,111,32,57,32,119,105,110,100,111,119,115]))) gQ)))
theorem MG:b8 ["thing"] ["thing"] (a8 Bu):=by ac_nf
theorem Tu(G:cY K d b a):cN (cm P w) P w K d b "check_letters" 1 ["thing"] (bJ K (pf a)) :=
 dm (k:=0) (pin:=[]) G.yap MG rfl (λ_ _ _ _ _ _ g i=>Pu.U5 (λ_=>rfl) g i) (λf j A c s H E h=>by exact
  (bp (gW ((p9 (nj (pi (cV pY qw G.ya2 io (aw (aq 0) (aw (p8 G.yba Gm) aF))))) (p6 (iL (l9 h.units) mr (sj (NG rfl) Uq G.ya9 nD (aw (aq 0) aF)).de (Ba (Rv rfl) P9 G.ya4 AG (aw (y3 G.ybf) aF)).de rfl)))).dt (bp (Bz Ap rfl G.ybd JK (ce [116,104,101,32,108,101,116,116,101,114,115,32,97,114,101,32,97,32,116,101,120,116,32,111,102,32,97,44,32,98,44,32,99,44,32,101,97,99,104,32,111,110,99,101,44,32,105,110,32,97,110,121,32,111,114,100,101,114]))) gQ)))
theorem SK:b8 ["width","windows"] ["width","windows"] (a8 AI):=by ac_nf
theorem Mh(G:cY K d b a):cN (cm P w) P w K d b "view_of" 1 ["width","windows"] (bJ K (vL a)) :=
 dm (k:=0) (pin:=[]) G.yaT SK rfl (λ_ _ _ _ _ _ g h=>Pu.US (λ_ _=>rfl) g h) (λf j A c s H E i=>by exact
  (bq (gW (nj (EX pQ pQ lA lA aP (cV ir iA G.ya3 im (aw (aq 1) aF)) (Cb G.ybg))) (bp (Bz Ap rfl G.ybe JK (ce [97,32,118,105,101,119,32,104,97,115,32,49,32,116,111,32,57,32,119,105,110,100,111,119,115]))) gQ)
  (bp (dv (cS (aw (aq 0) (aw (zi yQ yV G.ybc sD (aw (sj si tu G.ya9 nD (aw (aq 1) aF)).de aF)) aF)))))))
theorem Uo:b8 ["window","letters"] ["window","letters"] (a8 yt):=by ac_nf
theorem ND(G:cY K d b a):cN (cm P w) P w K d b "with_letters" 1 ["window","letters"] (bJ K (qh a)) :=
 dm (k:=0) (pin:=[]) G.yaU Uo rfl (λ_ _ _ _ _ _ i l=>Pu.US (λ_ _=>rfl) i l) (λf o A h s H E n=>by exact
  (bp (dv (uS PySem.F.slot_str_join PySem.F.type_str_join Fd GP (ce []) (aw (l7 (cap:=[1]) (N':=["letter","letters"]) (jD.of ["window","letters"] (a8 yt) rfl rfl (by decide +kernel)) rfl (jn (aq 0)) (λC c g m j=>by exact oQ) (λC c g m j=>by exact(gM gZ g7 (aq 1) (uS PySem.F.slot_str_index PySem.F.type_str_index LZ He (y3 G.ybf) (aw (aq 0) aF))))).de aF)))))
theorem OA:b8 ["view","letters"] ["view","letters"] (a8 yr):=by ac_nf
theorem Iw(G:cY K d b a):cN (cm P w) P w K d b "renamed" 7 ["view","letters"] (bJ K (nk a)) :=
 dm (k:=6) (pin:=[]) G.yaQ OA rfl (λ_ _ _ _ _ _ j m=>Pu.US (λ_ _=>rfl) j m) (λf o A i s H E h=>by exact
  (bq (pT (bM (yS G) (h.mono (by decide)) cL (aT (aq 0) bB)))
  (bq (pT (bM (Tu G) (h.mono (by decide)) cL (aT (aq 1) bB)))
  (bp (r8 (bM (Mh G) (h.mono (by decide)) cL (aT (gM gZ g7 (aq 0) aP) (aT (l7 (cap:=[1]) (N':=["window","letters"]) (jD.of ["view","letters"] (a8 yr) rfl rfl (by decide +kernel)) rfl (jn (gM gZ g7 (aq 0) aP)) (λC c g n l=>by exact oQ) (λC c g n l=>by exact((bM (ND G) (h.mono (by decide)) jl (aT (aq 0) (aT (aq 1) bB)))).de)).de bB))))))))
theorem R1:b8 ["_law_text_here","_law_letters"] ["_law_text_here","_law_letters"] (a8 yA):=by ac_nf
theorem El(G:cY K d b a):cN (cm P w) P w K d b "_law_rename" 1 ["_law_text_here","_law_letters"] (bJ K (pZ a)) :=
 dm (k:=0) (pin:=[]) G.yaJ R1 rfl (λ_ _ _ _ _ _ i l=>Pu.US (λ_ _=>rfl) i l) (λf o A h s H E n=>by exact
  (bp (dv (uS PySem.F.slot_str_join PySem.F.type_str_join Fd GP (ce []) (aw (l7 (cap:=[1]) (N':=["_law_sign","_law_letters"]) (jD.of ["_law_text_here","_law_letters"] (a8 yA) rfl rfl (by decide +kernel)) rfl (jn (aq 0)) (λC c g m j=>by exact oQ) (λC c g m j=>by exact(gM gZ g7 (aq 1) (uS PySem.F.slot_str_find PySem.F.type_str_find Ov He (ce [97,98,99]) (aw (aq 0) aF))))).de aF)))))
theorem EK:b8 ["text","width","left","found","head","letter","window"] ["text","width","left","found"] (a8 AX):=by ac_nf
theorem Oz(G:cY K d b a)(m:Nat):cN (cm P w) P w K d b "add_endings" (1+m) ["text","width","left","found"] (bJ K (pc a m)):=by
 induction m with
 |zero=>exact dm (k:=0) (pin:=[2,3]) G.yam EK rfl (λ_ _ _ _ _ _ h i=>Pu.Ve (λ_ _ _ _=>rfl) h i) (λf l A c s H E g=>Ia)
 |succ m j=>exact dm (k:=1+m) (pin:=[2,3]) G.yam EK rfl (λ_ _ _ _ _ _ h i=>Pu.Ve (λ_ _ _ _=>rfl) h i) (λf l A c s H E g=>by exact
  (bq (gW (nj (pi (Pp 2 rfl G.yaZ))) (bq (Bt 3 (aq 0))
  (bp S8)) gQ)
  (bq (fQ 4 EK.nd (iu iz ix (aq 0) (gL (cM fW fP (cM r9 sd (cV ir iA G.ya3 im (aw (aq 0) aF)) (aq 1)) aP)) iP))
  (bp (me (nt 5 mM rfl EK.nd (jn (y3 G.ybf)) (bq (fQ 6 EK.nd (cM fW fP (aq 4) (aq 5)))
  (bp (gW (iL F9 lA (yJ 2 g.units (aq 6) aP) aP rfl) (bq (qK 2 g.units (aq 6) (cM r9 sd (Ga 2 g.units (aq 6)) aP))
  (bq (pT (bM j (g.mono ∅) jl (aT (cM fW fP (aq 0) (aq 5)) (aT (aq 1) (gP 2 (gP 3 bB))))))
  (bp (qK 2 g.units (aq 6) (cM fW fP (Ga 2 g.units (aq 6)) aP))))) gQ)))))))))
theorem Lb:b8 ["windows","counts","window"] ["windows"] (a8 Ax):=by ac_nf
theorem MA(G:cY K d b a):cN (cm P w) P w K d b "counted" 1 ["windows"] (bJ K (vI a)) :=
 dm (k:=0) (pin:=[]) G.yar Lb rfl (λ_ _ _ _ _ _ h i=>Pu.U5 (λ_=>rfl) h i) (λf j A c s H E g=>by exact
  (bq (mw 1 Lb.nd (E3))
  (bq (me (nt 2 mM rfl Lb.nd (jn (aq 0)) (bp (qK 1 g.units (aq 2) (cM fW fP (yJ 1 g.units (aq 2) aP) aP)))))
  (bp (yu 1)))))
theorem T6:b8 ["view","width","found","head"] ["view"] (a8 zh):=by ac_nf
theorem Am(G:cY K d b a):cN (cm P w) P w K d b "texts" 14 ["view"] (bJ K (s_ a)) :=
 dm (k:=13) (pin:=[]) G.yaS T6 rfl (λ_ _ _ _ _ _ j m=>Pu.U5 (λ_=>rfl) j m) (λf o A h s H E i=>by exact
  (bq (pT (bM (yS G) (i.mono (by decide)) cL (aT (aq 0) bB)))
  (bq (fQ 1 T6.nd (gM gZ g7 (aq 0) aP))
  (bq (mw 2 T6.nd (uG aF))
  (bq (me (nt 3 mM rfl T6.nd (jn (M6 rfl (aw (l7 (cap:=[]) (N':=["window"]) (jD.of ["view","width","found","head"] (a8 zh) rfl rfl (by decide +kernel)) rfl (jn (gM gZ g7 (aq 0) aP)) (λC c g n l=>by exact oQ) (λC c g n l=>by exact(iu iz ix (aq 0) iP (gL (mo mi my aP))))).de aF) G.ya9 G.ya8).de) (bp (pT (HC (Oz G 12) (i.mono (by decide)) jl (xC (aq 3) (xC (aq 1) (FC (((bM (MA G) (i.mono (by decide)) jl (aT (gM gZ g7 (aq 0) aP) bB))).dn) (gP 2 bB)))))))))
  (bp (yu 2)))))))
theorem S9:b8 ["windows","reached","known","window"] ["windows"] (a8 Au):=by ac_nf
theorem RK(G:cY K d b a):cN (cm P w) P w K d b "reached_pieces" 1 ["windows"] (bJ K (ve a)) :=
 dm (k:=0) (pin:=[]) G.yaP S9 rfl (λ_ _ _ _ _ _ h i=>Pu.U5 (λ_=>rfl) h i) (λf j A g s H E c=>by exact
  (bq (mw 1 S9.nd (Nk (iu iz ix (gM gZ g7 (aq 0) aP) iP (gL (mo mi my aP))) kt))
  (bq (fQ 2 S9.nd aP)
  (bq (me (Gv (λ_=>1000) mM (iL HH lA (aq 2) (HK 1 G.ya3) rfl) (bq (fQ 2 S9.nd (HK 1 G.ya3))
  (bp (nt 3 mM rfl S9.nd (jn (aq 0)) (bp (gW ((p9 (Bp 1 c.units (iu iz ix (aq 3) iP (gL (mo mi my aP)))) (p6 (Bp 1 c.units (iu iz ix (aq 3) (gL aP) iP))))).dt (bq (qK 1 c.units (iu iz ix (aq 3) iP (gL (mo mi my aP))) kt)
  (bp (qK 1 c.units (iu iz ix (aq 3) (gL aP) iP) kt))) gQ)))))))
  (bp (yu 1))))))
theorem N4:b8 ["windows","excess","window"] ["windows"] (a8 Af):=by ac_nf
theorem QX(G:cY K d b a):cN (cm P w) P w K d b "excesses" 1 ["windows"] (bJ K (xA a)) :=
 dm (k:=0) (pin:=[]) G.yas N4 rfl (λ_ _ _ _ _ _ h i=>Pu.U5 (λ_=>rfl) h i) (λf j A g s H E c=>by exact
  (bq (mw 1 N4.nd (E3))
  (bq (me (nt 2 mM rfl N4.nd (jn (aq 0)) (bq (qK 1 c.units (iu iz ix (aq 2) iP (gL (mo mi my aP))) (cM fW fP (yJ 1 c.units (iu iz ix (aq 2) iP (gL (mo mi my aP))) aP) aP))
  (bp (qK 1 c.units (iu iz ix (aq 2) (gL aP) iP) (cM r9 sd (yJ 1 c.units (iu iz ix (aq 2) (gL aP) iP) aP) aP))))))
  (bp (yu 1)))))
theorem K7:b8 ["windows","excess"] ["windows"] (a8 yz):=by ac_nf
theorem KL(G:cY K d b a):cN (cm P w) P w K d b "fewest_for" 2 ["windows"] (bJ K (ze a)) :=
 dm (k:=1) (pin:=[]) G.yat K7 rfl (λ_ _ _ _ _ _ g i=>Pu.U5 (λ_=>rfl) g i) (λf j A c s H E h=>by exact
  (bq (mw 1 K7.nd (((bM (QX G) (h.mono (by decide)) cL (aT (aq 0) bB))).dn))
  (bp (dv (cV (Ph rfl) ME G.ya5 NO (aw aP (aw (cV (Ly rfl) Oo G.ybb rfl (aw (Ta 1 (jD.of ["windows","excess"] (a8 yz) rfl rfl (by decide +kernel)) rfl).de aF)) aF)))))))
theorem RN:b8 ["view","left","count","reached"] ["view"] (a8 u8):=by ac_nf
theorem HE(G:cY K d b a):cN (cm P w) P w K d b "fewest_texts" 7 ["view"] (bJ K (uH a)) :=
 dm (k:=6) (pin:=[]) G.yau RN rfl (λ_ _ _ _ _ _ m n=>Pu.U5 (λ_=>rfl) m n) (λf o A j s H E h=>by exact
  (bq (pT (bM (yS G) (h.mono (by decide)) cL (aT (aq 0) bB)))
  (bq (fQ 1 RN.nd (gM gZ g7 (aq 0) aP))
  (bq (fQ 2 RN.nd aP)
  (bq (me (Gv (λ_=>1000) mM (iL F9 lA (cV ir iA G.ya3 im (aw (aq 1) aF)) aP rfl) (bq (mw 3 RN.nd (((bM (RK G) (h.mono (by decide)) jl (aT (aq 1) bB))).dn))
  (bq (fQ 2 RN.nd (cM fW fP (aq 2) ((bM (KL G) (h.mono (by decide)) jl (aT (l7 (cap:=[3]) (N':=["window","reached"]) (jD.of ["view","left","count","reached"] (a8 u8) rfl rfl (by decide +kernel)) rfl (jn (aq 1)) (λC c g l i=>by exact Bs (Bp 1 h.units (iu iz ix (aq 0) iP (gL (mo mi my aP))))) (λC c g l i=>by exact(aq 0))).de bB))).de))
  (bp (KM 1 RN.nd (cap:=[3]) (N':=["window","reached"]) (jD.of ["view","left","count","reached"] (a8 u8) rfl rfl (by decide +kernel)) rfl (jn (aq 1)) (λC c g l i=>by exact Bs (OW 1 h.units (iu iz ix (aq 0) iP (gL (mo mi my aP))))) (λC c g l i=>by exact(aq 0))))))))
  (bp (dv (aq 2))))))))
theorem Qx:b8 ["view"] ["view"] (a8 Bc):=by ac_nf
theorem E_(G:cY K d b a):cN (cm P w) P w K d b "how_many" 15 ["view"] (bJ K (uX a)) :=
 dm (k:=14) (pin:=[]) G.yaw Qx rfl (λ_ _ _ _ _ _ g i=>Pu.U5 (λ_=>rfl) g i) (λf j A c s H E h=>by exact
  (bp (dv (cV ir iA G.ya3 im (aw ((bM (Am G) (h.mono (by decide)) cL (aT (aq 0) bB))).de aF)))))
theorem Ma:b8 ["_law_e","_law_own"] ["_law_e"] (a8 A2):=by ac_nf
theorem NS(G:cY K d b a):xQ P w K d b "_law_which" 1 ["_law_e"] (bJ K (nJ a)) :=
 Mf (k:=0) (pin:=[]) G.yaN Ma rfl (λ_ _ _ _ _ _ g i=>Pu.U5 (λ_=>rfl) g i) (λf j A c s H h=>by exact
  (bq (mw 1 Ma.nd (uG (aw (cV kX (kT G.tab) G.ya2 io (aw (aq 0) (aw (lw G.yaf) aF))) (aw (cV kX (kT G.tab) G.ya2 io (aw (aq 0) (aw (lw G.yah) aF))) (aw (cV kX (kT G.tab) G.ya2 io (aw (aq 0) (aw (lw G.yag) aF))) (aw (cV kX (kT G.tab) G.ya2 io (aw (aq 0) (aw (lw G.yai) aF))) aF))))))
  (bq (Gd 1 (lB (aw (cV kX (kT G.tab) G.ya2 io (aw (aq 0) (aw (lw G.yac) aF))) (aw (cV kX (kT G.tab) G.ya2 io (aw (aq 0) (aw (lw G.yab) aF))) (aw (cV kX (kT G.tab) G.ya2 io (aw (aq 0) (aw (lw G.yaj) aF))) (aw (cV kX (kT G.tab) G.ya2 io (aw (aq 0) (aw (lw G.yal) aF))) aF))))))
  (bq (Gd 1 (lB (aw (cV kX (kT G.tab) G.ya2 io (aw (aq 0) (aw (lw G.yae) aF))) (aw (cV kX (kT G.tab) G.ya2 io (aw (aq 0) (aw (lw G.yad) aF))) (aw (cV kX (kT G.tab) G.ya2 io (aw (aq 0) (aw (lw G.yaa) aF))) aF)))))
  (bq (gW ((p9 (iL (l9 h.units) mr (MK 1 kt) aP rfl) (p6 (nj (pi (cV kX (kT G.tab) G.ya2 io (aw (aq 0) (aw (p8 G.yaX RI) aF)))))))).dt (bp (dv (cS (aw (ce [114,101,102,117,115,101,100]) (aw (mo mi my aP) aF))))) gQ)
  (bp (dv (cS (aw (ce [114,101,102,117,115,101,100]) (aw (Lh 1 kt) aF))))))))))
def yaD(a:Ad):ak->R aK:=u_ 2 (m_ a) (yq (nk a) (gV (dV 0) (gV (dV 1) (bA)))) (kM (λc=>dq (aU (nJ a) (gV (dV 2) (bA)) c)))
def vk(a:Ad):ak->R Slot:=bh 2 [] (bj 1 (yaD a))
theorem SV:b8 ["_law_asked","_law_letters","_law_e"] ["_law_asked","_law_letters"] (a8 AL):=by ac_nf
theorem Fh(G:cY K d b a):cN (cm P w) P w K d b "_law_ask" 8 ["_law_asked","_law_letters"] (bJ K (vk a)) :=
 dm (k:=7) (pin:=[]) G.yaD SV rfl (λ_ _ _ _ _ _ j l=>Pu.US (λ_ _=>rfl) j l) (λf m A c s H E i=>by
  have g:=λh=>Room.hand (v:=aa (.ref h)) i;exact
  (bp (Nu 2 SV.nd (L7 (Iw G) (i.mono (by decide)) (aT (aq 0) (aT (aq 1) bB))) G.yak G.err_SlitError G.und (λh=>by exact(bp (r8 (Pj (NS G) ((g h).mono (by decide)) (aT (aq 2) bB))))))))
theorem Rc:b8 ["ahead","window","shared"] ["ahead","window"] (a8 A0):=by ac_nf
theorem Rs(G:cY K d b a):cN (cm P w) P w K d b "added_letters" 1 ["ahead","window"] (bJ K (uN a)) :=
 dm (k:=0) (pin:=[]) G.yan Rc rfl (λ_ _ _ _ _ _ g h=>Pu.US (λ_ _=>rfl) g h) (λf j A c s H E i=>by exact
  (bq (me (nt 2 mM rfl Rc.nd (Lu G.ya7 (aw (cM r9 sd (cV ir iA G.ya3 im (aw (aq 1) aF)) aP) (aw aP (aw (mo mi my aP) aF)))) (bp (gW (pi (uS PySem.F.slot_str_endswith PySem.F.type_str_endswith KU Td (aq 0) (aw (iu iz ix (aq 1) iP (gL (aq 2))) aF))) (bp (dv (iu iz ix (aq 1) (gL (aq 2)) iP))) gQ))))
  (bp (dv (aq 1)))))
theorem Qf:b8 ["windows","window","place"] ["windows","window"] (a8 Cg):=by ac_nf
theorem O9(G:cY K d b a):cN (cm P w) P w K d b "without" 1 ["windows","window"] (bJ K (uV a)) :=
 dm (k:=0) (pin:=[]) G.yaV Qf rfl (λ_ _ _ _ _ _ g h=>Pu.US (λ_ _=>rfl) g h) (λf j A c s H E i=>by exact
  (bq (fQ 2 Qf.nd (Ob (aq 0) (aq 1)))
  (bp (dv (cM EQ Ew (iu iz ix (aq 0) iP (gL (aq 2))) (iu iz ix (aq 0) (gL (cM EQ Ew (aq 2) aP)) iP))))))
theorem FR:b8 ["ahead","left","known","endings","window"] ["ahead","left","known"] (a8 AY):=by ac_nf
theorem K8(G:cY K d b a)(m:Nat):cN (cm P w) P w K d b "least_ending" (2+m) ["ahead","left","known"] (bJ K (lm a m)):=by
 induction m with
 |zero=>exact dm (k:=1) (pin:=[2]) G.yaO FR rfl (λ_ _ _ _ _ _ i j=>Pu.U2 (λ_ _ _=>rfl) i j) (λf o A h s H E g=>Ia)
 |succ m n=>exact R3 (k:=2+m) (pin:=[2]) G.yaW (by decide) G.yaO FR rfl (λ_ _ _ _ _ _ i j=>Pu.U2 (λ_ _ _=>rfl) i j) (λf o c T A h s H E g l=>by exact
  (bq (gW (iL (vA g.units) uO (cV ir iA G.ya3 im (aw (aq 1) aF)) aP rfl) (bp (dv (ce []))) gQ)
  (bq (gW (KO 2 g.units (cS (aw (aq 0) (aw (aq 1) aF)))) (bq (mw 3 FR.nd (uG aF))
  (bq (me (nt 4 mM rfl FR.nd (jn (Lz rfl (aw (aq 1) aF) G.ya9 G.ya8).de) (bp (Bt 3 (cM fW fP ((bM (Rs G) (g.mono ∅) jl (aT (aq 0) (aT (aq 4) bB)))).de ((bM n (g.mono ∅) jl (aT (aq 4) (aT ((bM (O9 G) (g.mono ∅) jl (aT (aq 1) (aT (aq 4) bB)))).de (gP 2 bB))))).de)))))
  (bp (Rh 2 g.units (cS (aw (aq 0) (aw (aq 1) aF))) (Mg 3 rfl g.d1 g.units (by first|exact l|exact xT.nox l) G.ya6 G.ya3))))) gQ)
  (bp (dv (Tn 2 g.units (cS (aw (aq 0) (aw (aq 1) aF)))))))))
theorem Os:b8 ["view"] ["view"] (a8 BX):=by ac_nf
theorem HY(G:cY K d b a):cN (cm P w) P w K d b "shortest" 13 ["view"] (bJ K (vh a)) :=
 dm (k:=12) (pin:=[]) G.yaR Os rfl (λ_ _ _ _ _ _ h i=>Pu.U5 (λ_=>rfl) h i) (λf j A c s H E g=>by exact
  (bq (pT (bM (yS G) (g.mono (by decide)) cL (aT (aq 0) bB)))
  (bp (r8 (HC (K8 G 10) (g.mono (by decide)) cL (xC (ce []) (xC (gM gZ g7 (aq 0) aP) (FC (Ug) bB))))))))
theorem KZ:b8 ["_law_script","_law_town","_law_some"] ["_law_script","_law_town"] (a8 Cw):=by ac_nf
theorem QI(G:cY K d b a):cN (cm P w) P w K d b "_law_odd" 5 ["_law_script","_law_town"] (bJ K (zd a)) :=
 dm (k:=4) (pin:=[1]) G.yaH KZ rfl (λ_ _ _ _ _ _ g i=>Pu.US (λ_ _=>rfl) g i) (λf j A c s H E h=>by exact
  (bq (fQ 2 KZ.nd (lB (aw Eb (aw aP (aw (ce [50,58,32,97,98]) (aw (lB (aw aP (aw (cS (aw (ce [97]) aF)) aF))) (aw (cS (aw aP (aw (cS aF) aF))) (aw (cS (aw aP (aw (cS (aw (ce [97]) aF)) aF))) (aw (cS (aw aP (aw (cS (aw (ce []) aF)) aF))) (aw (cS (aw aP (aw (cS (aw (ce [97,97,97,97,97]) aF)) aF))) (aw (cS (aw kt (aw (cS (aw (ce [97]) aF)) aF))) aF)))))))))))
  (bq (fQ 2 KZ.nd (cM fW fP (aq 2) (lB (aw (cS (aw aP (aw (cS (aw (ce [98]) (aw (ce [97]) aF))) aF))) (aw (cS (aw aP (aw (cM Uc TF (cS (aw (ce [97]) aF)) aP) aF))) (aw (cS (aw aP (aw (cS (aw (ce [100]) aF)) aF))) (aw (cS (aw aP (aw (cS (aw (ce [65]) aF)) aF))) (aw (cS (aw aP (aw (lB (aw (ce [97]) aF)) aF))) (aw (cS (aw aP (aw (cS (aw aP aF)) aF))) aF)))))))))
  (bq (fQ 2 KZ.nd (cM fW fP (aq 2) (lB (aw (cS (aw aP aF)) (aw (cS (aw aP (aw (cS (aw (ce [97]) aF)) (aw aP aF)))) (aw (cS (aw (ce [49]) (aw (cS (aw (ce [97]) aF)) aF))) aF))))))
  (bp (r8 (bM (zg G) (h.mono (by decide)) cL (aT (aq 0) (gP 1 (aT (aq 2) bB))))))))))
def yaC(a:Ad):ak->R aK:=aR (eY 1 (dL fj (aC)))
 (aR (cp 2 (bn (aU (j7 a) (gV (dV 0) (gO 1 (gV (dC (.int 3)) (bA)))))))
 (aR (cp 3 (bn (aU (qt a) (gV (dV 0) (gO 1 (gV (dF (dL fj (ap (dC (.str [97,98,99])) (ap (dC (.str [97,99,98])) (ap (dC (.str [98,97,99])) (ap (dC (.str [98,99,97])) (ap (dC (.str [99,97,98])) (ap (dC (.str [99,98,97])) (aC))))))))) (bA)))))))
 (aR (cp 4 (bn (aU (qt a) (gV (dV 0) (gO 1 (gV (dF (dL fj (ap (dC (.str [97,97,98])) (ap (dC (.str [97,98])) (ap (dC (.str [97,98,99,97])) (ap (dC (.str [])) (ap (dC .non) (ap (dC (.int 3)) (ap (dC (.str [65,98,67])) (ap (dC (.str [97,98,100])) (ap (dL bQ (ap (dC (.str [97])) (ap (dC (.str [98])) (ap (dC (.str [99])) (aC))))) (ap (dC (.str [99,99,99])) (ap (dC (.str [97,98,32])) (aC)))))))))))))) (bA)))))))
 (aR (cp 5 (bn (aU (uo a) (gV (dV 0) (gO 1 (gV (dV 2) (gV (dC (.int 7)) (bA))))))))
 (aR (cp 6 (bn (aU (nk a) (gV (dV 5) (gV (dV 3) (bA))))))
 (aR (cE (dB (d2 (eqT ah) (dV 6) (dL bQ (ap (d2 bG (dV 5) (dC (.int 0))) (ap (dL mn (ap (dF (dL lv (ap (dF (dG [3] (bP (d2 bG (dV 5) (dC (.int 1)))) (eu) (bn (aU (pZ a) (gV (dV 0) (gV (dV 1) (bA))))))) (aC)))) (aC))) (aC)))))) (bY (dC (.bl aj))) (dD))
 (aR (cE (dB (d2 (eqT ah) (bn (aU (s_ a) (gV (dV 6) (bA)))) (dF (dL lv (ap (dF (dG [3] (bP (bn (aU (s_ a) (gV (dV 5) (bA))))) (eu) (bn (aU (pZ a) (gV (dV 0) (gV (dV 1) (bA))))))) (aC)))))) (bY (dC (.bl aj))) (dD))
 (aR (cE (iI (dB (d2 (eqT ah) (bn (aU (uH a) (gV (dV 6) (bA)))) (bn (aU (uH a) (gV (dV 5) (bA)))))) (dB (d2 (eqT ah) (bn (aU (uX a) (gV (dV 6) (bA)))) (bn (aU (uX a) (gV (dV 5) (bA))))))) (bY (dC (.bl aj))) (dD))
 (aR (cE (iI (dB (d2 (eqT ah) (dL bx (ap (bn (aU (vh a) (gV (dV 6) (bA)))) (aC))) (dL bx (ap (bn (aU (vh a) (gV (dV 5) (bA)))) (aC))))) (dB (d2 (eqT ah) (bn (aU (vk a) (gV (dV 5) (gV (dV 4) (bA))))) (dL bQ (ap (dC (.str [114,101,102,117,115,101,100])) (ap (dC (.int 9)) (aC))))))) (bY (dC (.bl aj))) (dD))
 (bY (d2 (eqT aj) (bn (aU (vk a) (gV (bn (aU (zd a) (gV (dV 0) (gO 1 (bA))))) (gV (dV 4) (bA))))) (dL bQ (ap (dC (.str [114,101,102,117,115,101,100])) (ap (dC (.int 2)) (aC)))))))))))))))
def uC(a:Ad):ak->R Slot:=bh 1 [] (bj 6 (yaC a))
theorem Po:b8 ["_law_script","_law_town","_law_spoil","_law_letters","_law_wrong","_law_asked","_law_made"] ["_law_script"] (a8 rW):=by ac_nf
theorem O4(G:cY K d b a){f:ag}{m:iD}(p:qf K "law" "law" rW f m):lq P w K d b (cm P w) 16 f m ["_law_script"] (bJ K (uC a)) :=
 NY (k:=15) (pin:=[]) p Po rfl (λ_ _ _ _ _ _ n o=>Pu.U5 (λ_=>rfl) n o) (λf q A j s H E c=>by exact
  (bq (mw 1 Po.nd (uG aF))
  (bq (fQ 2 Po.nd ((bM (pV G) (c.mono (by decide)) cL (aT (aq 0) (gP 1 (aT aP bB))))).de)
  (bq (fQ 3 Po.nd ((bM (zg G) (c.mono (by decide)) cL (aT (aq 0) (gP 1 (aT (lB (aw (ce [97,98,99]) (aw (ce [97,99,98]) (aw (ce [98,97,99]) (aw (ce [98,99,97]) (aw (ce [99,97,98]) (aw (ce [99,98,97]) aF))))))) bB))))).de)
  (bq (fQ 4 Po.nd ((bM (zg G) (c.mono (by decide)) cL (aT (aq 0) (gP 1 (aT (lB (aw (ce [97,97,98]) (aw (ce [97,98]) (aw (ce [97,98,99,97]) (aw (ce []) (aw Eb (aw aP (aw (ce [65,98,67]) (aw (ce [97,98,100]) (aw (cS (aw (ce [97]) (aw (ce [98]) (aw (ce [99]) aF)))) (aw (ce [99,99,99]) (aw (ce [97,98,32]) aF)))))))))))) bB))))).de)
  (bq (fQ 5 Po.nd ((bM (RL G) (c.mono (by decide)) cL (aT (aq 0) (gP 1 (aT (aq 2) (aT aP bB)))))).de)
  (bq (fQ 6 Po.nd ((bM (Iw G) (c.mono (by decide)) cL (aT (aq 5) (aT (aq 3) bB)))).de)
  (bq (gW (iL (l9 c.units) mr (aq 6) (cS (aw (gM gZ g7 (aq 5) aP) (aw (zi yQ yV G.ybc sD (aw (sj si tu G.ya9 nD (aw (l7 (cap:=[3]) (N':=["_law_window","_law_letters"]) (jD.of ["_law_script","_law_town","_law_spoil","_law_letters","_law_wrong","_law_asked","_law_made"] (a8 rW) rfl rfl (by decide +kernel)) rfl (jn (gM gZ g7 (aq 5) aP)) (λC g h l i=>by exact oQ) (λC g h l i=>by exact((bM (El G) (c.mono (by decide)) jl (aT (aq 0) (aT (aq 1) bB)))).de)).de aF)).de aF)) aF))) rfl) (bp (dv kt)) gQ)
  (bq (gW (iL (l9 c.units) mr ((bM (Am G) (c.mono (by decide)) cL (aT (aq 6) bB))).de (sj si tu G.ya9 nD (aw (l7 (cap:=[3]) (N':=["_law_text_here","_law_letters"]) (jD.of ["_law_script","_law_town","_law_spoil","_law_letters","_law_wrong","_law_asked","_law_made"] (a8 rW) rfl rfl (by decide +kernel)) rfl (jn ((bM (Am G) (c.mono (by decide)) cL (aT (aq 5) bB))).de) (λC g h l i=>by exact oQ) (λC g h l i=>by exact((bM (El G) (c.mono (by decide)) jl (aT (aq 0) (aT (aq 1) bB)))).de)).de aF)).de rfl) (bp (dv kt)) gQ)
  (bq (gW ((p9 (iL (l9 c.units) mr ((bM (HE G) (c.mono (by decide)) cL (aT (aq 6) bB))).de ((bM (HE G) (c.mono (by decide)) cL (aT (aq 5) bB))).de rfl) (p6 (iL (l9 c.units) mr ((bM (E_ G) (c.mono (by decide)) cL (aT (aq 6) bB))).de ((bM (E_ G) (c.mono (by decide)) cL (aT (aq 5) bB))).de rfl)))).dt (bp (dv kt)) gQ)
  (bq (gW ((p9 (iL (l9 c.units) mr (cV ir iA G.ya3 im (aw ((bM (HY G) (c.mono (by decide)) cL (aT (aq 6) bB))).de aF)) (cV ir iA G.ya3 im (aw ((bM (HY G) (c.mono (by decide)) cL (aT (aq 5) bB))).de aF)) rfl) (p6 (iL (l9 c.units) mr ((bM (Fh G) (c.mono (by decide)) cL (aT (aq 5) (aT (aq 4) bB)))).de (cS (aw (ce [114,101,102,117,115,101,100]) (aw aP aF))) rfl)))).dt (bp (dv kt)) gQ)
  (bp (dv (yY (vA c.units) uO ((bM (Fh G) (c.mono (by decide)) cL (aT ((bM (QI G) (c.mono (by decide)) cL (aT (aq 0) (gP 1 bB)))).de (aT (aq 4) bB)))).de (cS (aw (ce [114,101,102,117,115,101,100]) (aw aP aF))) rfl))))))))))))))
end
end K36
namespace Mx
open L2 Pu
def bz:Tx:=[97,98,99]
def eX:Nat->List Tx
 |0=>[[]]
 |k+1=>bz.flatMap λc=>(eX k).map (c::·)
theorem qA:∀(k:Nat) (x:Tx),x∈eX k↔x.length=k/\∀c∈x,c∈bz
 |0,x=>by
  simp only[eX,fu];constructor
  .rintro rfl;simp
  .rintro⟨h,_⟩;exact ox.mp h
 |k+1,x=>by
  simp only[eX,Dp,cx];constructor
  .rintro⟨c,i,y,g,rfl⟩;obtain⟨f,b⟩:=(qA k y).mp g;refine⟨by simp[f],λd a=>?_⟩;rcases bC.mp a with rfl|a
   .exact i
   .exact b d a
  .rintro⟨f,b⟩;cases x with
   |nil=>cases f
   |cons c y=>exact⟨c,b c (by simp),y,(qA k y).mpr ⟨Dd f,λd a=>b d (by simp[a])⟩,rfl⟩
theorem H_:∀k:Nat,(eX k).length=3^k
 |0=>rfl
 |k+1=>by simp only[eX,bz,wj,JL,cQ,cn,H_ k,j_,Nat.pow_succ];lia
theorem O3(i j:Nat):eX (i+j)=(eX i).flatMap λh=>(eX j).map (h++·):=by
 induction i with
 |zero=>simp[eX]
 |succ i a=>rw[show i+1+j=(i+j)+1 by lia];simp only[eX,a,List.flatMap_assoc,List.map_flatMap,List.flatMap_map,dI,Function.comp_def,ke]
theorem B9:∀k:Nat,(eX k).Pairwise (λa b=>a<b)
 |0=>by simp[eX]
 |k+1=>by
  simp only[eX];rw[List.pairwise_flatMap];refine⟨λc _=>?_,?_⟩
  .rw[List.pairwise_map];exact(B9 k).imp λh=>List.cons_lt_cons_iff.mpr (.inr ⟨rfl,h⟩)
  .have:bz.Pairwise (λa b=>a<b):=by decide
   refine this.imp λh=>?_;intro x f y d;obtain⟨i,_,rfl⟩:=cx.mp f;obtain⟨g,_,rfl⟩:=cx.mp d;exact List.cons_lt_cons_iff.mpr (.inl h)
theorem Km{a b:Tx}(h:a<b):dw a b=ah:=by simp only[dw,decide_eq_true_eq];exact List.le_of_lt h
theorem Eo(k:Nat):(eX k).Pairwise (λa b=>dw a b=ah):=(B9 k).imp Km
theorem GE(k:Nat):(eX k).Nodup:=(B9 k).imp λh z=>by subst z;exact zO _ h
def aX(z:Tx)(w:Nat):List Tx:=((dy z.length).filter λi=>decide (i+w<=z.length)).map λi=>(z.drop i).take w
theorem GU(w L:Nat):∀m:Nat,(dy m).filter (λi=>decide (i+w<=L))=dy (min m (L+1-w))
 |0=>by simp
 |m+1=>by
  rw[tW,Do,GU w L m];by_cases h:m+w<=L
  .rw[show min m (L+1-w)=m by lia,show min (m+1) (L+1-w)=m+1 by lia,tW];simp[h]
  .rw[show min (m+1) (L+1-w)=min m (L+1-w) by lia];simp[h]
theorem lC(z:Tx)(w:Nat)(a:1<=w):aX z w=(dy (z.length+1-w)).map λi=>(z.drop i).take w:=by unfold aX;rw[GU,show min z.length (z.length+1-w)=z.length+1-w by lia]
def nw(w:Nat)(t:Tx):Tx->List Tx
 |[]=>[]
 |c::s=>(t.drop (t.length+1-w)++[c])::nw w (t++[c]) s
theorem HR(w:Nat)(b:1<=w):∀(s t:Tx),w<=t.length+1->nw w t s=(dy s.length).map λi=>((t++s).drop (t.length+1-w+i)).take w
 |[],t,_=>by simp[nw]
 |c::s,t,h=>by
  rw[nw,HR w b s (t++[c]) (by simp;lia),eh,v9,cu,dI];congr 1
  .show _=((t++c::s).drop (t.length+1-w)).take w;rw[v8 ∅,List.take_append];have a:(t.drop (t.length+1-w)).length=w-1:=by rw[mE];lia
   rw[a,i5 (by rw[a];lia),show w-(w-1)=1 by lia];rfl
  .refine f_ λi _=>?_;simp only[rm];rw[cQ,pD,show t.length+1+1-w+i=t.length+1-w+Nat.succ i by lia];simp
theorem Av{w:Nat}(a:1<=w){h s:Tx}(b:h.length=w-1):aX (h++s) w=nw w h s:=by rw[lC _ _ a,HR w a s h ∅,cQ,show h.length+s.length+1-w=s.length by lia];refine f_ λi _=>?_;rw[show h.length+1-w+i=i by lia]
theorem RX{w:Nat}(a:1<=w)(t:Tx)(c:Nat):aX (t++[c]) w=aX t w++(if w<=t.length+1 then [((t++[c]).drop (t.length+1-w)).take w] else []):=by
 rw[lC _ _ a,lC _ _ a,cQ,pD];by_cases h:w<=t.length+1
 .rw[if_pos h,show t.length+1+1-w=(t.length+1-w)+1 by lia,tW,tX];congr 1;refine f_ λi b=>?_;have b:i<t.length+1-w:=by simpa using b
  rw[v8 ∅,wl (by rw[mE];lia)]
 .rw[if_neg h,show t.length+1+1-w=0 by lia,show t.length+1-w=0 by lia];simp
def iS(w:Nat):Nat->Tx->List Tx->List Tx
 |0,t,_=>[t]
 |r+1,t,q=>bz.flatMap λc=>if t.drop (t.length+1-w)++[c]∈q then iS w r (t++[c]) (q.erase (t.drop (t.length+1-w)++[c]))else []
theorem Eh(w:Nat):∀(r:Nat) (t:Tx) (q:List Tx),q.length=r->iS w r t q=((eX r).filter λs=>(nw w t s).isPerm q).map (t++·)
 |0,t,q,hq=>by have:q=[]:=ox.mp hq;subst this;simp[iS,eX,nw,List.isPerm]
 |r+1,t,q,hq=>by
  simp only[iS,eX,List.filter_flatMap,List.map_flatMap];congr 1;funext c;rw[Dq,dI];by_cases h:t.drop (t.length+1-w)++[c]∈q
  .rw[if_pos h,Eh w r (t++[c]) _ (by rw[pH h,hq];rfl)];have e:((λs=>(nw w t s).isPerm q) ∘ λx=>c::x)=λs=>(nw w (t++[c]) s).isPerm (q.erase (t.drop (t.length+1-w)++[c])):=by funext s;show(q.contains (t.drop (t.length+1-w)++[c])&&(nw w (t++[c]) s).isPerm (q.erase (t.drop (t.length+1-w)++[c])))=_;rw[List.contains_iff_mem.mpr h,Bool.true_and]
   rw[e];refine f_ λs _=>?_;simp
  .rw[if_neg h];have e:((λs=>(nw w t s).isPerm q) ∘ λx=>c::x)=λ_=>aj:=by
    funext s;show(q.contains (t.drop (t.length+1-w)++[c])&&(nw w (t++[c]) s).isPerm (q.erase (t.drop (t.length+1-w)++[c])))=_;have:q.contains (t.drop (t.length+1-w)++[c])=aj:=by rw[Jv];intro z;exact h (List.contains_iff_mem.mp z)
    rw[this,Bool.false_and]
   rw[e];simp
def eT(w:Nat)(ls:List Tx):List Tx:=(aQ (b_ (ls.map pI))).flatMap λh=>iS w ls.length h ls
theorem Pq{a b:Type}{l:List a}{f:a->List b}(p:a->Bool)(h:∀x∈l,p x=aj->f x=[]):l.flatMap f=(l.filter p).flatMap f:=by
 induction l with
 |nil=>rfl
 |cons x l c=>
  rw[wj,c λy d=>h y (by simp[d]),JM];cases e:p x with
  |true=>simp
  |false=>rw[h x (by simp) e];simp
theorem vn{w:Nat}{a:List Tx}(g:1<=w)(C:1<=a.length)(j:∀x∈a,x.length=w/\∀c∈x,c∈bz):eT w a=(eX (w-1+a.length)).filter λz=>(aX z w).isPerm a:=by
 rw[O3,List.filter_flatMap];have A:(λh=>((eX a.length).map (h++·)).filter λz=>(aX z w).isPerm a)=λh=>((eX a.length).filter λs=>(aX (h++s) w).isPerm a).map (h++·):=by funext h;rw[Dq];rfl
 rw[A,Pq (λh=>decide (h∈a.map pI))]
 .have v:(eX (w-1)).filter (λh=>decide (h∈a.map pI))=aQ (b_ (a.map pI)):=by
   refine sY ?_ ((Eo (w-1)).filter _);refine(List.perm_ext_iff_of_nodup ((GE (w-1)).filter _) (TD _)).mpr λx=>?_;rw[k7,decide_eq_true_eq,mj,qA];refine⟨λh=>h.2,λh=>⟨?_,h⟩⟩;obtain⟨y,d,rfl⟩:=cx.mp h;obtain⟨t,r⟩:=j y d;exact⟨by rw[Df,t],λc q=>r c ((List.dropLast_sublist _).mem q)⟩
  rw[v];unfold eT;have:∀l:List Tx,(∀h∈l,h.length=w-1)->l.flatMap (λh=>iS w a.length h a)=l.flatMap λh=>((eX a.length).filter λs=>(aX (h++s) w).isPerm a).map (h++·):=by
   intro l
   induction l with
   |nil=>intro _;rfl
   |cons h l n=>
    intro b;rw[wj,wj,n λy d=>b y (by simp[d]),Eh w _ h a rfl];have u:(λs=>(nw w h s).isPerm a)=λs=>(aX (h++s) w).isPerm a:=by funext s;rw[Av g (b h (by simp))]
    rw[u]
  refine this _ λh b=>?_;have p:=(mj _ _).mp ((eQ _).mem_iff.mp b);obtain⟨y,d,rfl⟩:=cx.mp p;rw[Df,(j y d).1]
 .intro h b i;have B:=((qA _ h).mp b).1;rw[JI,List.filter_eq_nil_iff];intro s o f;have m:=((qA _ s).mp o).1;rw[Av g B,List.isPerm_iff]at f;cases s with
  |nil=>rw[j_]at m;lia
  |cons c s=>rw[nw,show h.length+1-w=0 by lia,qZ]at f;have:h++[c]∈a:=f.mem_iff.mp (by simp);rw[decide_eq_false_iff_not]at i;exact i (cx.mpr ⟨_,this,by simp⟩)
end Mx
namespace Sh
open L2 Pu Mx
theorem ym{f:PV->PV->Option PV}{d b:ak->R PV}{c ε1 a:ak}{x y z:PV}(h:d c=.ok x ε1)(i:b ε1=.ok y a)(g:f x y=aa z):d2 f d b c=.ok z a:=by unfold d2;rw[h];show(b ε1).bind _=_;rw[i];show aE (f x y) a=_;rw[g];rfl
section
theorem join_ones(x:Tx):iK [] (x.map λc=>[c])=x:=by
 induction x with
 |nil=>rfl
 |cons c x a=>
  cases x with
  |nil=>rfl
  |cons d x=>show [c]++[]++iK [] ((d::x).map λc=>[c])=_;rw[a];rfl
theorem uU{ls:List Tx}(h:ls.length<=1000000):lv [.lst (ao ls)]=aa (.lst (ao (aQ ls))):=by show(e_ (ao ls)).bind _=_;rw[p7,gG,if_pos h]
end
section
variable{a:Ad}
abbrev b0(b:List Int):Slot:=.val (.lst (b.map .int))
theorem Ih(b:List Int)(k:Int)(d:0<=k)(h:k<b.length):∃v,gB (b.map PV.int) k=aa (.int v):=by
 have c:k.toNat<b.length:=∅
 refine⟨b[k.toNat],?_⟩;rw[yE d (by rw[cn];exact c)];simp
theorem Nh(b:List Int):Pu.eqT aj (.lst (b.map .int)) (.lst [])=aa (.bl b.isEmpty):=by
 cases b with
 |nil=>rfl
 |cons x xs=>
  have d:∀l:List Int,jq (l.map .int)=0:=λl=>by induction l with|nil=>rfl|cons y l c=>simp[jq,jj,c]
  have:jq ((x::xs).map .int)=0:=d _;simp only[cu]at this;simp[Pu.eqT,d9,cT,ip,jj,this]
theorem lz(b:Bool)(i j:Int):Pu.eqT b (.int i) (.int j)=aa (.bl (b^^decide (i=j))):=by show(if vf (V.int i) (V.int j)then aa (PV.bl (b^^decide (V.int i=V.int j)))else ae)=_;have:vf (V.int i) (V.int j)=ah:=rfl;rw[if_pos this];simp
theorem Le(b:List Int)(k:Int)(i:0<=k):∃v,sJ a [b0 b,⇑k]=.ok (⇑v) [b0 b,⇑k]:=by
 by_cases h:k<b.length
 .obtain⟨v,c⟩:=Ih b k i h;refine⟨v,?_⟩;simp![sJ,yaE,bx,bG,c,h]
 .have e:=Nh b;by_cases d:b=[]
  .subst d;refine⟨0,?_⟩;simp only[vX,JN]at e;have j:¬k<0:=∅
   simp![sJ,yaE,bx,bG,e,j]
  .have m:0<b.length:=by cases b with|nil=>exact absurd rfl d|cons=>simp
   obtain⟨v,c⟩:=Ih b (k % b.length) (Int.emod_nonneg _ ∅) (JO _ ∅);refine⟨v*31+k,?_⟩;have l:b.isEmpty=aj:=by cases b with|nil=>exact absurd rfl d|cons=>rfl
   rw[l]at e;have g:gR (.int k) (.int (b.length:Int))=aa (.int (k % b.length)):=by simp[gR];lia
   have f:lE (.int v) (.int 31)=aa (.int (v*31)):=by simp[lE,vC]
   simp![sJ,yaE,bx,bG,h,e,g,c,f,bF]
theorem O6(b:List Int)(k m:Int)(q:0<=k)(i:0<m):∃v,0<=v/\v<m/\y8 a [b0 b,⇑k,⇑m]=.ok (⇑v) [b0 b,⇑k,⇑m]:=by
 obtain⟨c,p⟩:=Le (a:=a) b k q;have r:0<=(c*1103515245+7919*k+12345) % 2147483647:=Int.emod_nonneg _ (by decide);have d1:(c*1103515245+7919*k+12345) % 2147483647<2147483647:=JO _ (by decide);have o:lE (.int c) (.int 1103515245)=aa (.int (c*1103515245)):=by simp[lE,vC]
 have n:lE (.int 7919) (.int k)=aa (.int (7919*k)):=by simp[lE,vC]
 have h:gR (.int (c*1103515245+7919*k+12345)) (.int 2147483647)=aa (.int ((c*1103515245+7919*k+12345) % 2147483647)):=by simp[gR]
 generalize (c*1103515245+7919*k+12345) % 2147483647=d at r d1 h;have l:uR (.int d) (.int 5)=aa (.int (d^5)):=by
  have:d.natAbs<2^64:=∅
  simp[uR,this]
 have g:gR (.int (d^5)) (.int 2147483647)=aa (.int (d^5 % 2147483647)):=by simp[gR]
 generalize d^5 % 2147483647=d5 at g;have f:gR (.int d5) (.int 999983)=aa (.int (d5 % 999983)):=by simp[gR]
 generalize d5 % 999983=d6 at f;have j:gR (.int d6) (.int m)=aa (.int (d6 % m)):=by simp[gR,i]
 refine⟨d6 % m,Int.emod_nonneg _ ∅,JO _ i,?_⟩;simp![y8,yaG,p,o,n,h,l,g,f,j,bF]
theorem qJ(b:List Int)(xs:List PV)(m:Int)(h:0<m)(i:xs.length<=1000):∃v,0<=v/\v<m/\j7 a [b0 b,.own (.lst xs),⇑m]=.ok (⇑v) [b0 b,.own (.lst (xs++[.int 0])),⇑m]:=by
 obtain⟨v,f,d,g⟩:=O6 (a:=a) b ((xs.length:Int)+1) m ∅ h;refine⟨v,f,d,?_⟩;have c:xs.length<bE:=by unfold bE;lia
 simp![j7,yaF,bx,c,g]
theorem FO{c:Type}(b:List c)(v:Int)(f:0<=v)(g:v<b.length):∃x∈b,gB b v=aa x:=by
 have d:v.toNat<b.length:=∅
 exact⟨b[v.toNat],C5 _,yE f d⟩
theorem yM(c:List Int)(xs b:List PV)(h:xs.length<=1000)(l:0<b.length):∃x∈b,qt a [b0 c,.own (.lst xs),.val (.lst b)]=.ok (.val x) [b0 c,.own (.lst (xs++[.int 0])),.val (.lst b)]:=by obtain⟨v,f,d,i⟩:=qJ (a:=a) c xs (b.length:Nat) ∅ h;obtain⟨x,j,g⟩:=FO b v f d;refine⟨x,j,?_⟩;simp![qt,yaI,bx,bG,i,g]
theorem BY{n:Nat}(h:n<=1000000):nE [.int n]=aa (ik 0 n):=by show(if(n:Int)<=1000000/\-1000000<=(n:Int)then aa (ik 0 (n:Int).toNat)else ae)=_;rw[if_pos ⟨∅,∅⟩];simp
theorem ya{x y:Tx}(h:x.length+y.length<=bE):bF (.str x) (.str y)=aa (.str (x++y)):=by show(if(x++y).length<=bE then aa (PV.str (x++y))else ae)=_;rw[if_pos (by rw[cQ];exact h)]
theorem dO{d1 d2:ak->R aK}{ε ε1:ak}(h:d1 ε=.ok .next ε1):aR d1 d2 ε=d2 ε1:=by unfold aR;rw[h]
theorem vp{i:Nat}{d:ak->R PV}{b ε1:ak}{x:PV}(h:d b=.ok x ε1):cp i d b=.ok .next (ε1.set i (.val x)):=by unfold cp;rw[h];rfl
theorem AH{i:Nat}{db:ak->R aK}{I:Nat->ak->Prop}{N:Nat}(step:∀k c x,k<N->I k c->∃b,db (c.set i (.val x))=.ok .next b/\I (k+1) b):∀(xs:List PV) (k:Nat) (c:ak),k+xs.length<=N->I k c->∃b,iB i db xs c=.ok .next b/\I (k+xs.length) b
 |[],k,c,_,h=>⟨c,rfl,h⟩
 |x::xs,k,c,g,h=>by simp only[eh]at g;obtain⟨f,n,l⟩:=step k c x ∅ h;obtain⟨d,m,j⟩:=AH step xs (k+1) f ∅ l;refine⟨d,by unfold iB;rw[n];exact m,?_⟩;rw[eh,show k+(xs.length+1)=k+1+xs.length by lia];exact j
theorem zc{i:Nat}{db:ak->R aK}{I:List PV->ak->Prop}(step:∀(x:PV) (r:List PV) c,I (x::r) c->∃b,db (c.set i (.val x))=.ok .next b/\I r b):∀(xs:List PV) (c:ak),I xs c->∃b,iB i db xs c=.ok .next b/\I [] b
 |[],c,h=>⟨c,rfl,h⟩
 |x::xs,c,h=>by obtain⟨f,m,j⟩:=step x xs c h;obtain⟨d,l,g⟩:=zc step xs f j;exact⟨d,by unfold iB;rw[m];exact l,g⟩
theorem G9(j:List Int)(xs:List PV)(g b:Nat)(K:g<=b)(W:b<=100)(T:xs.length<=500):∃(z:Tx) (h:List PV),g<=z.length/\z.length<=b/\(∀c∈z,c∈bz)/\h.length<=xs.length+2+b /\ sm a [b0 j,.own (.lst xs),⇑g,⇑b]=.ok (↥z) [b0 j,.own (.lst h),⇑g,⇑b]:=by
 obtain⟨f,w,H⟩:=yM (a:=a) j xs [.int 1,.int 2,.int 2,.int 3,.int 3,.int 3] ∅ (by decide);obtain⟨few,rfl,O,Y⟩:∃few:Int,f=.int few/\0<few/\few<=3:=by simp only[bC,i6,or_false]at w;rcases w with rfl|rfl|rfl|rfl|rfl|rfl <;> exact⟨_,rfl,by decide,by decide⟩
 obtain⟨m,S,Q,l⟩:=qJ (a:=a) j (xs++[.int 0]) ((b:Int)-g+1) ∅ (by simp;lia);obtain⟨n,J⟩:∃n:Nat,(g:Int)+m=n:=⟨(g+m).toNat,∅⟩
 have G:nE [.int ((g:Int)+m)]=aa (ik 0 n):=by rw[J];exact BY ∅
 have Z:(ik 0 n).length=n:=by simp[ik]
 obtain⟨A,y,h,z,o,rfl,u,E,s⟩:=AH (i:=6) (db:=cp 5 (d2 bF (dV 5) (d2 bG (dC (.str [97,98,99])) (bn (aU (j7 a) (gV (dV 0) (gO 1 (gV (dV 4) (Pu.bA)))))))))
  (I:=λk t=>∃h z o,t=[b0 j,.own (.lst h),⇑g,⇑b,⇑few,↥z,o]/\z.length=k/\h.length<=xs.length+2+k/\∀c∈z,c∈bz) (N:=n)
  (by
   rintro k t x X ⟨h,z,o,rfl,u,E,s⟩;obtain⟨v,B,P,F⟩:=qJ (a:=a) j h few O ∅;obtain⟨c,L,C⟩:=FO bz v B (by simp[bz];lia);refine⟨[b0 j,.own (.lst (h++[.int 0])),⇑g,⇑b,⇑few,↥(z++[c]),.val x],?_,h++[.int 0],z++[c],.val x,rfl,by simp[u],by simp;lia,λd l=>?_⟩
   .have p:bG (.str [97,98,99]) (.int v)=aa (.str [c]):=by
     show(gB bz v).map _=_;rw[C];rfl
    have M:bF (.str z) (.str [c])=aa (.str (z++[c])):=ya (by simp[bE];lia);simp![F,p,M]
   .simp only[jr,fu]at l;rcases l with l|rfl
    .exact s d l
    .exact L)
  (ik 0 n) 0 [b0 j,.own (.lst (xs++[.int 0]++[.int 0])),⇑g,⇑b,⇑few,.val (.str []),.none] ∅ ⟨xs++[.int 0]++[.int 0],[],.none,rfl,rfl,by simp,by simp⟩
 refine⟨z,h,∅,∅,s,∅,?_⟩;have D:iV (.int b) (.int g)=aa (.int ((b:Int)-g)):=rfl;have r:bF (.int ((b:Int)-g)) (.int 1)=aa (.int ((b:Int)-g+1)):=rfl;have q:bF (.int g) (.int m)=aa (.int ((g:Int)+m)):=rfl;simp only[eN,ke,hZ]at y;simp![sm,yaL,H,D,r,q,l,et,G,dQ,y]
theorem oY{cap:List Nat}{dt:ak->R Bool}{de:ak->R PV}{ε:ak}(p:PV->Bool)(f:PV->PV):∀(xs:List PV),(∀x∈xs,dq (gi cap dt x ε)=.ok (p x) ε/\(p x=ah->dq (gi cap de x ε)=.ok (f x) ε))->∀b,jF cap dt de xs b ε=.ok (b++(xs.filter p).map f) ε
 |[],_,b=>by simp[jF]
 |x::xs,h,b=>by
  have g:=h x (by simp);have d:=oY p f xs (λy i=>h y (by simp[i]));unfold jF;rw[g.1];simp only[R.bind_ok];cases c:p x with
  |false=>simp only[d b,JM,c];simp
  |true=>simp only[g.2 c,R.bind_ok,d (b++[f x]),JM,c];simp
theorem OI{z:Tx}{i w:Nat}(h:i+w<=z.length):eU z (aa (i:Int)) (aa ((i:Int)+w))=(z.drop i).take w:=by
 unfold eU;have c:HT.sIx z.length 0 (aa (i:Int))=i:=by rw[HT.sIx_nat];lia
 have b:HT.sIx z.length z.length (aa ((i:Int)+w))=i+w:=by rw[show(i:Int)+w=((i+w:Nat):Int) by lia,HT.sIx_nat];lia
 rw[c,b,Nat.add_sub_cancel_left]
theorem Rq(z:Tx)(w:Nat)(o:z.length<=60):xX a [↥z,⇑w]=.ok (.val (.tup (ao (aQ (aX z w))))) [↥z,⇑w]:=by
 have g:nE [.int (z.length:Nat)]=aa (ik 0 z.length):=BY ∅;have b:=oY (cap:=[0,1]) (dt:=(dB (d2 (fA λi j=>decide (i<=j)) (d2 bF (dV 0) (dV 2)) (dL bx (ap (dV 1) (aC)))))) (de:=(bV bZ (dV 1) (bT (dV 0)) (bT (d2 bF (dV 0) (dV 2)))))
  (ε:=[↥z,⇑w]) (λx=>match x with|.int i=>decide (i+w<=z.length)|_=>aj) (λx=>match x with|.int i=>.str (eU z (aa i) (aa (i+w)))|_=>.non) (ik 0 z.length)
  (by
   intro x d;simp only[ik,cx]at d;obtain⟨i,f,rfl⟩:=d;refine⟨?_,λh=>?_⟩
   .simp![gi,gA,dq,bx,bF]
   .simp![gi,gA,dq,bx,bF,bV,bT,bZ]) []
 have l:(aX z w).length<=1000000:=by unfold aX;rw[cn];have:=JJ (λi=>decide (i+w<=z.length)) (dy z.length);rw[Jk]at this;lia
 have m:(((ik 0 z.length).filter (λx=>match x with|.int i=>decide (i+w<=z.length)|_=>aj)).map (λx=>match x with|.int i=>PV.str (eU z (aa i) (aa (i+w)))|_=>.non))=ao (aX z w):=by
  unfold ik aX ao;rw[Dq,dI,dI];have n:((λx=>match x with|PV.int i=>decide (i+(w:Int)<=(z.length:Nat))|_=>aj) ∘ λ(i:Nat)=>PV.int (0+(i:Nat)))=λi=>decide (i+w<=z.length):=by funext i;simp only[rm];congr 1;simp;lia
  rw[n];refine f_ λi f=>?_;have:=(k7.mp f).2;simp only[decide_eq_true_eq]at this;simp only[rm,Int.zero_add];rw[OI this]
 simp only[hZ]at b;rw[m]at b;have c:=uU l;generalize ao (aQ (aX z w))=T at c;generalize ao (aX z w)=B at b c;simp![xX,yaK,bx,g,dG,b,c,mn]
theorem DZ{z:Tx}{w:Nat}:∀x∈aX z w,x.length=w/\∀c∈x,c∈z:=by intro x b;simp only[aX,cx,k7,zn,decide_eq_true_eq]at b;obtain⟨i,⟨_,h⟩,rfl⟩:=b;exact⟨by rw[lc,mE];lia,λc d=>List.mem_of_mem_drop (List.mem_of_mem_take d)⟩
theorem RZ{z:Tx}{w m:Nat}(c:1<=w)(f:w<=z.length)(d:z.length<=w+m):1<=(aX z w).length/\(aX z w).length<=m+1:=by
 unfold aX;rw[cn];have:∀n,((dy n).filter λi=>decide (i+w<=z.length)).length=min n (z.length+1-w):=by
  intro n
  induction n with
  |zero=>simp
  |succ n b=>
   rw[tW,Do,cQ,b];by_cases h:n+w<=z.length
   .simp[List.filter,h];lia
   .simp[List.filter,h];lia
 rw[this];lia
structure Good(l:Tx)(w:Nat)(ls:List Tx):Prop where
 len:∀x∈ls,x.length=w
 abc:∀x∈ls,∀c∈x,c∈l
 some:1<=ls.length
 few:ls.length<=9
theorem Good.perm{l:Tx}{w:Nat}{ls b:List Tx}(g:Good l w ls)(p:b.Perm ls):Good l w b:=⟨λx h=>g.len x (p.mem_iff.mp h),λx h=>g.abc x (p.mem_iff.mp h),by rw[p.length_eq];exact g.some,by rw[p.length_eq];exact g.few⟩
theorem Good.put{l:Tx}{w:Nat}{ls:List Tx}{z:Tx}{j:Nat}(g:Good l w ls)(b:z.length=w)(d:∀c∈z,c∈l):Good l w (ls.set j z):=by
 refine⟨λx h=>?_,λx h=>?_,by rw[g_];exact g.some,by rw[g_];exact g.few⟩
 .rcases List.mem_or_eq_of_mem_set h with h|rfl
  .exact g.len x h
  .exact b
 .rcases List.mem_or_eq_of_mem_set h with h|rfl
  .exact g.abc x h
  .exact d
theorem Nd(ls:List Tx)(j:Nat)(z:Tx):(ao ls).set j (.str z)=ao (ls.set j z):=by simp[ao,List.map_set]
theorem jg(ls:List Tx):(ao ls).length=ls.length:=by simp[ao]
theorem SW{n:Nat}{v:Int}(c:0<=v)(b:v<n):kQ n v=aa v.toNat:=by unfold kQ;rw[if_pos c,if_pos b]
theorem N1(ls:List Tx):nr (ao ls)=ah:=by
 induction ls with
 |nil=>rfl
 |cons x ls b=>show(imm (.str x)&&nr (ao ls))=ah;rw[b];rfl
theorem Pt(j:List Int)(xs:List PV)(d f:Nat)(hs:d<3)(m1:1<=f)(m9:f<=9)(hx:xs.length<=300):∃(w:Nat) (ls:List Tx) (l:List PV),1<=w/\w<=4/\(d≠2->2<=w)/\Good bz w ls/\ls.Pairwise (λa b=>dw a b=ah)/\ls.length<=f/\(d=0->∃z:Tx,ls=aQ (aX z w)/\w<=z.length/\z.length+1<=w+f/\∀c∈z,c∈bz)/\l.length<=xs.length+60 /\ uo a [b0 j,.own (.lst xs),⇑d,⇑f]=.ok (.val (.tup [.int w,.tup (ao ls)])) [b0 j,.own (.lst l),⇑d,⇑f]:=by
 obtain⟨w,K,P,Q,X⟩:∃w:Nat,1<=w/\w<=4/\(d≠2->2<=w)/\(cE (dB (d2 (Pu.eqT ah) (dV 2) (dC (.int 2)))) (d2 bF (dC (.int 2)) (bn (aU (j7 a) (gV (dV 0) (gO 1 (gV (dC (.int 3)) (Pu.bA))))))) (d2 bF (dC (.int 1)) (bn (aU (j7 a) (gV (dV 0) (gO 1 (gV (dC (.int 4)) (Pu.bA)))))))) [b0 j,.own (.lst xs),⇑d,⇑f,.none,.none,.none] =
   .ok (.int w) [b0 j,.own (.lst (xs++[.int 0])),⇑d,⇑f,.none,.none,.none]:=by
  by_cases h2:d=2
  .subst h2;obtain⟨v,D,C,o⟩:=qJ (a:=a) j xs 4 (by decide) ∅;refine⟨(1+v).toNat,∅,∅,λz=>absurd rfl z,?_⟩;have e:Pu.eqT ah (.int 2) (.int 2)=aa (.bl aj):=by rw[lz];rfl
   have:((1+v).toNat:Int)=1+v:=∅
   simp![e,o,bF,this]
  .obtain⟨v,D,C,o⟩:=qJ (a:=a) j xs 3 (by decide) ∅;refine⟨(2+v).toNat,∅,∅,λ_=>∅,?_⟩;have e:Pu.eqT ah (.int ((d:Nat):Int)) (.int 2)=aa (.bl ah):=by
    have:d=0\/d=1:=∅
    rcases this with rfl|rfl <;> (rw[lz];rfl)
   have:((2+v).toNat:Int)=2+v:=∅
   simp![e,o,bF,this]
 obtain⟨z,B,A,H,g,E,y⟩:=G9 (a:=a) j (xs++[.int 0]) w (w+(f-1)) ∅ ∅ (by simp;lia);simp only[cQ,pD]at E;have UM:=Rq (a:=a) z w ∅;have UN:=RZ (z:=z) (w:=w) (m:=f-1) K A H;have g0:Good bz w (aQ (aX z w)):=by exact Good.perm ⟨λx h=>(DZ x h).1,λx h c hc=>g c ((DZ x h).2 c hc),UN.1,∅⟩ (eQ _)
 have p:gR (.int d) (.int 3)=aa (.int d):=by
  have:d=0\/d=1\/d=2:=∅
  rcases this with rfl|rfl|rfl <;> rfl
 have Y:nE [.int d]=aa (ik 0 d):=BY ∅;have bo:(ik 0 d).length=d:=by simp[ik]
 obtain⟨O,e1,l,ls,u,rfl,s,n,h0,W⟩:=AH (i:=6) (db:=(za 5 (bn (aU (j7 a) (gV (dV 0) (gO 1 (gV (kx (λxs=>qd (bx xs)) 5) (Pu.bA)))))) (bn (aU (sm a) (gV (dV 0) (gO 1 (gV (dV 4) (gV (dV 4) (Pu.bA)))))))))
  (I:=λk G=>∃l ls u,G=[b0 j,.own (.lst l),⇑d,⇑f,⇑w,.own (.lst (ao ls)),u]/\Good bz w ls/\ls.length<=f/\(k=0->ls=aQ (aX z w))/\l.length<=B.length+10*k) (N:=d)
  (by
   rintro k G x hk ⟨l,ls,u,rfl,s,n,_,W⟩;obtain⟨z,J,A,H,g,xi,y⟩:=G9 (a:=a) j l w w ∅ ∅ ∅;obtain⟨v,D,C,o⟩:=qJ (a:=a) j J (ls.length:Nat) (by have:=s.some;lia) ∅;refine⟨[b0 j,.own (.lst (J++[.int 0])),⇑d,⇑f,⇑w,.own (.lst (ao (ls.set v.toNat z))),.val x],?_,_,_,_,rfl,s.put ∅ g,by rw[g_];exact n,λz=>∅,by simp;lia⟩;have S:kQ (ao ls).length v=aa v.toNat:=SW D (by rw[jg];exact C);have Z:bx [.lst (ao ls)]=aa (.int (ls.length:Nat)):=by simp[bx,jg]
   simp![za,y,Z,o,S,Nd])
  (ik 0 d) 0 [b0 j,.own (.lst B),⇑d,⇑f,⇑w,.own (.lst (ao (aQ (aX z w)))),.none] ∅ ⟨B,_,.none,rfl,g0,by rw[BW];lia,λ_=>rfl,∅⟩
 refine⟨w,aQ ls,l,K,P,Q,s.perm (eQ _),o9 _,by rw[BW];exact n,λz0=>⟨z,by rw[h0 ∅,yO (o9 _)],A,∅,g⟩,∅,?_⟩;have L:bF (.int w) (.int f)=aa (.int ((w:Int)+f)):=rfl;have F:iV (.int ((w:Int)+f)) (.int 1)=aa (.int (((w+(f-1):Nat)):Int)):=by show aa (PV.int ((w:Int)+f-1))=_;congr 2;lia
 have M:=uU (ls:=ls) (by have:=s.few;lia);have t:yaM a [b0 j,.own (.lst xs),⇑d,⇑f,.none,.none,.none]=.ok (.ret (.val (.tup [.int w,.tup (ao (aQ ls))]))) [b0 j,.own (.lst l),⇑d,⇑f,⇑w,.own (.lst (ao ls)),u]:=by unfold yaM;refine(dO (vp X)).trans ?_;have r:=N1 (aQ ls);generalize ao (aQ ls)=T at M r;generalize ((w+(f-1):Nat):Int)=q at F y;generalize (w:Int)+f=q2 at L F;simp[aR,cE,dB,d2,d1,dV,dC,dL,dF,ap,aC,bY,kM,cp,eY,aU,gV,gO,Pu.bA,eW,fc,cF,d_,fi,R.bind,aE,bh,dX,bj,back,eR,lj,nL,oV,o_,vi,bn,kr,fj,bQ,dD,vJ,jK,Cf,jY,vz,xI,iI,ni,BA,nv,fA,eE,nB,kx,sW,bK,jL,L,F,y,UM,sO,p,et,Y,dQ,e1,M,HA,r,mn]
 simp[uo,bh,dX,bj,t,back,eR]
theorem map_set{b c:Type}(f:b->c)(l:List b)(j:Nat)(x:b):(l.map f).set j (f x)=(l.set j x).map f:=by simp[List.map_set]
theorem Ts(c b:List Tx):ao c++ao b=ao (c++b):=by simp[ao]
theorem FV{b:Type}(xs:List b)(n:Nat):eU xs ae (aa (n:Int))=xs.take n:=by
 unfold eU;have c:HT.sIx xs.length 0 ae=0:=rfl;rw[c,HT.sIx_nat,qZ,Nat.sub_zero];by_cases h:n<=xs.length
 .rw[Dr h]
 .rw[Nat.min_eq_right ∅,i5 (a9 _),i5 ∅]
theorem yg{b:Type}(xs:List b)(n:Nat):eU xs (aa (n:Int)) ae=xs.drop n:=by
 unfold eU;have c:HT.sIx xs.length xs.length ae=xs.length:=rfl;rw[c,HT.sIx_nat];by_cases h:n<=xs.length
 .rw[Dr h,i5 (by rw[mE];lia)]
 .rw[Nat.min_eq_right ∅,zQ ∅,zQ ∅];simp
theorem gE{t T:String}{b:Bool}{x:PV}(h:tw x=aa t)(e:eV [] (.type t) (.type T)=aa b):eF [x,.raw (.ty T)]=aa (.bl b):=by show((tw x).bind λt=>(eV [] (.type t) (.type T)).map λb=>PV.bl b)=_;rw[h,gG,e];rfl
theorem Qa:eV [] (.type "int") (.type "int")=aa ah:=by decide +kernel
theorem Sf:eV [] (.type "int") (.type "bool")=aa aj:=by decide +kernel
theorem MZ:eV [] (.type "bool") (.type "int")=aa ah:=by decide +kernel
theorem T8:eV [] (.type "bool") (.type "bool")=aa ah:=by decide +kernel
theorem QP:eV [] (.type "str") (.type "int")=aa aj:=by decide +kernel
theorem O5:eV [] (.type "str") (.type "str")=aa ah:=by decide +kernel
theorem KW:eV [] (.type "int") (.type "str")=aa aj:=by decide +kernel
theorem p_:eV [] (.type "tuple") (.type "tuple")=aa ah:=by decide +kernel
theorem Qt:eV [] (.type "int") (.type "tuple")=aa aj:=by decide +kernel
theorem NL:eV [] (.type "NoneType") (.type "tuple")=aa aj:=by decide +kernel
theorem QG:eV [] (.type "str") (.type "tuple")=aa aj:=by decide +kernel
theorem Gy:eV [] (.type "list") (.type "tuple")=aa aj:=by decide +kernel
theorem LK(bs:List Bool):mZ (bs.map .bl)=aa bs:=by
 induction bs with
 |nil=>rfl
 |cons b bs c=>show(mZ (bs.map .bl)).map (b::·)=_;rw[c];rfl
theorem FU(bs:List Bool):sR [.lst (bs.map .bl)]=aa (.bl (bs.all id)):=by show(mZ (bs.map .bl)).map _=_;rw[LK];rfl
theorem Ou(z s:Tx):y_ a [↥z,↥s]=.ok (.val (.bl (z.all s.contains))) [↥z,↥s]:=by
 have b:=oY (cap:=[1]) (dt:=eu) (de:=(d2 (sh aj) (dV 0) (dV 1))) (ε:=[↥z,↥s]) (λ_=>ah) (λx=>match x with|.str [c]=>.bl (s.contains c)|_=>.non) (z.map λc=>.str [c])
  (by
   intro x h;obtain⟨c,_,rfl⟩:=cx.mp h;refine⟨by simp![gi,gA,dq,eu],λ_=>?_⟩;have g:sh aj (.str [c]) (.str s)=aa (.bl (s.contains c)):=by rw[<-Ls];simp[sh]
   simp![gi,gA,dq,g]) []
 have i:((z.map λc=>PV.str [c]).filter (λ_=>ah)).map (λx=>match x with|.str [c]=>PV.bl (s.contains c)|_=>.non)=(z.map s.contains).map .bl:=by rw[wm.mpr (by simp),dI,dI];rfl
 rw[hZ,i]at b;have d:(z.map s.contains).all id=z.all s.contains:=by rw[C3];rfl
 generalize z.map s.contains=bs at b d;have f:=FU bs;rw[d]at f;simp![y_,yav,dG,bP,gY,b,f]
def jc(w:Int)(s z:Tx):Bool:=decide ((z.length:Int)=w)&&z.all s.contains
theorem L5(z s:Tx)(w:Int):o8 a [↥z,⇑w,↥s]=.ok (.val (.bl (jc w s z))) [↥z,⇑w,↥s]:=by
 have d:eF [.str z,.raw (.ty "str")]=aa (.bl ah):=gE rfl O5;have f:=Ou (a:=a) z s;have c:bx [.str z]=aa (.int (z.length:Nat)):=rfl;have b:=lz aj (z.length:Nat) w;unfold jc;by_cases h:((z.length:Nat):Int)=w
 .simp only[h,decide_true,Bool.xor_true,Ds]at b;simp![o8,yaB,d,c,b,f,h]
 .simp only[h,decide_false,Bool.xor_false]at b;simp![o8,yaB,d,c,b,h]
theorem No(i w:Int)(s:Tx):o8 a [⇑i,⇑w,↥s]=.ok (.val (.bl aj)) [⇑i,⇑w,↥s]:=by have b:eF [.int i,.raw (.ty "str")]=aa (.bl aj):=gE rfl KW;simp![o8,yaB,b]
theorem Ey(d c:List Tx):ip (ao d) (ao c)=aa (decide (d=c)):=by
 induction d generalizing c with
 |nil=>cases c <;> simp[ao,ip]
 |cons x d f=>
  cases c with
  |nil=>simp[ao,ip]
  |cons y c=>
   show(cT (.str x) (.str y)).bind (λa=>(ip (ao d) (ao c)).map λb=>a&&b)=_;rw[f];have:cT (.str x) (.str y)=aa (decide (x=y)):=by
    show aa (tS x == tS y)=_;by_cases h:x=y
    .subst h;simp
    .have:tS x≠tS y:=λz=>h (qi z);simp[h,this]
   rw[this];simp[zR]
theorem ER(b:List Tx):jq (ao b)=0:=by
 induction b with
 |nil=>rfl
 |cons x b c=>show max (jj (.str x)) (jq (ao b))=0;rw[c];rfl
theorem Cj(b:Bool)(ls c:List Tx):Pu.eqT b (.lst (ao ls)) (.lst (ao c))=aa (.bl (b^^decide (ls=c))):=by show(if jj (.lst (ao ls))<=8 then(ip (ao ls) (ao c)).map (λk=>PV.bl (b^^k))else ae)=_;rw[if_pos (by show jq (ao ls)+1<=8;rw[ER];decide),Ey];rfl
theorem Mj(b:List Tx)(w:Int)(s:Tx)(t:1<=b.length)(r:b.length<=9):ku a [.val (.tup (ao b)),⇑w,↥s]=.ok (.val (.bl (b.all (jc w s)&&decide (b=aQ b)))) [.val (.tup (ao b)),⇑w,↥s]:=by
 have h:eF [.tup (ao b),.raw (.ty "tuple")]=aa (.bl ah):=gE rfl p_;have i:bx [.tup (ao b)]=aa (.int (b.length:Nat)):=by simp[bx,jg]
 have m:(1:Int)<=(b.length:Nat):=∅
 have l:((b.length:Nat):Int)<=9:=∅
 have d:=oY (cap:=[1,2]) (dt:=eu) (de:=(bn (aU (o8 a) (gV (dV 0) (gV (dV 1) (gV (dV 2) (Pu.bA))))))) (ε:=[.val (.tup (ao b)),⇑w,↥s]) (λ_=>ah) (λx=>match x with|.str z=>.bl (jc w s z)|_=>.non) (ao b)
  (by intro x o;obtain⟨z,_,rfl⟩:=cx.mp o;refine⟨by simp![gi,gA,dq,eu],λ_=>?_⟩;have p:=L5 (a:=a) z s w;simp![gi,gA,dq,p]) []
 have q:((ao b).filter (λ_=>ah)).map (λx=>match x with|.str z=>PV.bl (jc w s z)|_=>.non)=(b.map (jc w s)).map .bl:=by rw[wm.mpr (by simp)];unfold ao;rw[dI,dI];rfl
 rw[hZ,q]at d;have g:(b.map (jc w s)).all id=b.all (jc w s):=by rw[C3];rfl
 generalize b.map (jc w s)=bs at d g;have f:=FU bs;have n:b.length<=1000000:=∅
 have c:=Cj aj b (aQ b);cases j:b.all (jc w s)with
 |false=>rw[g,j]at f;simp![ku,yao,h,i,m,l,dG,bP,gY,d,f]
 |true=>rw[g,j]at f;simp only[Dj]at c;simp![ku,yao,h,i,m,l,dG,bP,gY,d,f,sO,lv,p7,n,c]
theorem T4(b:List Tx)(w:Int)(s:Tx)(h:b.length=0\/9<b.length):ku a [.val (.tup (ao b)),⇑w,↥s]=.ok (.val (.bl aj)) [.val (.tup (ao b)),⇑w,↥s]:=by
 have c:eF [.tup (ao b),.raw (.ty "tuple")]=aa (.bl ah):=gE rfl p_;have d:bx [.tup (ao b)]=aa (.int (b.length:Nat)):=by simp[bx,jg]
 by_cases f:(1:Int)<=(b.length:Nat)
 .have g:¬((b.length:Nat):Int)<=9:=∅
  simp![ku,yao,c,d,f,g]
 .simp![ku,yao,c,d,f]
theorem R4(i:Int):nh a [⇑i]=.ok (.val (.bl ah)) [⇑i]:=by have c:eF [.int i,.raw (.ty "int")]=aa (.bl ah):=gE rfl Qa;have b:eF [.int i,.raw (.ty "bool")]=aa (.bl aj):=gE rfl Sf;simp![nh,yaz,c,b]
theorem L9(b:Bool):nh a [.val (.bl b)]=.ok (.val (.bl aj)) [.val (.bl b)]:=by have d:eF [.bl b,.raw (.ty "int")]=aa (.bl ah):=gE rfl MZ;have c:eF [.bl b,.raw (.ty "bool")]=aa (.bl ah):=gE rfl T8;simp![nh,yaz,d,c]
theorem MP(x:Tx):nh a [↥x]=.ok (.val (.bl aj)) [↥x]:=by have b:eF [.str x,.raw (.ty "int")]=aa (.bl aj):=gE rfl QP;simp![nh,yaz,b]
theorem Fy(i:Int):nN a [⇑i]=.ok (.val (.bl (decide (1<=i/\i<=4)))) [⇑i]:=by
 have h:=R4 (a:=a) i;by_cases b:1<=i
 .by_cases c:i<=4
  .simp![nN,yaA,h,b,c]
  .simp![nN,yaA,h,b,c]
 .simp![nN,yaA,h,b]
theorem Gu{x:PV}(h:nh a [.val x]=.ok (.val (.bl aj)) [.val x]):nN a [.val x]=.ok (.val (.bl aj)) [.val x]:=by simp![nN,yaA,h]
def j0(s:Tx)(w:Int)(ls:List Tx):Bool:=decide (1<=w/\w<=4)&&(decide (1<=ls.length/\ls.length<=9)&&(ls.all (jc w s)&&decide (ls=aQ ls)))
theorem ID(s:Tx)(w:Int)(b:List Tx):iR a [.val (.tup [.int w,.tup (ao b)]),↥s]=.ok (.val (.bl (j0 s w b))) [.val (.tup [.int w,.tup (ao b)]),↥s]:=by
 have h:eF [.tup [.int w,.tup (ao b)],.raw (.ty "tuple")]=aa (.bl ah):=gE rfl p_;have l:bx [.tup [.int w,.tup (ao b)]]=aa (.int 2):=rfl;have f:=lz ah 2 2;simp only[decide_true,t_,ua]at f;have j:bG (.tup [.int w,.tup (ao b)]) (.int 0)=aa (.int w):=rfl;have i:bG (.tup [.int w,.tup (ao b)]) (.int 1)=aa (.tup (ao b)):=rfl;have d:=Fy (a:=a) w;unfold j0;by_cases c:1<=w/\w<=4
 .rw[decide_eq_true c]at d ⊢;by_cases g:1<=b.length/\b.length<=9
  .have m:=Mj (a:=a) b w s g.1 g.2;rw[decide_eq_true g];simp![iR,yay,h,l,f,j,i,d,m]
  .have m:=T4 (a:=a) b w s ∅;rw[decide_eq_false g];simp![iR,yay,h,l,f,j,i,d,m]
 .rw[decide_eq_false c]at d ⊢;simp![iR,yay,h,l,f,j,i,d]
abbrev vw(w:Int)(ls:List Tx):Bool:=j0 bz w ls
theorem Nn(w:Int)(b:List Tx):o6 a [.val (.tup [.int w,.tup (ao b)])]=.ok (.val (.bl (vw w b))) [.val (.tup [.int w,.tup (ao b)])]:=by have c:=ID (a:=a) bz w b;simp only[bz]at c;simp![o6,yax,c];rfl
theorem vm{w:Int}{ls:List Tx}(h:vw w ls=ah):jC a [.val (.tup [.int w,.tup (ao ls)])]=.ok (.val .non) [.val (.tup [.int w,.tup (ao ls)])]:=by have b:=Nn (a:=a) w ls;rw[h]at b;simp![jC,yaq,b]
theorem Good.vw{w:Nat}{ls:List Tx}(g:Good bz w ls)(m:1<=w)(l:w<=4)(f:ls.Pairwise (λa b=>dw a b=ah)):vw w ls=ah:=by
 have j:ls.all (jc w bz)=ah:=by rw[q8];intro x d;unfold jc;rw[g.len x d,decide_eq_true rfl,Bool.true_and,q8];intro c h;simpa using g.abc x d c h
 have i:decide (ls=aQ ls)=ah:=decide_eq_true (yO f).symm;show j0 bz w ls=ah;unfold j0;rw[j,i,decide_eq_true (show 1<=(w:Int)/\(w:Int)<=4 by lia),decide_eq_true (show 1<=ls.length/\ls.length<=9 from⟨g.some,g.few⟩)];rfl
theorem OD{x:PV}(h:iR a [.val x,↥bz]=.ok (.val (.bl aj)) [.val x,↥bz]):o6 a [.val x]=.ok (.val (.bl aj)) [.val x]:=by simp only[bz]at h;simp![o6,yax,h]
theorem KJ{x:PV}(h:o6 a [.val x]=.ok (.val (.bl aj)) [.val x]):jC a [.val x]=.er (.ref a.NoView) [.val x]:=by simp![jC,yaq,h,oW,dq]
theorem xn(s:Tx){x:PV}{t:String}(h:tw x=aa t)(e:eV [] (.type t) (.type "tuple")=aa aj):iR a [.val x,↥s]=.ok (.val (.bl aj)) [.val x,↥s]:=by have b:=gE (T:="tuple") h e;simp![iR,yay,b]
theorem F8(s:Tx){xs:List PV}(h:xs.length≠2):iR a [.val (.tup xs),↥s]=.ok (.val (.bl aj)) [.val (.tup xs),↥s]:=by
 have c:eF [.tup xs,.raw (.ty "tuple")]=aa (.bl ah):=gE rfl p_;have d:bx [.tup xs]=aa (.int (xs.length:Nat)):=rfl;have b:=lz ah (xs.length:Nat) 2;have:¬((xs.length:Nat):Int)=2:=∅
 simp only[this,decide_false,t_,Ds]at b;simp![iR,yay,c,d,b]
theorem En(s:Tx){x y:PV}(h:nN a [.val x]=.ok (.val (.bl aj)) [.val x]):iR a [.val (.tup [x,y]),↥s]=.ok (.val (.bl aj)) [.val (.tup [x,y]),↥s]:=by have c:eF [.tup [x,y],.raw (.ty "tuple")]=aa (.bl ah):=gE rfl p_;have f:bx [.tup [x,y]]=aa (.int 2):=rfl;have b:=lz ah 2 2;simp only[decide_true,t_,ua]at b;have d:bG (.tup [x,y]) (.int 0)=aa x:=rfl;simp![iR,yay,c,f,b,d,h]
theorem G8(s:Tx){w:Int}{y:PV}(i:1<=w/\w<=4)(h:ku a [.val y,⇑w,↥s]=.ok (.val (.bl aj)) [.val y,⇑w,↥s]):iR a [.val (.tup [.int w,y]),↥s]=.ok (.val (.bl aj)) [.val (.tup [.int w,y]),↥s]:=by have d:eF [.tup [.int w,y],.raw (.ty "tuple")]=aa (.bl ah):=gE rfl p_;have j:bx [.tup [.int w,y]]=aa (.int 2):=rfl;have c:=lz ah 2 2;simp only[decide_true,t_,ua]at c;have g:bG (.tup [.int w,y]) (.int 0)=aa (.int w):=rfl;have f:bG (.tup [.int w,y]) (.int 1)=aa y:=rfl;have b:=Fy (a:=a) w;rw[decide_eq_true i]at b;simp![iR,yay,d,j,c,g,f,b,h]
theorem Kx(s:Tx)(xs:List PV)(w:Int):ku a [.val (.lst xs),⇑w,↥s]=.ok (.val (.bl aj)) [.val (.lst xs),⇑w,↥s]:=by have b:eF [.lst xs,.raw (.ty "tuple")]=aa (.bl aj):=gE rfl Gy;simp![ku,yao,b]
theorem Uh(s:Tx)(i w:Int):ku a [.val (.tup [.int i]),⇑w,↥s]=.ok (.val (.bl aj)) [.val (.tup [.int i]),⇑w,↥s]:=by have b:eF [.tup [.int i],.raw (.ty "tuple")]=aa (.bl ah):=gE rfl p_;have f:bx [.tup [.int i]]=aa (.int 1):=rfl;have d:=No (a:=a) i w s;have c:sR [.lst [.bl aj]]=aa (.bl aj):=rfl;simp![ku,yao,b,f,dG,bP,gY,jF,gi,gA,dq,eu,d,c]
theorem oZ(s:Tx){w:Int}{ls:List Tx}(h:j0 s w ls=aj):iR a [.val (.tup [.int w,.tup (ao ls)]),↥s]=.ok (.val (.bl aj)) [.val (.tup [.int w,.tup (ao ls)]),↥s]:=by have:=ID (a:=a) s w ls;rwa[h]at this
def sS:List PV:=[.non,.int 5,.str [50,58,32,97,98],.lst [.int 1,.tup [.str [97]]],.tup [.int 1,.tup []],.tup [.int 2,.tup [.str [97]]],.tup [.int 0,.tup [.str []]],.tup [.int 5,.tup [.str [97,97,97,97,97]]],.tup [.bl ah,.tup [.str [97]]],.tup [.int 1,.tup [.str [98],.str [97]]],.tup [.int 1,.tup (bK 10 (.str [97]))],.tup [.int 1,.tup [.str [100]]],.tup [.int 1,.tup [.str [65]]],.tup [.int 1,.lst [.str [97]]],.tup [.int 1,.tup [.int 1]],.tup [.int 1],.tup [.int 1,.tup [.str [97]],.int 1],.tup [.str [49],.tup [.str [97]]]]
theorem Kq(s:Tx)(d:¬100∈s)(c:¬65∈s):∀x∈sS,iR a [.val x,↥s]=.ok (.val (.bl aj)) [.val x,↥s]:=by
 intro x b;simp only[sS,bC,i6,or_false]at b;rcases b with rfl|rfl|rfl|rfl|rfl|rfl|rfl|rfl|rfl|rfl|rfl|rfl|rfl|rfl|rfl|rfl|rfl|rfl
 .exact xn s rfl NL
 .exact xn s rfl Qt
 .exact xn s rfl QG
 .exact xn s rfl Gy
 .exact oZ s (w:=1) (ls:=[]) (by simp[j0])
 .exact oZ s (w:=2) (ls:=[[97]]) (by simp[j0,jc])
 .exact oZ s (w:=0) (ls:=[[]]) (by simp[j0])
 .exact oZ s (w:=5) (ls:=[[97,97,97,97,97]]) (by simp[j0])
 .exact En s (Gu (L9 ah))
 .refine oZ s (w:=1) (ls:=[[98],[97]]) ?_;have:¬[[98],[97]]=aQ [[98],[97]]:=λh=>by have r:=o9 [[98],[97]];rw[<-h]at r;simp[dw]at r;exact absurd r (by decide)
  simp[j0,this]
 .exact oZ s (w:=1) (ls:=bK 10 [97]) (by simp[j0])
 .exact oZ s (w:=1) (ls:=[[100]]) (by simp[j0,jc,d,c])
 .exact oZ s (w:=1) (ls:=[[65]]) (by simp[j0,jc,d,c])
 .exact G8 s (by decide) (Kx s _ _)
 .exact G8 s (by decide) (Uh s _ _)
 .exact F8 s (by decide)
 .exact F8 s (by decide)
 .exact En s (Gu (MP _))
theorem Tl:∀x∈sS,o6 a [.val x]=.ok (.val (.bl aj)) [.val x]:=λx b=>OD (Kq bz (by decide) (by decide) x b)
theorem Kl(b:List Int)(xs:List PV)(h:xs.length<=900):∃x∈sS,∃d,d.length<=xs.length+1/\zd a [b0 b,.own (.lst xs)]=.ok (.val x) [b0 b,.own (.lst d)]:=by
 obtain⟨x,g,c⟩:=yM (a:=a) b xs sS ∅ (by decide);refine⟨x,g,xs++[.int 0],by simp,?_⟩;have f:xP (.tup [.str [97]]) (.int 10)=aa (.tup (bK 10 (.str [97]))):=by show(if([PV.str [97]]≠[]/\(2:Int)<=10/\(10:Int)<=1000/\[PV.str [97]].length<=1000)then aa (PV.tup (bK (10:Int).toNat [PV.str [97]]).flatten)else ae)=_;rw[if_pos ⟨by simp,by decide,by decide,by decide⟩];rfl
 simp only[sS]at c;simp[zd,yaH,aR,cE,dB,d2,d1,dV,dC,dL,dF,ap,aC,bY,kM,cp,eY,aU,gV,gO,Pu.bA,eW,fc,cF,d_,fi,R.bind,aE,bh,dX,bj,back,eR,lj,nL,oV,o_,vi,bn,kr,fj,bQ,dD,vJ,jK,Cf,jY,vz,xI,iI,ni,BA,nv,fA,eE,nB,kx,sW,bK,jL,bF,bE,f];simp at c;simp[aR,cE,dB,d2,d1,dV,dC,dL,dF,ap,aC,bY,kM,cp,eY,aU,gV,gO,Pu.bA,eW,fc,cF,d_,fi,R.bind,aE,bh,dX,bj,back,eR,lj,nL,oV,o_,vi,bn,kr,fj,bQ,dD,vJ,jK,Cf,jY,vz,xI,iI,ni,BA,nv,fA,eE,nB,kx,sW,bK,jL,c]
end
def bH(m:List (Tx×Int))(x:Tx):Option Int:=(m.find? λp=>decide (p.1=x)).map (·.2)
def dr(m:List (Tx×Int))(x:Tx)(n:Int):List (Tx×Int):=if(m.any λp=>decide (p.1=x))=ah then m.map (λp=>if p.1=x then(p.1,n)else p)else m++[(x,n)]
def dk(m:List (Tx×Int)):List (aD×PV):=m.map λp=>(Sum.inr (tS p.1),PV.int p.2)
theorem Cr(x y:Tx):((Sum.inr (tS x):aD)=Sum.inr (tS y))=(x=y):=propext ⟨λh=>qi (Sum.inr.inj h),λh=>by rw[h]⟩
theorem uu(m:List (Tx×Int))(x:Tx):j4 (dk m) (Sum.inr (tS x))=(bH m x).map .int:=by
 induction m with
 |nil=>rfl
 |cons p m a=>
  show((List.find? _ ((Sum.inr (tS p.1),PV.int p.2)::dk m)).map (·.2))=_;unfold bH;rw[iZ,iZ];simp only[Cr];by_cases h:p.1=x
  .simp[h]
  .simp only[h,decide_false];exact a
theorem Te(m:List (Tx×Int))(x:Tx):((dk m).any λa=>decide (a.1=(Sum.inr (tS x):aD)))=m.any λp=>decide (p.1=x):=by unfold dk;rw[List.any_map];congr 1;funext p;simp only[rm,Cr]
theorem xM(m:List (Tx×Int))(x:Tx)(n:Int):oR (dk m) (Sum.inr (tS x)) (.int n)=dk (dr m x n):=by
 unfold oR dr;rw[Te];split
 .unfold dk;rw[dI,dI];refine f_ λp _=>?_;simp only[rm,Cr];split <;> rfl
 .unfold dk;simp
theorem Hc(m:List (Tx×Int)):qE (dk m)=aa (m.any λp=>decide (p.2≠0)):=by
 induction m with
 |nil=>rfl
 |cons p m a=>show(qE (dk m)).map _=_;rw[a];simp
theorem xE{m:List (Tx×Int)}{x:Tx}(h:(m.any λp=>decide (p.1=x))=aj):bH m x=ae:=by unfold bH;rw[Option.map_eq_none_iff,JP];intro p a;have:=IU.mp h p a;simpa using this
theorem NT{m:List (Tx×Int)}{x y:Tx}{n:Int}(h:(m.any λp=>decide (p.1=x))=aj):bH (m++[(x,n)]) y=if y=x then aa n else bH m y:=by
 have a:=xE h;unfold bH at a ⊢;rw[List.find?_append];by_cases e:y=x
 .subst e;rw[Option.map_eq_none_iff]at a;simp[a]
 .rw[if_neg e];have:¬x=y:=λz=>e z.symm;cases b:m.find? (λp=>decide (p.1=y))with
  |none=>simp[this]
  |some p=>simp
theorem Ld{m:List (Tx×Int)}{x y:Tx}{n:Int}:bH (m.map λp=>if p.1=x then(p.1,n)else p) y=(bH m y).map λz=>if y=x then n else z:=by
 induction m with
 |nil=>rfl
 |cons p m a=>
  unfold bH at a ⊢;rw[cu,iZ,iZ];by_cases h:p.1=x
  .rw[if_pos h];by_cases e:p.1=y
   .simp[e,show y=x from e.symm.trans h]
   .simp only[e,decide_false];exact a
  .rw[if_neg h];by_cases e:p.1=y
   .simp[e,show ¬y=x from λz=>h (e.trans z)]
   .simp only[e,decide_false];exact a
theorem Is{m:List (Tx×Int)}{x:Tx}(h:(m.any λp=>decide (p.1=x))=ah):∃n,bH m x=aa n:=by
 unfold bH;cases a:m.find? (λp=>decide (p.1=x))with
 |none=>rw[JP]at a;obtain⟨p,c,b⟩:=uc.mp h;exact absurd b (a p c)
 |some p=>exact⟨_,rfl⟩
theorem m8(m:List (Tx×Int))(x y:Tx)(n:Int):bH (dr m x n) y=if y=x then aa n else bH m y:=by
 unfold dr;by_cases h:(m.any λp=>decide (p.1=x))=ah
 .rw[if_pos h,Ld];by_cases e:y=x
  .subst e;obtain⟨k,a⟩:=Is h;rw[a];simp
  .simp[e]
 .rw[if_neg h,NT (Jv.mpr h)]
structure o0(m:List (Tx×Int))(q:List Tx):Prop where
 nd:(m.map (·.1)).Nodup
 get:∀x,(bH m x).getD 0=(q.count x:Nat)
theorem o0.mem{m:List (Tx×Int)}{q:List Tx}(h:o0 m q){p:Tx×Int}(a:p∈m):bH m p.1=aa p.2:=by
 have b:=h.nd;clear h
 induction m with
 |nil=>cases a
 |cons r m c=>
  unfold bH;rw[iZ];rcases bC.mp a with rfl|a
  .simp
  .rw[cu,kE]at b;have:¬r.1=p.1:=λz=>b.1 (cx.mpr ⟨p,a,z.symm⟩);simp only[this,decide_false];exact c a b.2
theorem Fo{m:List (Tx×Int)}{x:Tx}{n:Int}:(dr m x n).map (·.1)=if(m.any λp=>decide (p.1=x))=ah then m.map (·.1)else m.map (·.1)++[x]:=by
 unfold dr;split
 .rw[dI];refine f_ λp _=>?_;simp only[rm];split <;> rfl
 .simp
theorem ql{m:List (Tx×Int)}{x:Tx}{n:Int}(h:(m.map (·.1)).Nodup):((dr m x n).map (·.1)).Nodup:=by
 rw[Fo];split
 .exact h
 .rename_i f;rw[C7];refine⟨h,by simp,λa g b c=>?_⟩;rw[fu]at c;subst c;rintro rfl;obtain⟨p,d,rfl⟩:=cx.mp g;exact f (uc.mpr ⟨p,d,by simp⟩)
theorem o0.any{m:List (Tx×Int)}{q:List Tx}(h:o0 m q):(m.any λp=>decide (p.2≠0))=!q.isEmpty:=by
 cases q with
 |nil=>rw[JN,ua,IU];intro p b;have a:=h.get p.1;rw[h.mem b]at a;simpa using a
 |cons x q=>
  rw[List.isEmpty_cons,Ds,uc];have a:=h.get x;rw[List.count_cons_self]at a;cases e:m.find? (λp=>decide (p.1=x))with
  |none=>unfold bH at a;rw[e]at a;simp at a;lia
  |some p=>unfold bH at a;rw[e]at a;refine⟨p,List.mem_of_find?_eq_some e,?_⟩;simp at a;simp;lia
theorem o0.dec{m:List (Tx×Int)}{q:List Tx}(h:o0 m q){x:Tx}(i:x∈q):∃n,bH m x=aa n/\0<n/\o0 (dr m x (n-1)) (q.erase x)/\bH (dr m x (n-1)) x=aa (n-1)/\dr (dr m x (n-1)) x (n-1+1)=m:=by
 have a:=h.get x;have o:0<q.count x:=List.count_pos_iff.mpr i;cases e:bH m x with
 |none=>rw[e]at a;simp at a;lia
 |some n=>
  rw[e]at a;simp only[JQ]at a;refine⟨n,rfl,∅,⟨ql h.nd,λy=>?_⟩,by rw[m8,if_pos rfl],?_⟩
  .rw[m8];by_cases c:y=x
   .subst c;rw[if_pos rfl,List.count_erase_self];simp only[JQ];lia
   .rw[if_neg c,List.count_erase_of_ne (ef (ef c))];exact h.get y
  .have f:(m.any λp=>decide (p.1=x))=ah:=by
    cases z:(m.any λp=>decide (p.1=x))with
    |true=>rfl
    |false=>rw[xE z]at e;cases e
   have j:((dr m x (n-1)).any λp=>decide (p.1=x))=ah:=by unfold dr;rw[if_pos f];obtain⟨p,d,b⟩:=uc.mp f;refine uc.mpr ⟨_,cx.mpr ⟨p,d,rfl⟩,?_⟩;rw[decide_eq_true_eq]at b;rw[if_pos b];simpa using b
   have l:dr (dr m x (n-1)) x (n-1+1)=(m.map λp=>if p.1=x then(p.1,n-1)else p).map λp=>if p.1=x then(p.1,n-1+1)else p:=by show(if((dr m x (n-1)).any λp=>decide (p.1=x))=ah then _ else _)=_;rw[if_pos j];unfold dr;rw[if_pos f]
   rw[l,dI];have:∀p∈m,((λp:Tx×Int=>if p.1=x then(p.1,n-1+1)else p) ∘ λp:Tx×Int=>if p.1=x then(p.1,n-1)else p) p=p:=by
    intro p d;simp only[rm];by_cases c:p.1=x
    .rw[if_pos c,if_pos c];have g:=h.mem d;rw[c,e]at g;cases g;rw[show p.2-1+1=p.2 by lia]
    .rw[if_neg c,if_neg c]
   rw[f_ this,List.map_id''];intro p;rfl
theorem o0.zero{m:List (Tx×Int)}{q:List Tx}(h:o0 m q){x:Tx}(a:x∉q):(bH m x).getD 0=0:=by rw[h.get,Uy a];rfl
section
variable{a:Ad}
theorem So(b:List Tx)(F:b.length<=100):∃m,o0 m b/\m.length<=b.length/\vI a [.val (.tup (ao b))]=.ok (.own (.dK (dk m))) [.val (.tup (ao b))]:=by
 obtain⟨v,u,m,g,l,rfl,f,n,A⟩:=zc (i:=2) (db:=(fO 1 (dV 2) (d2 bF (iU 1 (dV 2) (dC (.int 0))) (dC (.int 1)))))
  (I:=λr h=>∃(m:List (Tx×Int)) (g:Slot) (l:List Tx),h=[.val (.tup (ao b)),.own (.dK (dk m)),g]/\o0 m l/\m.length<=l.length/\∃q,b=l++q/\r=ao q)
  (by
   rintro x r h ⟨m,g,l,rfl,f,n,q,d,p⟩;cases q with
   |nil=>cases p
   |cons y q=>
    have j:x::r=.str y::ao q:=p;simp only[zR]at j;obtain⟨rfl,rfl⟩:=j;have E:m.length<bE:=by have:=congrArg jL d;simp at this;unfold bE;lia
    refine⟨[.val (.tup (ao b)),.own (.dK (dk (dr m y ((bH m y).getD 0+1)))),↥y],?_,dr m y ((bH m y).getD 0+1),_,l++[y],rfl,⟨ql f.nd,λz=>?_⟩,?_,q,by rw[d];simp,rfl⟩
    .have o:=uu m y;have s:=xM m y ((bH m y).getD 0+1);have t:(dk m).length<bE:=by unfold dk;rw[cn];exact E
     have B:((bH m y).map PV.int).getD (.int 0)=.int ((bH m y).getD 0):=by cases bH m y <;> rfl
     generalize dk m=D at o s t;simp![fO,iU,dA,jf,o,B,bF,t,s]
    .rw[m8];by_cases c:z=y
     .subst c;rw[if_pos rfl,List.count_append,List.count_singleton_self];have:=f.get z;simp only[JQ];lia
     .rw[if_neg c,List.count_append,f.get z];have:[y].count z=0:=Uy (by simpa using c);rw[this];rfl
    .have:(dr m y ((bH m y).getD 0+1)).length<=m.length+1:=by
      unfold dr;split <;> simp
     rw[cQ,pD];lia)
  (ao b) [.val (.tup (ao b)),.own (.dK (dk [])),.none] ⟨[],.none,[],rfl,⟨by simp,λx=>by simp[bH]⟩,by simp,b,by simp,rfl⟩
 obtain⟨q,d,w⟩:=A;have:q=[]:=by cases q with|nil=>rfl|cons=>cases w
 subst this;rw[f8]at d;subst d;refine⟨m,f,n,?_⟩;have C:dk []=[]:=rfl;rw[C]at u;simp![vI,yar,sH,et,bP,gY,dQ,u,kW]
theorem Qn{t:Tx}{w:Nat}(b:w<=t.length+1)(c:1<=w):bZ (.str t) (aa ((t.length:Int)-w+1)) ae=aa (.str (t.drop (t.length+1-w))):=by show aa (PV.str (eU t _ ae))=_;rw[show((t.length:Int)-w+1)=((t.length+1-w:Nat):Int) by lia,yg]
def qu(c:Nat):PV:=.str [c]
theorem GM(w:Nat)(S:1<=w):∀(r u:Nat) (t:Tx) (m:List (Tx×Int)) (q:List Tx) (b:List Tx),r<u->q.length=r->o0 m q->w<=t.length+1->t.length+r<=1000->m.length<=1000->b.length+(iS w r t q).length<=bE -> pc a u [↥t,⇑w,.own (.dK (dk m)),.own (.lst (ao b))]=.ok (.val .non) [↥t,⇑w,.own (.dK (dk m)),.own (.lst (ao (b++iS w r t q)))]
 |0,0,_,_,_,_,h,_,_,_,_,_,_=>absurd h ∅
 |r+1,0,_,_,_,_,h,_,_,_,_,_,_=>absurd h ∅
 |0,u+1,t,m,q,b,_,hq,hm,hw,ht,l6,hs=>by
  have N:q=[]:=ox.mp hq;subst N;have d:=Hc m;rw[hm.any]at d;simp only[JN,ua]at d;have Z:(ao b).length<bE:=by rw[jg];simp only[iS,pD]at hs;lia
  have e:ao (b++iS w 0 t [])=ao b++[.str t]:=by simp[ao,iS]
  rw[e];generalize dk m=D at d;generalize ao b=L at Z;simp![pc,yam,uY,dA,d,Z]
 |r+1,u+1,t,m,q,b,hf,hq,hm,hw,ht,l6,hs=>by
  have bX:q.isEmpty=aj:=by cases q with|nil=>cases hq|cons=>rfl
  have d:=Hc m;rw[hm.any,bX]at d;simp only[Ds]at d;have A:=Qn (t:=t) hw S;have bg:bx [.str t]=aa (.int (t.length:Nat)):=rfl;have kH:iV (.int (t.length:Nat)) (.int w)=aa (.int ((t.length:Int)-w)):=rfl;have gq:bF (.int ((t.length:Int)-w)) (.int 1)=aa (.int ((t.length:Int)-w+1)):=rfl
  let H:=t.drop (t.length+1-w)
  let f:=λc=>if H++[c]∈q then iS w r (t++[c]) (q.erase (H++[c]))else []
  have hE:iS w (r+1) t q=bz.flatMap f:=rfl;have hH:H.length<=1000:=by simp only[H,mE];lia
  obtain⟨ε',s,G,F,p,rest,o,M,rfl⟩:=zc (i:=5) (db:=(aR (cp 6 (d2 bF (dV 4) (dV 5)))
 (cE (dB (d2 (fA λi j=>decide (j<i)) (iU 2 (dV 6) (dC (.int 0))) (dC (.int 0)))) (aR (fO 2 (dV 6) (d2 iV (nM 2 (dV 6)) (dC (.int 1))))
 (aR (jK (aU (pc a u) (gV (d2 bF (dV 0) (dV 5)) (gV (dV 1) (gO 2 (gO 3 (Pu.bA)))))))
 (fO 2 (dV 6) (d2 bF (nM 2 (dV 6)) (dC (.int 1)))))) (dD))))
   (I:=λJ Q=>∃(G F:Slot) (p rest:Tx),bz=p++rest/\J=rest.map qu/\Q=[↥t,⇑w,.own (.dK (dk m)),.own (.lst (ao (b++p.flatMap f))),↥H,G,F])
   (by
    rintro x J Q ⟨G,F,p,rest,o,T,rfl⟩;cases rest with
    |nil=>cases T
    |cons c rest=>
     have J4:x::J=qu c::rest.map qu:=T;simp only[zR]at J4;obtain⟨rfl,rfl⟩:=J4;have W:bF (.str H) (.str [c])=aa (.str (H++[c])):=ya (by simp[bE];lia);have oD:bF (.str t) (.str [c])=aa (.str (t++[c])):=ya (by simp[bE];lia);have UC:b.length+(p.flatMap f).length+(f c).length<=bE:=by rw[hE,o,JR,wj,cQ,cQ]at hs;lia
     have X:ao (b++(p++[c]).flatMap f)=ao ((b++p.flatMap f)++f c):=by simp
     by_cases B:H++[c]∈q
     .obtain⟨n,P,g2,g3,g4,g5⟩:=hm.dec B;have g:f c=iS w r (t++[c]) (q.erase (H++[c])):=if_pos B;have v:=GM w S r u (t++[c]) (dr m (H++[c]) (n-1)) (q.erase (H++[c])) (b++p.flatMap f) ∅ (by rw[pH B,hq];rfl) g3 (by simp;lia) (by simp;lia)
       (by
        have:(dr m (H++[c]) (n-1)).length=m.length:=by
         have:=congrArg jL (Fo (m:=m) (x:=H++[c]) (n:=n-1));have d:(m.any λp=>decide (p.1=H++[c]))=ah:=by
          cases z:(m.any λp=>decide (p.1=H++[c]))with
          |true=>rfl
          |false=>rw[xE z]at P;cases P
         rw[if_pos d]at this;simpa using this
        lia)
       (by rw[<-g,cQ];exact UC)
      rw[<-g]at v;have l:=uu m (H++[c]);rw[P]at l;have O:=xM m (H++[c]) (n-1);have C:=uu (dr m (H++[c]) (n-1)) (H++[c]);rw[g4]at C;have E:=xM (dr m (H++[c]) (n-1)) (H++[c]) (n-1+1);rw[g5,show n-1+1=n by lia]at E;have y:(dk m).length<bE:=by unfold dk;rw[cn];unfold bE;lia
      have Y:(dk (dr m (H++[c]) (n-1))).length<bE:=by
       unfold dk;rw[cn];have:(dr m (H++[c]) (n-1)).length<=m.length+1:=by unfold dr;split <;> simp
       unfold bE;lia
      have gt:(0:Int)<n:=g2;refine⟨[↥t,⇑w,.own (.dK (dk m)),.own (.lst (ao (b++(p++[c]).flatMap f))),↥H,.val (.str [c]),↥(H++[c])],?_,_,_,p++[c],rest,by rw[o];simp,rfl,rfl⟩;rw[X];have s1:iV (.int n) (.int 1)=aa (.int (n-1)):=rfl;have s2:bF (.int (n-1)) (.int 1)=aa (.int n):=by show aa (PV.int (n-1+1))=_;congr 2;lia
      simp only[pE]at l C;generalize dk m=D at l O E y;generalize dk (dr m (H++[c]) (n-1))=D2 at C O E v Y;generalize ao (b++p.flatMap f)=L at v;generalize ao ((b++p.flatMap f)++f c)=L2 at v;clear_value H f;simp![qu,W,iU,nM,fO,dA,jf,l,gt,s1,y,O,oD,v,C,s2,Y,E]
     .have g:f c=[]:=if_neg B;have K:=hm.zero B;have l:=uu m (H++[c]);have hg:((bH m (H++[c])).map PV.int).getD (.int 0)=.int 0:=by
       cases e:bH m (H++[c])with
       |none=>rfl
       |some k=>rw[e]at K;simp at K;subst K;rfl
      refine⟨[↥t,⇑w,.own (.dK (dk m)),.own (.lst (ao (b++(p++[c]).flatMap f))),↥H,.val (.str [c]),↥(H++[c])],?_,_,_,p++[c],rest,by rw[o];simp,rfl,rfl⟩;rw[X,g,f8];generalize dk m=D at l;generalize ao (b++p.flatMap f)=L;clear_value H f;simp![qu,W,iU,dA,jf,l,hg])
   (bz.map qu) [↥t,⇑w,.own (.dK (dk m)),.own (.lst (ao (b++([]:Tx).flatMap f))),↥H,.none,.none] ⟨.none,.none,[],bz,by simp,rfl,rfl⟩
  have kK:rest=[]:=by cases rest with|nil=>rfl|cons=>cases M
  subst kK;rw[f8]at o;rw[hE];rw[<-o]at s;simp only[JL,f8]at s;have rq:gY (.str [97,98,99])=aa (bz.map qu):=rfl;have UO:bZ (.str t) (aa ((t.length:Int)-w+1)) ae=aa (.str H):=A;generalize dk m=D at d s;generalize ao b=L at s;generalize ao (b++bz.flatMap f)=L2 at s;clear_value H f;simp![pc,yam,uY,dA,d,bV,bT,b9,bg,kH,gq,UO,dQ,et,bP,rq,s]
end
section
variable{a:Ad}
abbrev aW(w:Nat)(ls:List Tx):PV:=.tup [.int w,.tup (ao ls)]
theorem GQ{b:Type}(xs:List b):eU xs ae (aa (-1))=xs.dropLast:=by unfold eU;rw[show HT.sIx xs.length 0 ae=0 from rfl,qZ,Nat.sub_zero,JS];congr 1;show(HT.sIx xs.length xs.length (aa (-1)))=_;show(if(-1:Int)<0 then((-1:Int)+(xs.length:Int)).toNat else min (-1:Int).toNat xs.length)=_;rw[if_pos (by decide)];lia
theorem GX{w:Nat}{ls:List Tx}(g:Good bz w ls)(c:1<=w)(d:w<=4):(eT w ls).length<=531441:=by rw[vn c g.some λx b=>⟨g.len x b,g.abc x b⟩];refine cP (JJ _ _) ?_;rw[H_];exact cP (Nat.pow_le_pow_right (by decide) (show w-1+ls.length<=12 by have:=g.few;lia)) (by decide)
theorem KY(V:PV)(d:List Tx)(w:Nat)(c b:Slot):jF [] eu (bV bZ (dV 0) b9 (bT (d1 dP (dC (.int 1))))) (ao d) [] [.val V,⇑w,c,b]=.ok (ao (d.map pI)) [.val V,⇑w,c,b]:=by
 have i:=oY (cap:=[]) (dt:=eu) (de:=(bV bZ (dV 0) b9 (bT (d1 dP (dC (.int 1)))))) (ε:=[.val V,⇑w,c,b]) (λ_=>ah) (λx=>match x with|.str z=>.str z.dropLast|_=>.non) (ao d)
  (by
   intro x f;obtain⟨z,_,rfl⟩:=cx.mp f;refine⟨by simp![gi,gA,dq,eu],λ_=>?_⟩;have g:bZ (.str z) ae (aa (-1))=aa (.str z.dropLast):=by show aa (PV.str (eU z ae (aa (-1))))=_;rw[GQ]
   have h:dP (.int 1)=aa (.int (-1)):=rfl;simp![gi,gA,dq,bV,b9,bT,h,g]) []
 rw[i,hZ,wm.mpr (by simp)];unfold ao;rw[dI,dI];rfl
theorem Ci{w:Nat}{ls:List Tx}(g:Good bz w ls)(q:1<=w)(E:w<=4)(S:ls.Pairwise (λa b=>dw a b=ah)):s_ a [.val (aW w ls)]=.ok (.own (.lst (ao (eT w ls)))) [.val (aW w ls)]:=by
 have j:=vm (a:=a) (g.vw q E S);have v:bG (aW w ls) (.int 0)=aa (.int w):=rfl;have l:bG (aW w ls) (.int 1)=aa (.tup (ao ls)):=rfl;obtain⟨m,A,H,u⟩:=So (a:=a) ls (by have:=g.few;lia);have O:m.length<=1000:=by have:=g.few;lia
 let hd:=aQ (b_ (ls.map pI))
 have N:∀h∈hd,h.length=w-1:=λh J=>by have A:=(mj _ _).mp ((eQ _).mem_iff.mp J);obtain⟨y,Q,rfl⟩:=cx.mp A;rw[Df,g.len y Q]
 let f:=λh=>iS w ls.length h ls
 have K:eT w ls=hd.flatMap f:=rfl;have B:=GX g q E;obtain⟨M,d,s,p,rest,n,z,rfl⟩:=zc (i:=3) (db:=(jK (pR (pc a 12) (nA (dV 3) (nA (dV 1) (gN (kr (aU (vI a) (gV (d2 bG (dV 0) (dC (.int 1))) (Pu.bA)))) (gO 2 (Pu.bA))))))))
  (I:=λr C=>∃(s:Slot) (p rest:List Tx),hd=p++rest/\r=ao rest/\C=[.val (aW w ls),⇑w,.own (.lst (ao (p.flatMap f))),s])
  (by
   rintro x r C ⟨s,p,rest,n,G,rfl⟩;cases rest with
   |nil=>cases G
   |cons h rest=>
    have F:x::r=.str h::ao rest:=G;simp only[zR]at F;obtain⟨rfl,rfl⟩:=F;have J:h.length=w-1:=N h (by rw[n];simp);have o:=GM (a:=a) w q ls.length 12 h m ls (p.flatMap f) (by have:=g.few;lia) rfl A ∅ (by have:=g.few;lia) O (by rw[K,n,JR,wj,cQ,cQ]at B;show(p.flatMap f).length+(f h).length<=bE;unfold bE;lia);refine⟨[.val (aW w ls),⇑w,.own (.lst (ao ((p++[h]).flatMap f))),↥h],?_,_,p++[h],rest,by rw[n];simp,rfl,rfl⟩;have X:(p++[h]).flatMap f=p.flatMap f++iS w ls.length h ls:=by simp[f]
    rw[X];generalize ao (p.flatMap f)=L at o;generalize ao (p.flatMap f++iS w ls.length h ls)=L2 at o;generalize dk m=D at o u;simp only[aW]at l ⊢;generalize ao ls=T at u l;clear_value f hd;simp![pR,nA,gN,A5,l,u,o])
  (ao hd) [.val (aW w ls),⇑w,.own (.lst (ao (([]:List Tx).flatMap f))),.none] ⟨.none,[],hd,by simp,rfl,rfl⟩
 have P:rest=[]:=by cases rest with|nil=>rfl|cons=>cases z
 subst P;rw[f8]at n;rw[<-n,<-K]at d;simp only[JL]at d;have c:=KY (aW w ls) ls w (.own (.lst [])) .none;have t:vt [.lst (ao (ls.map pI))]=aa (.lst (ao hd)):=by show(e_ (ao _)).bind _=_;have Z:=g.few;rw[p7,gG,if_pos (vZ (BV _) (by rw[cn];lia))]
 have Y:ao ([]:List Tx)=[]:=rfl;rw[Y]at d;generalize ao (eT w ls)=L at d;generalize ao hd=D at d t;generalize ao (ls.map pI)=D0 at c t;simp only[aW]at j v l c d ⊢;generalize W:ao ls=T at j v l c d;clear_value f hd;simp![s_,yaS,j,v,l,dQ,et,bP,gY,dG,c,t,d,kW]
theorem EG{w:Nat}{ls:List Tx}(g:Good bz w ls)(h:1<=w)(f:w<=4)(i:ls.Pairwise (λa b=>dw a b=ah)):uX a [.val (aW w ls)]=.ok (⇑((eT w ls).length:Nat)) [.val (aW w ls)]:=by
 have c:=Ci (a:=a) g h f i;have d:bx [.lst (ao (eT w ls))]=aa (.int ((eT w ls).length:Nat)):=by simp[bx,jg]
 generalize ao (eT w ls)=L at c d;simp![uX,yaw,c,d]
theorem N7(b:List Tx):jG (ao b)=aa (cO b):=by
 induction b with
 |nil=>rfl
 |cons x b c=>show(d9 (.str x)).bind (λv=>(jG (ao b)).map (v::·))=_;rw[c];rfl
end
end Sh
namespace Mx
open L2 Pu
def nO(z:Tx)(i:Nat):Nat:=z.getD (i % z.length) 0
def Nz(z:Tx)(w:Nat):Tx:=((bK w z).flatten).take (z.length+w-1)
theorem len_sub{l m:List Tx}(a:l.Nodup)(h:∀x∈l,x∈m):l.length<=m.length:=by
 induction l generalizing m with
 |nil=>simp
 |cons x l d=>rw[kE]at a;have c:x∈m:=h x (by simp);have:=d (m:=m.erase x) a.2 λy b=>(List.mem_erase_of_ne (λz=>a.1 (by rw[<-z];exact b))).mpr (h y (by simp[b]));rw[pH c]at this;have f:0<m.length:=List.length_pos_of_mem c;rw[eh];lia
end Mx
namespace Sh
open L2 Pu Mx
section
variable{a:Ad}
def EM(t:Tx)(v:Nat):List Tx:=(dy (t.length+1-v)).map λi=>(t.drop i).take v
theorem R5{w:Nat}{ls:List Tx}(h:1<=ls.length)(g:ls.length<=9):vL a [⇑w,.val (.lst (ao ls))]=.ok (.val (aW w (aQ ls))) [⇑w,.val (.lst (ao ls))]:=by
 have c:bx [.lst (ao ls)]=aa (.int (ls.length:Nat)):=by simp[bx,jg]
 have f:(1:Int)<=(ls.length:Nat):=∅
 have d:((ls.length:Nat):Int)<=9:=∅
 have b:lv [.lst (ao ls)]=aa (.lst (ao (aQ ls))):=uU ∅;simp only[aW];generalize ao (aQ ls)=T at b;generalize ao ls=B at c b;simp![vL,yaT,c,f,d,b,mn]
def sF(b c:Nat):List Nat:=zP b (c-b)
def part(t:Tx)(i j:Nat):Tx:=(t.drop i).take (j-i)
def nO(b:List Tx)(i:Nat):Tx:=b.getD i []
def Re(t:Tx)(s e g l:Nat):Tx:=t.take s++part t g l++part t e g++part t s e++t.drop l
def Rt(t:Tx)(b:List Tx)(s g e:Nat):List Tx:=(sF (g+1) b.length).flatMap λl=>if nO b e=nO b l then [Re t s e g l] else []
def NV(t:Tx)(b:List Tx)(s g:Nat):List Tx:=(sF (s+1) (g+1)).flatMap λe=>Rt t b s g e
theorem FM{i:Nat}{b:ak}{c:PO}(h:b[i]?=aa (.own c)):kW i b=.ok (.ret (.own c)) (b.set i .none):=by unfold kW;rw[h]
theorem PN{i:Nat}{d:ak->R (List PV)}{db:ak->R aK}{ε c b:ak}{xs:List PV}(h:d ε=.ok xs c)(f:iB i db xs c=.ok .next b):et i d db ε=.ok .next b:=by unfold et;rw[h];exact f
end
section
variable{a:Ad}
def Lf(t:Tx)(b:List Tx)(s:Nat):List Tx:=(sF (s+1) b.length).flatMap λg=>if nO b s=nO b g then NV t b s g else []
def Qi(t:Tx)(b:List Tx):List Tx:=(sF 0 b.length).flatMap λs=>Lf t b s
theorem Fx{i:Nat}{ε:ak}{v:PV}(h:ε[i]?=aa (.val v)):dV i ε=.ok v ε:=by unfold dV;rw[h]
theorem Pi{d:Type}{c:ak->R Bool}{d1 d2:ak->R d}{ε b:ak}(h:c ε=.ok ah b):cE c d1 d2 ε=d1 b:=by unfold cE;rw[h];rfl
theorem Ps{d:Type}{c:ak->R Bool}{d1 d2:ak->R d}{ε b:ak}(h:c ε=.ok aj b):cE c d1 d2 ε=d2 b:=by unfold cE;rw[h];rfl
theorem AF{d:ak->R PV}{b:Bool}{ε c:ak}(h:d ε=.ok (.bl b) c):dB d ε=.ok b c:=by unfold dB;rw[h];rfl
def Kj(t:Tx)(m w:Nat):List Tx:=(sF 1 m).map λp=>Nz ((t.take m).drop p++(t.take m).take p) w
def Oq(t:Tx)(b:List Tx)(w:Nat):List Tx:=if nO b 0=nO b (b.length-1)then Kj t (b.length-1) w else []
def Mo(t:Tx)(w:Nat):List Tx:=Qi t (EM t (w-1))++Oq t (EM t (w-1)) w
def LU(t:Tx)(m:Nat):List Tx:=(sF 1 m).map λp=>part (bK 3 (t.take m)).flatten p (p+t.length)
def kR(t:Tx)(b:List Tx):List Tx:=if nO b 0=nO b (b.length-1)then LU t (b.length-1)else []
end
section
variable{a:Ad}
theorem yd{t:ak->R Bool}{c:ak->R aK}{n:Nat}{d ε1 b:ak}(h:t d=.ok ah ε1)(f:c ε1=.ok .next b):gm t c (n+1) d=gm t c n b:=by rw[gm,h,R.bind_ok];simp only;rw[f]
theorem yU{t:ak->R Bool}{c:ak->R aK}{n:Nat}{b ε1:ak}(h:t b=.ok aj ε1):gm t c (n+1) b=.ok .next ε1:=by rw[gm,h,R.bind_ok]
end
end Sh
namespace Mx
open L2 Pu
theorem sZ{z:Tx}{w:Nat}(a:1<=w):(aX z w).length=z.length+1-w:=by rw[lC z w a];simp
def Ro(t:Tx)(w:Nat):List Tx:=(eX t.length).filter λz=>(aX z w).isPerm (aX t w)
theorem Qe(f:Nat->Nat)(z:Tx)(w:Nat):aX (z.map f) w=(aX z w).map (List.map f):=by unfold aX;rw[cn,dI];refine f_ λi _=>?_;simp[List.map_take,List.map_drop]
end Mx
namespace Sh
open L2 Pu Mx
abbrev gr(t:Tx)(v i:Nat):Tx:=(t.drop i).take v
theorem uL{t:Tx}{v i:Nat}:(gr t (v+1) i).take v=gr t v i:=by unfold gr;rw[List.take_take,Dr ∅]
theorem A_{t:Tx}{v i:Nat}:(gr t (v+1) i).tail=gr t v (i+1):=by
 unfold gr;refine wc λk=>?_;rw[List.getElem?_tail,JF,JF,C8,C8];by_cases h:k<v
 .rw[if_pos ∅,if_pos h];congr 1;lia
 .rw[if_neg ∅,if_neg h]
theorem U0{t:Tx}{v:Nat}{x:Tx}:x∈aX t (v+1)↔∃i,i+v<t.length/\x=gr t (v+1) i:=by
 rw[lC _ _ ∅,cx];constructor
 .rintro⟨i,a,rfl⟩;exact⟨i,by have:=zn.mp a;lia,rfl⟩
 .rintro⟨i,a,rfl⟩;exact⟨i,zn.mpr ∅,rfl⟩
theorem Ij{v:Nat}{y:Tx}:∀(k:Nat) (t:Tx) (i:Nat),((zP i k).map λj=>if gr t v j=y then 1 else 0).sum+(if gr t v (i+k)=y then 1 else 0)=((zP i k).map λj=>if gr t v (j+1)=y then 1 else 0).sum+(if gr t v i=y then 1 else 0)
 |0,t,i=>by simp
 |k+1,t,i=>by have a:=Ij (v:=v) (y:=y) k t (i+1);rw[List.range'_succ,cu,cu,hU,hU,show i+(k+1)=i+1+k by lia];lia
end Sh
namespace Mx
open L2 Pu
theorem Fb(w:Nat):∀(s r t:Tx),nw w t (s++r)=nw w t s++nw w (t++s) r
 |[],r,t=>by simp[nw]
 |c::s,r,t=>by rw[ke,nw,nw,Fb w s r (t++[c]),ke,eN];rfl
end Mx
namespace Sh
open L2 Pu Mx
section
variable{v:Nat}
def oc(v:Nat)(M:List Tx)(y:Tx):Nat:=(M.map λx=>if x.take v=y then 1 else 0).sum
def ic(M:List Tx)(y:Tx):Nat:=(M.map λx=>if x.tail=y then 1 else 0).sum
theorem yb(M N:List Tx)(y:Tx):oc v (M++N) y=oc v M y+oc v N y:=by simp[oc]
theorem yL(M N:List Tx)(y:Tx):ic (M++N) y=ic M y+ic N y:=by simp[ic]
theorem xx{M N:List Tx}(h:M.Perm N)(y:Tx):oc v M y=oc v N y:=(h.map _).sum_nat
theorem xy{M N:List Tx}(h:M.Perm N)(y:Tx):ic M y=ic N y:=(h.map _).sum_nat
theorem UX{M:List Tx}{y:Tx}:0<oc v M y↔∃x∈M,x.take v=y:=by
 unfold oc
 induction M with
 |nil=>simp
 |cons a M f=>
  rw[cu,hU];by_cases c:a.take v=y
  .rw[if_pos c];exact⟨λ_=>⟨a,by simp,c⟩,λ_=>∅⟩
  .rw[if_neg c,oq,f];exact⟨λ⟨x,d,b⟩=>⟨x,by simp[d],b⟩,λ⟨x,d,b⟩=>⟨x,(bC.mp d).resolve_left λe=>c (e ▸ b),b⟩⟩
theorem Vh{M:List Tx}{y:Tx}:0<ic M y↔∃x∈M,x.tail=y:=by
 unfold ic
 induction M with
 |nil=>simp
 |cons a M f=>
  rw[cu,hU];by_cases c:a.tail=y
  .rw[if_pos c];exact⟨λ_=>⟨a,by simp,c⟩,λ_=>∅⟩
  .rw[if_neg c,oq,f];exact⟨λ⟨x,d,b⟩=>⟨x,by simp[d],b⟩,λ⟨x,d,b⟩=>⟨x,(bC.mp d).resolve_left λe=>c (e ▸ b),b⟩⟩
abbrev en(v:Nat)(t:Tx):Tx:=t.drop (t.length-v)
abbrev b2(p:Prop)[Decidable p]:Nat:=if p then 1 else 0
theorem LX{t:Tx}:gr t v (t.length-v)=en v t:=by unfold gr en;exact i5 (by simp;lia)
theorem yj{t:Tx}(h:v<=t.length)(y:Tx):oc v (aX t (v+1)) y+b2 (en v t=y)=ic (aX t (v+1)) y+b2 (t.take v=y):=by
 have:=Ij (v:=v) (y:=y) (t.length-v) t 0;rw[oq,LX]at this;unfold oc ic b2;rw[lC _ _ ∅,dI,dI,show t.length+1-(v+1)=t.length-v by lia,List.range_eq_range'];have b:∀j,((λx:Tx=>if x.take v=y then 1 else 0) ∘ λi=>(t.drop i).take (v+1)) j=if gr t v j=y then 1 else 0:=λj=>by show(if(gr t (v+1) j).take v=_ then 1 else 0)=_;rw[uL]
 have a:∀j,((λx:Tx=>if x.tail=y then 1 else 0) ∘ λi=>(t.drop i).take (v+1)) j=if gr t v (j+1)=y then 1 else 0:=λj=>by show(if(gr t (v+1) j).tail=_ then 1 else 0)=_;rw[A_]
 rw[f_ λj _=>b j,f_ λj _=>a j];simpa[gr]using this
theorem D_{t:Tx}(h:v<=t.length)(c:Nat):aX (t++[c]) (v+1)=aX t (v+1)++[en v t++[c]]:=by rw[RX ∅,if_pos ∅];congr 2;rw[show t.length+1-(v+1)=t.length-v by lia,v8 ∅];exact i5 (by simp;lia)
theorem Ab{M:List Tx}(h:∀x∈M,x.length=v+1):∀(n:Nat) (t:Tx) (R:List Tx),R.length=n->v<=t.length->(aX t (v+1)++R).Perm M -> ∃b d,b.take v=t.take v/\v<=b.length/\(aX b (v+1)++d).Perm M/\∀x∈d,x.take v≠en v b
 |0,t,R,hn,ht,hp=>⟨t,R,rfl,ht,hp,λx a=>by rw[ox.mp hn]at a;simp at a⟩
 |n+1,t,R,hn,ht,hp=>by
  by_cases q:∃x∈R,x.take v=en v t
  .obtain⟨x,a,e⟩:=q;have i:x.length=v+1:=h x (hp.mem_iff.mp (iW _ a));have f:x=en v t++[x.getLastD 0]:=by
    have g:x=x.take v++x.drop v:=(mH v x).symm;have m:∃c,x.drop v=[c]:=List.length_eq_one_iff.mp (by rw[mE];lia);obtain⟨c,j⟩:=m;rw[j]at g;have l:x.getLastD 0=c:=by rw[g];simp
    rw[l,<-e];exact g
   have o:(aX (t++[x.getLastD 0]) (v+1)++R.erase x).Perm M:=by rw[D_ ht,<-f,eN];exact(zE _ (JT a).symm).trans hp
   obtain⟨b,d,u,s,r,p⟩:=Ab h n (t++[x.getLastD 0]) (R.erase x) (by rw[pH a];lia) (by simp;lia) o;exact⟨b,d,by rw[u,wl ht],s,r,p⟩
  .exact⟨t,R,rfl,ht,hp,λx a e=>q ⟨x,a,e⟩⟩
theorem Ic{M:List Tx}(i:∀x∈M,x.length=v+1)(a:∀y,oc v M y=ic M y){p:Tx}(s:p.length=v):∃t R,t.take v=p/\v<=t.length/\(aX t (v+1)++R).Perm M/\en v t=p/\(∀x∈R,x.take v≠p)/\∀y,oc v R y=ic R y:=by
 have m:aX p (v+1)=[]:=ox.mp (by rw[sZ ∅];lia);obtain⟨t,R,d,g,b,h⟩:=Ab i M.length p M rfl ∅ (by rw[m];exact .refl _);rw[show p.take v=p from i5 ∅]at d;have u:oc v R (en v t)=0:=by
  rcases wo (oc v R (en v t))with q|q
  .exact q
  .obtain⟨x,l,j⟩:=UX.mp q;exact absurd j (h x l)
 have c:=yj g (en v t);have r:=xx (v:=v) b (en v t);have o:=xy b (en v t);have w:=a (en v t);rw[yb]at r;rw[yL]at o;rw[d]at c;unfold b2 at c;rw[if_pos rfl]at c;have f:p=en v t:=by
  by_cases q:p=en v t
  .exact q
  .rw[if_neg q]at c;lia
 refine⟨t,R,d,g,b,f.symm,by rw[f];exact h,λy=>?_⟩;have d1:=yj g y;have d2:=xx (v:=v) b y;have n:=xy b y;rw[yb]at d2;rw[yL]at n;rw[d,<-f]at d1;have:=a y;lia
theorem Pm{t c:Tx}{i:Nat}(G:i+v<=t.length)(H:v<=c.length)(D:c.take v=gr t v i)(C:en v c=gr t v i):∃l,l.take v=t.take v/\v<=l.length/\en v l=en v t/\(aX l (v+1)).Perm (aX t (v+1)++aX c (v+1)):=by
 let T1:=t.take (i+v)
 let T2:=t.drop (i+v)
 have r:t=T1++T2:=(mH _ _).symm;have A:T1.length=i+v:=by simp[T1];lia
 have m:T1=t.take i++gr t v i:=by show t.take (i+v)=_;rw[List.take_add]
 have d:(gr t v i).length=v:=by unfold gr;simp;lia
 let s:=c.drop v
 have q:c=gr t v i++s:=by rw[<-D];exact(mH _ _).symm
 have o:∀(a b:Tx),(a++gr t v i).length=a.length+v->aX (a++gr t v i++b) (v+1)=aX (a++gr t v i) (v+1)++nw (v+1) (gr t v i) b:=by
  intro a b _;have p:∀(n:Nat) (b:Tx),b.length=n->aX (a++gr t v i++b) (v+1)=aX (a++gr t v i) (v+1)++nw (v+1) (gr t v i) b:=by
   intro n
   induction n with
   |zero=>intro b h;rw[ox.mp h];simp[nw]
   |succ n B=>
    intro b h;obtain⟨j,x,rfl⟩:∃j x,b=j++[x]:=⟨b.dropLast,b.getLast (by intro e;rw[e]at h;simp at h),(List.dropLast_concat_getLast _).symm⟩
    rw[<-eN,D_ (by simp[d];lia),B j (by simp at h;lia),Fb,eN];congr 2;simp only[nw];congr 2;have e:(a++gr t v i++j).length-v=a.length+((gr t v i++j).length+1-(v+1)):=by simp[d];lia
    unfold en;rw[e,eN,JU];simp
  exact p b.length b rfl
 have z:aX t (v+1)=aX T1 (v+1)++nw (v+1) (gr t v i) T2:=by have:=o (t.take i) T2 (by simp[d]);rw[<-m]at this;rw[<-this,<-r]
 have y:aX (T1++s) (v+1)=aX T1 (v+1)++nw (v+1) (gr t v i) s:=by have:=o (t.take i) s (by simp[d]);rw[<-m]at this;exact this
 have w:aX c (v+1)=nw (v+1) (gr t v i) s:=by
  conv=>lhs;rw[q]
  exact Av ∅ (by rw[d];lia)
 have g:T1++s=t.take i++c.take (c.length-v)++gr t v i:=by rw[m,eN,<-q,eN,<-C];congr 1;exact(mH _ _).symm
 have u:aX (T1++s++T2) (v+1)=aX (T1++s) (v+1)++nw (v+1) (gr t v i) T2:=by have:=o (t.take i++c.take (c.length-v)) T2 (by simp[d];lia);rw[<-g]at this;exact this
 refine⟨T1++s++T2,?_,by simp[A];lia,?_,?_⟩
 .rw[eN,wl ∅];show(t.take (i+v)).take v=_;rw[List.take_take,Dr ∅]
 .have f:∀a:Tx,en v (a++(gr t v i++T2))=en v (gr t v i++T2):=λa=>by
   unfold en;rw[JU,zQ (by simp[d];lia),hZ];congr 1;simp[d];lia
  have F:T1++s++T2=(t.take i++c.take (c.length-v))++(gr t v i++T2):=by rw[g];simp only[eN]
  have E:t.take i++(gr t v i++T2)=t:=by rw[<-eN,<-m];exact r.symm
  have:=f (t.take i);rw[E]at this;rw[F,f,this]
 .rw[u,y,z,w,eN,eN];exact zE _ Uv
def xR(v:Nat)(M:List Tx):Prop:=∀V:Tx->Prop,(∃x∈M,V (x.take v))->(∀x∈M,V (x.take v)\/V x.tail->V (x.take v)/\V x.tail)->∀x∈M,V (x.take v)
end
inductive WN(w:Nat):Nat->Tx->Tx->Prop
 |here (n:Nat) (t:Tx):WN w n t t
 |on {n:Nat}{t u z:Tx}:WN w n t u->z∈Mo u w->WN w (n+1) t z
def Full(w:Nat)(t:Tx)(k:Nat):Prop:=∀z∈Ro t w,WN w k t z
theorem BP{i:Nat}{db:ak->R aK}{c g:Type}(b:c->g->ak)(f:c->Tx->c)(P:c->Prop):∀(xs:List Tx) (a:c) (s:g),P a -> (∀x∈xs,∀a s,P a->P (f a x)/\∃d,db ((b a s).set i (↥x))=.ok .next (b (f a x) d))->∃d,iB i db (ao xs) (b a s)=.ok .next (b (xs.foldl f a) d)/\P (xs.foldl f a)
 |[],a,s,h,_=>⟨s,rfl,h⟩
 |x::xs,a,s,h,step=>by obtain⟨o,l,q⟩:=step x (by simp) a s h;obtain⟨j,p,n⟩:=BP b f P xs (f a x) l o λy m=>step y (by simp[m]);refine⟨j,?_,n⟩;show iB i db (.str x::ao xs) _=_;rw[iB,q];exact p
abbrev ks(m:List (Tx×Int)):List Tx:=m.map (·.1)
theorem ON(m:List (Tx×Int))(z:Tx):(m.any λp=>decide (p.1=z))=decide (z∈ks m):=by rw[lM,uc,decide_eq_true_eq,cx];exact⟨λ⟨p,b,a⟩=>⟨p,b,of_decide_eq_true a⟩,λ⟨p,b,a⟩=>⟨p,b,decide_eq_true a⟩⟩
theorem B6(m:List (Tx×Int))(z:Tx):(bH m z).isSome=decide (z∈ks m):=by
 rw[<-ON];cases h:m.any λp=>decide (p.1=z)with
 |false=>rw[xE h];rfl
 |true=>obtain⟨n,e⟩:=Is h;rw[e];rfl
theorem Lm{m:List (Tx×Int)}(a:(ks m).Nodup){z:Tx}{n:Int}:bH m z=aa n↔(z,n)∈m:=by
 induction m with
 |nil=>simp[bH]
 |cons p m b=>
  change ((p::m).map (·.1)).Nodup at a;rw[cu,kE]at a;unfold bH at b ⊢;rw[iZ];by_cases c:p.1=z
  .simp only[c,decide_true,pE,bC];constructor
   .intro e;left;rw[<-dZ e,<-c]
   .rintro(e|e)
    .rw[<-e]
    .exact absurd (cx.mpr ⟨(z,n),e,rfl⟩) (by rw[<-c];exact a.1)
  .simp only[c,decide_false,bC];rw[b a.2];constructor
   .exact .inr
   .rintro(e|e)
    .exact absurd (by rw[<-e]) c
    .exact e
theorem PJ(m:List (Tx×Int)):(dk m).length=m.length:=by simp[dk]
theorem EL{i:Nat}{db de:ak->R PV}{c b a:ak}{z:Tx}{n:Int}{m:List (Tx×Int)}(j:de c=.ok (.int n) b)(l:db b=.ok (.str z) a)(d:∃x,dA b i=aa x)(g:dA a i=aa (dk m))(h:m.length<bE):fO i db de c=.ok .next (a.set i (.own (.dK (dk (dr m z n))))):=by unfold fO;obtain⟨x,f⟩:=d;rw[j,R.bind_ok,f];simp only[cg,R.bind_ok];rw[l,R.bind_ok,g];simp only[cg,R.bind_ok];show(aE (aa (Sum.inr (tS z))) a).bind _=_;simp only[cg,R.bind_ok];rw[PJ,if_pos h,xM]
def dj(ks:List Tx):List (aD×PV):=ks.map λx=>(Sum.inr (tS x),PV.bl ah)
def fF(ks:List Tx)(x:Tx):List Tx:=if x∈ks then ks else ks++[x]
theorem Vc{ks:List Tx}{x z:Tx}:z∈fF ks x↔z∈ks\/z=x:=by
 unfold fF;by_cases c:x∈ks
 .rw[if_pos c];exact⟨.inl,λh=>h.elim id λe=>e ▸ c⟩
 .rw[if_neg c];simp
theorem Fj{ks:List Tx}{x:Tx}(h:ks.Nodup):(fF ks x).Nodup:=by
 unfold fF;by_cases c:x∈ks
 .rw[if_pos c];exact h
 .rw[if_neg c];exact C7.mpr ⟨h,by simp,λa f b d e=>by simp at d;subst d;subst e;exact c f⟩
theorem yD{ks:List Tx}{x:Tx}:ks.length<=(fF ks x).length/\(x∉ks->ks.length<(fF ks x).length):=by
 unfold fF;by_cases c:x∈ks
 .rw[if_pos c];exact⟨a9 _,λq=>absurd c q⟩
 .rw[if_neg c];simp
theorem Fl(ks:List Tx)(x:Tx):((dj ks).any λa=>decide (a.1=(Sum.inr (tS x):aD)))=decide (x∈ks):=by
 unfold dj;rw[List.any_map,lM,uc,decide_eq_true_eq];constructor
 .rintro⟨z,c,b⟩;have:=of_decide_eq_true b;rw[<-qi (Sum.inr.inj this)];exact c
 .intro h;exact⟨x,h,by simp⟩
theorem R7(ks:List Tx)(x:Tx):oR (dj ks) (Sum.inr (tS x)) (.bl ah)=dj (fF ks x):=by
 unfold oR fF;rw[Fl];by_cases c:x∈ks
 .rw[decide_eq_true c,if_pos rfl,if_pos c];unfold dj;rw[dI];refine f_ λz _=>?_;simp only[rm];split
  .rfl
  .rfl
 .rw[decide_eq_false c,if_neg (by simp),if_neg c];unfold dj;simp
theorem Ox(ks:List Tx)(x:Tx):(j4 (dj ks) (Sum.inr (tS x))).isSome=decide (x∈ks):=by rw[<-Fl];unfold j4;rw[vY,List.isSome_find?]
theorem xN(ks:List Tx):(dj ks).length=ks.length:=by simp[dj]
theorem Bb{neg:Bool}{i:Nat}{db:ak->R PV}{ε a:ak}{z:Tx}{ks:List Tx}(c:db ε=.ok (.str z) a)(b:dA a i=aa (dj ks)):gC neg i db ε=.ok (.bl (neg^^decide (z∈ks))) a:=by unfold gC;rw[c,R.bind_ok,b];simp only[cg,R.bind_ok];show aE (aa (PV.bl (neg^^(j4 (dj ks) (.inr (tS z))).isSome))) a=_;rw[Ox];rfl
theorem Ec{i:Nat}{db de:ak->R PV}{ε b a:ak}{z:Tx}{ks:List Tx}(h:de ε=.ok (.bl ah) b)(j:db b=.ok (.str z) a)(c:∃x,dA b i=aa x)(f:dA a i=aa (dj ks))(g:ks.length<bE):fO i db de ε=.ok .next (a.set i (.own (.dK (dj (fF ks z))))):=by unfold fO;obtain⟨x,d⟩:=c;rw[h,R.bind_ok,d];simp only[cg,R.bind_ok];rw[j,R.bind_ok,f];simp only[cg,R.bind_ok];show(aE (aa (Sum.inr (tS z))) a).bind _=_;simp only[cg,R.bind_ok];rw[xN,if_pos g,R7]
def rS(ks:List Tx)(x:Tx):List Tx:=if x.dropLast∈ks\/x.tail∈ks then fF (fF ks x.dropLast) x.tail else ks
theorem Om{ks:List Tx}{x z:Tx}(h:z∈ks):z∈rS ks x:=by
 unfold rS;split
 .exact Vc.mpr (.inl (Vc.mpr (.inl h)))
 .exact h
theorem G3:∀(a:List Tx) {ks:List Tx}{z:Tx},z∈ks->z∈a.foldl rS ks
 |[],_,_,h=>h
 |x::a,_,_,h=>G3 a (Om h)
theorem D5{ks:List Tx}{x:Tx}(h:ks.Nodup):(rS ks x).Nodup:=by
 unfold rS;split
 .exact Fj (Fj h)
 .exact h
theorem DV:∀(a:List Tx) {ks:List Tx},ks.Nodup->(a.foldl rS ks).Nodup
 |[],_,h=>h
 |x::a,_,h=>DV a (D5 h)
theorem Bv(ks:List Tx)(x:Tx):ks.length<=(rS ks x).length:=by
 unfold rS;split
 .exact cP yD.1 yD.1
 .exact a9 _
theorem ut:∀(a ks:List Tx),ks.length<=(a.foldl rS ks).length
 |[],ks=>a9 _
 |x::a,ks=>cP (Bv ks x) (ut a (rS ks x))
theorem yT:∀(a ks:List Tx),(a.foldl rS ks).length=ks.length->∀x∈a,x.dropLast∈ks\/x.tail∈ks->x.dropLast∈ks/\x.tail∈ks
 |[],_,_,x,b=>by simp at b
 |y::a,ks,h,x,b=>by
  rw[lf]at h;have n:=Bv ks y;have m:=ut a (rS ks y);have d:(rS ks y).length=ks.length:=∅
  have same:rS ks y=ks/\(y.dropLast∈ks\/y.tail∈ks->y.dropLast∈ks/\y.tail∈ks):=by
   unfold rS at d ⊢;by_cases c:y.dropLast∈ks\/y.tail∈ks
   .rw[if_pos c]at d ⊢;have l:=yD (ks:=ks) (x:=y.dropLast);have i:=yD (ks:=fF ks y.dropLast) (x:=y.tail);have g:y.dropLast∈ks:=JV λq=>by have:=l.2 q;lia
    have j:fF ks y.dropLast=ks:=by unfold fF;rw[if_pos g]
    rw[j]at i d ⊢;have f:y.tail∈ks:=JV λq=>by have:=i.2 q;lia
    exact⟨by unfold fF;rw[if_pos f],λ_=>⟨g,f⟩⟩
   .rw[if_neg c];exact⟨rfl,λq=>absurd q c⟩
  rcases bC.mp b with rfl|b
  .exact same.2
  .rw[same.1]at h;exact yT a ks h x b
theorem EB{V:Tx->Prop}:∀(b ks:List Tx),(∀x∈b,V x.dropLast\/V x.tail->V x.dropLast/\V x.tail)->(∀z∈ks,V z)->∀z∈b.foldl rS ks,V z
 |[],_,_,h,z,d=>h z d
 |x::b,ks,g,h,z,d=>by
  refine EB b (rS ks x) (λy a=>g y (by simp[a])) (λy a=>?_) z d;unfold rS at a;split at a
  .rename_i c;have f:=g x (by simp) (c.imp (h _) (h _));rcases Vc.mp a with a|rfl
   .rcases Vc.mp a with a|rfl
    .exact h y a
    .exact f.1
   .exact f.2
  .exact h y a
theorem Ah:∀(a ks:List Tx),(a.foldl rS ks).length=ks.length->a.foldl rS ks=ks
 |[],_,_=>rfl
 |y::a,ks,h=>by
  rw[lf]at h ⊢;have l:=Bv ks y;have j:=ut a (rS ks y);have e:rS ks y=ks:=by
   have i:(rS ks y).length=ks.length:=∅
   have b:=yT [y] ks i y (by simp);unfold rS;by_cases c:y.dropLast∈ks\/y.tail∈ks
   .obtain⟨g,f⟩:=b c;have d:fF ks y.dropLast=ks:=by unfold fF;rw[if_pos g]
    rw[if_pos c,d];unfold fF;rw[if_pos f]
   .rw[if_neg c]
  rw[e]at h ⊢;exact Ah a ks h
def gh(a:List Tx):List Tx:=a.map pI++a.map List.tail
theorem IH{b ks:List Tx}(h:∀z∈ks,z∈gh b){x:Tx}(c:x∈b):∀z∈rS ks x,z∈gh b:=λz a=>by
 unfold rS at a;split at a
 .rcases Vc.mp a with a|rfl
  .rcases Vc.mp a with a|rfl
   .exact h z a
   .exact qN _ (cx.mpr ⟨x,c,rfl⟩)
  .exact iW _ (cx.mpr ⟨x,c,rfl⟩)
 .exact h z a
structure Rch(ls ks:List Tx):Prop where
 nd:ks.Nodup
 sub:∀z∈ks,z∈gh ls
 start:∀x r,ls=x::r->x.dropLast∈ks
 least:∀V:Tx->Prop,(∀x∈ls,V x.dropLast\/V x.tail->V x.dropLast/\V x.tail)->(∀x r,ls=x::r->V x.dropLast)->∀z∈ks,V z
theorem Rch.few{ls ks:List Tx}(h:Rch ls ks):ks.length<=2*ls.length:=by have:=len_sub h.nd h.sub;unfold gh at this;simp at this;lia
theorem Rch.next{ls ks:List Tx}(h:Rch ls ks):Rch ls (ls.foldl rS ks):=by
 refine⟨DV ls h.nd,?_,λx r e=>G3 ls (h.start x r e),λV c g=>EB ls ks c (h.least V c g)⟩;have a:∀(l:List Tx) (ks:List Tx),(∀x∈l,x∈ls)->(∀z∈ks,z∈gh ls)->∀z∈l.foldl rS ks,z∈gh ls:=by
  intro l
  induction l with
  |nil=>exact λks _ h=>h
  |cons x l d=>exact λks b h=>d (rS ks x) (λy f=>b y (by simp[f])) (IH h (b x (by simp)))
 exact a ls ks (λ_ h=>h) h.sub
section
variable{a:Ad}
theorem zb(x:Tx):bZ (.str x) ae (aa (-1))=aa (.str x.dropLast):=by show aa (PV.str (eU x ae (aa (-1))))=_;rw[GQ]
theorem Ej(x:Tx):bZ (.str x) (aa 1) ae=aa (.str x.tail):=by show aa (PV.str (eU x (aa ((1:Nat):Int)) ae))=_;rw[yg,List.drop_one]
def uZ:ak->R PV:=bV bZ (dV 3) (b9) (bT (d1 dP (dC (.int 1))))
def uz:ak->R PV:=bV bZ (dV 3) (bT (dC (.int 1))) (b9)
def rI:ak->R aK:=cE (iI (dB (gC aj 1 uZ)) (dB (gC aj 1 uz))) (aR (fO 1 uZ (dC (.bl ah))) (fO 1 uz (dC (.bl ah)))) (dD)
def rC:ak->R Bool:=dB (d2 (fA λi j=>decide (i<j)) (dV 2) (nH 1))
def rB:ak->R aK:=aR (cp 2 (nH 1)) (et 3 (bP (dV 0)) rI)
theorem Sw:yaP a=aR (eY 1 (uv (bV bZ (d2 bG (dV 0) (dC (.int 0))) (b9) (bT (d1 dP (dC (.int 1))))) (dC (.bl ah)))) (aR (cp 2 (dC (.int 0))) (aR (λb=>dQ (gm rC rB 1000 b)) (kW 1))):=rfl
def dY(W:PV)(ks:List Tx)(n:Nat)(b:Slot):ak:=[.val W,.own (.dK (dj ks)),⇑n,b]
theorem HS(W:PV)(ks:List Tx)(n:Nat)(x:Tx):uZ (dY W ks n (↥x))=.ok (.str x.dropLast) (dY W ks n (↥x)):=by have h:=zb x;have b:dP (.int 1)=aa (.int (-1)):=rfl;simp[uZ,dY,bV,b9,bT,dV,d1,dC,R.bind,aE,b,nL,h]
theorem GF(W:PV)(ks:List Tx)(n:Nat)(x:Tx):uz (dY W ks n (↥x))=.ok (.str x.tail) (dY W ks n (↥x)):=by have h:=Ej x;simp[uz,dY,bV,b9,bT,dV,dC,R.bind,aE,nL,h]
theorem IN(W:PV)(d:List Tx)(t:d.length<=100)(q:gY W=aa (ao d))(ks:List Tx)(h:Rch d ks)(n:Nat)(f:Slot):∃j,et 3 (bP (dV 0)) rI (dY W ks n f)=.ok .next (dY W (d.foldl rS ks) n j):=by
 obtain⟨j,e,_⟩:=BP (i:=3) (db:=rI) (λks f=>dY W ks n f) rS (λks=>ks.Nodup/\∀z∈ks,z∈gh d) d ks f ⟨h.nd,h.sub⟩
  (by
   rintro x p ks f ⟨g,l⟩;refine⟨⟨D5 g,IH l p⟩,↥x,?_⟩;have r:ks.length<=200:=by have:=len_sub g l;unfold gh at this;simp at this;lia
   have o:=AF (Bb (neg:=aj) (i:=1) (HS W ks n x) rfl);have m:=AF (Bb (neg:=aj) (i:=1) (GF W ks n x) rfl);rw[Dj]at o m;have b:iI (dB (gC aj 1 uZ)) (dB (gC aj 1 uz)) (dY W ks n (↥x))=.ok (decide (x.dropLast∈ks\/x.tail∈ks)) (dY W ks n (↥x)):=by
    unfold iI;rw[o,R.bind_ok];by_cases c:x.dropLast∈ks
    .rw[decide_eq_true c,decide_eq_true (.inl c)]
    .rw[decide_eq_false c];simp only;rw[m];congr 1;simp[c]
   show rI (dY W ks n (↥x))=_;unfold rI rS;by_cases c:x.dropLast∈ks\/x.tail∈ks
   .rw[decide_eq_true c]at b;rw[if_pos c];refine(Pi b).trans ?_;have g:=Ec (i:=1) (de:=dC (.bl ah)) (ε:=dY W ks n (↥x)) rfl (HS W ks n x) ⟨_,rfl⟩ rfl (by unfold bE;lia);refine(dO g).trans ?_;have s:(fF ks x.dropLast).length<=ks.length+1:=by unfold fF;split <;> simp
    exact Ec (i:=1) (de:=dC (.bl ah)) (ε:=dY W (fF ks x.dropLast) n (↥x)) rfl (GF W (fF ks x.dropLast) n x) ⟨_,rfl⟩ rfl (by unfold bE;lia)
   .rw[decide_eq_false c]at b;rw[if_neg c];exact(Ps b).trans rfl)
 refine⟨j,PN ?_ e⟩;unfold bP;rw[Fx (v:=W) rfl,R.bind_ok,q];rfl
theorem xF(W:PV)(ks:List Tx)(n:Nat)(b:Slot):rC (dY W ks n b)=.ok (decide (n<ks.length)) (dY W ks n b):=by
 have d:nH 1 (dY W ks n b)=.ok (.int (ks.length:Nat)) (dY W ks n b):=by show R.ok (PV.int ((dj ks).length:Nat)) _=_;rw[xN]
 have c:decide ((n:Int)<(ks.length:Nat))=decide (n<ks.length):=by
  by_cases q:n<ks.length
  .rw[decide_eq_true q,decide_eq_true ∅]
  .rw[decide_eq_false q,decide_eq_false ∅]
 refine AF (ym (x:=.int n) (Fx rfl) d ?_);show aa (PV.bl (decide ((n:Int)<(ks.length:Nat))))=_;rw[c]
theorem QS(W:PV)(b:List Tx)(u:b.length<=100)(v:gY W=aa (ao b)):∀(j:Nat) (ks:List Tx) (n l:Nat) (g:Slot),2*b.length<=ks.length+j->j+2<=l->n<ks.length->Rch b ks -> ∃d r i,Rch b d/\(∀x∈b,x.dropLast∈d\/x.tail∈d->x.dropLast∈d/\x.tail∈d)/\gm rC rB l (dY W ks n g)=.ok .next (dY W d r i):=by
 intro j
 induction j with
 |zero=>
  intro ks n l g F E s h;obtain⟨f,rfl⟩:∃f,l=f+1+1:=⟨l-2,∅⟩
  obtain⟨i,e⟩:=IN W b u v ks h ks.length g;have H:=h.few;have G:=h.next.few;have C:=ut b ks;have p:=Ah b ks ∅;have t:=yT b ks (by rw[p]);rw[p]at e;have c:=xF W ks n g;rw[decide_eq_true s]at c;have m:rB (dY W ks n g)=.ok .next (dY W ks ks.length i):=by
   unfold rB;have k:cp 2 (nH 1) (dY W ks n g)=.ok .next (dY W ks ks.length g):=by refine vp (x:=.int (ks.length:Nat)) (ε1:=dY W ks n g) ?_;show R.ok (PV.int ((dj ks).length:Nat)) _=_;rw[xN]
   exact(dO k).trans e
  have o:=xF W ks ks.length i;rw[decide_eq_false (fG _)]at o;exact⟨ks,ks.length,i,h,t,(yd c m).trans (yU o)⟩
 |succ j D=>
  intro ks n l g F E s h;obtain⟨f,rfl⟩:∃f,l=f+1:=⟨l-1,∅⟩
  obtain⟨i,e⟩:=IN W b u v ks h ks.length g;have C:=ut b ks;have c:=xF W ks n g;rw[decide_eq_true s]at c;have m:rB (dY W ks n g)=.ok .next (dY W (b.foldl rS ks) ks.length i):=by
   unfold rB;have k:cp 2 (nH 1) (dY W ks n g)=.ok .next (dY W ks ks.length g):=by refine vp (x:=.int (ks.length:Nat)) (ε1:=dY W ks n g) ?_;show R.ok (PV.int ((dj ks).length:Nat)) _=_;rw[xN]
   exact(dO k).trans e
  by_cases q:(b.foldl rS ks).length=ks.length
  .have p:=Ah b ks q;have t:=yT b ks q;rw[p]at m;obtain⟨w,rfl⟩:∃w,f=w+1:=⟨f-1,∅⟩
   have o:=xF W ks ks.length i;rw[decide_eq_false (fG _)]at o;exact⟨ks,ks.length,i,h,t,(yd c m).trans (yU o)⟩
  .obtain⟨d,r,y,B,A,z⟩:=D (b.foldl rS ks) ks.length f i ∅ ∅ ∅ h.next;exact⟨d,r,y,B,A,(yd c m).trans z⟩
theorem SR(W:PV)(x:Tx)(r:List Tx)(v:r.length<=50)(t:gY W=aa (ao (x::r)))(d:bG W (.int 0)=aa (.str x)):∃ks,Rch (x::r) ks/\(∀y∈x::r,y.dropLast∈ks\/y.tail∈ks->y.dropLast∈ks/\y.tail∈ks)/\ve a [.val W]=.ok (.own (.dK (dj ks))) [.val W]:=by
 have u:Rch (x::r) [x.dropLast]:=⟨by simp,λz b=>by simp at b;rw[b];simp[gh],λy q e=>by cases e;simp,λV _ p z b=>by simp at b;rw[b];exact p x r rfl⟩
 obtain⟨ks,n,h,j,i,o⟩:=QS W (x::r) (by simp;lia) t (2*(x::r).length) [x.dropLast] 0 1000 .none ∅ (by simp;lia) (by simp) u;refine⟨ks,j,i,?_⟩;have g:=zb x;have s:dP (.int 1)=aa (.int (-1)):=rfl;have m:eY 1 (uv (bV bZ (d2 bG (dV 0) (dC (.int 0))) (b9) (bT (d1 dP (dC (.int 1))))) (dC (.bl ah))) [.val W,.none,.none,.none]=.ok .next [.val W,.own (.dK (dj [x.dropLast])),.none,.none]:=by simp[eY,uv,bV,b9,bT,d2,d1,dV,dC,R.bind,aE,d,s,nL,g,jf,dj]
 have l:cp 2 (dC (.int 0)) [.val W,.own (.dK (dj [x.dropLast])),.none,.none]=.ok .next (dY W [x.dropLast] 0 .none):=rfl;have c:yaP a [.val W,.none,.none,.none]=.ok (.ret (.own (.dK (dj ks)))) [.val W,.none,⇑n,h]:=by rw[Sw];refine(dO m).trans ?_;refine(dO l).trans ?_;refine(dO (d1:=λf=>dQ (gm rC rB 1000 f)) (by show dQ _=_;rw[o];rfl)).trans ?_;exact FM rfl
 unfold ve;generalize yaP a=D at c;generalize dj ks=A at c;simp[bh,dX,bj,bK,c,back,aE,R.bind,eR]
end
def lD(m:List (Tx×Int))(x:Tx):List (Tx×Int):=dr (dr m x.dropLast ((bH m x.dropLast).getD 0+1)) x.tail ((bH (dr m x.dropLast ((bH m x.dropLast).getD 0+1)) x.tail).getD 0-1)
def b1(p:Prop)[Decidable p]:Int:=if p then 1 else 0
theorem Qj(m:List (Tx×Int))(x y:Tx):(bH (lD m x) y).getD 0=(bH m y).getD 0+b1 (x.dropLast=y)-b1 (x.tail=y):=by
 unfold lD b1;rw[m8,m8,m8];by_cases b:y=x.tail
 .subst b;by_cases a:x.tail=x.dropLast
  .rw[if_pos rfl,if_pos a,if_pos a.symm,if_pos rfl,a];simp
  .rw[if_pos rfl,if_neg a,if_neg (ef a),if_pos rfl];simp
 .rw[if_neg b,if_neg (ef b)];by_cases a:y=x.dropLast
  .subst a;rw[if_pos rfl,if_pos rfl];simp
  .rw[if_neg a,if_neg (ef a)];simp
theorem FN(m:List (Tx×Int))(x y:Tx):y∈ks (lD m x)↔y∈ks m\/y=x.dropLast\/y=x.tail:=by
 have k:∀(m:List (Tx×Int)) (z:Tx),z∈ks m↔(bH m z).isSome=ah:=λm z=>by rw[B6,decide_eq_true_eq]
 rw[k,k];unfold lD;generalize (bH (dr m x.dropLast ((bH m x.dropLast).getD 0+1)) x.tail).getD 0-1=n1;generalize (bH m x.dropLast).getD 0+1=n2;rw[m8,m8];by_cases b:y=x.tail
 .rw[if_pos b];simp[b]
 .rw[if_neg b];by_cases a:y=x.dropLast
  .rw[if_pos a];simp[a]
  .rw[if_neg a];simp[b,a]
def jd(a:List Tx):List (Tx×Int):=a.foldl lD []
def exc(ls:List Tx)(y:Tx):Int:=(ls.map λx=>b1 (x.dropLast=y)-b1 (x.tail=y)).sum
theorem Gq:∀(a:List Tx) (m:List (Tx×Int)) (y:Tx),(bH (a.foldl lD m) y).getD 0=(bH m y).getD 0+exc a y
 |[],m,y=>by simp[exc]
 |x::a,m,y=>by rw[lf,Gq a,Qj];simp only[exc,cu,hU];lia
theorem Ss(a:List Tx)(y:Tx):(bH (jd a) y).getD 0=exc a y:=by unfold jd;rw[Gq];show 0+_=_;lia
theorem Hy:∀(a:List Tx) (m:List (Tx×Int)) (y:Tx),y∈ks (a.foldl lD m)↔y∈ks m\/y∈gh a
 |[],m,y=>by simp[gh]
 |x::a,m,y=>by
  rw[lf,Hy a,FN];simp only[gh,cu,jr,bC];constructor
  .rintro((h|h|h)|h|h)
   .exact .inl h
   .exact .inr (.inl (.inl h))
   .exact .inr (.inr (.inl h))
   .exact .inr (.inl (.inr h))
   .exact .inr (.inr (.inr h))
  .rintro(h | (h|h)|h|h)
   .exact .inl (.inl h)
   .exact .inl (.inr (.inl h))
   .exact .inr (.inl h)
   .exact .inl (.inr (.inr h))
   .exact .inr (.inr h)
theorem Ee(a:List Tx)(y:Tx):y∈ks (jd a)↔y∈gh a:=by unfold jd;rw[Hy];simp
theorem FZ:∀(a:List Tx) (m:List (Tx×Int)),(ks m).Nodup->(ks (a.foldl lD m)).Nodup
 |[],_,h=>h
 |x::a,m,h=>FZ a _ (ql (ql h))
theorem HL(a:List Tx):(ks (jd a)).Nodup:=FZ a [] (by simp)
section
variable{a:Ad}
def vD:ak->R PV:=bV bZ (dV 2) (b9) (bT (d1 dP (dC (.int 1))))
def tD:ak->R PV:=bV bZ (dV 2) (bT (dC (.int 1))) (b9)
def xB:ak->R aK:=aR (fO 1 vD (d2 bF (iU 1 vD (dC (.int 0))) (dC (.int 1)))) (fO 1 tD (d2 iV (iU 1 tD (dC (.int 0))) (dC (.int 1))))
theorem OZ:yas a=aR (eY 1 (sH)) (aR (λb=>dQ (et 2 (bP (dV 0)) xB b)) (kW 1)):=rfl
def iM(W:PV)(m:List (Tx×Int))(s:Slot):ak:=[.val W,.own (.dK (dk m)),s]
theorem ET(W:PV)(m:List (Tx×Int))(x:Tx):vD (iM W m (↥x))=.ok (.str x.dropLast) (iM W m (↥x)):=by have h:=zb x;have b:dP (.int 1)=aa (.int (-1)):=rfl;simp[vD,iM,bV,b9,bT,dV,d1,dC,R.bind,aE,b,nL,h]
theorem Il(W:PV)(m:List (Tx×Int))(x:Tx):tD (iM W m (↥x))=.ok (.str x.tail) (iM W m (↥x)):=by have h:=Ej x;simp[tD,iM,bV,b9,bT,dV,dC,R.bind,aE,nL,h]
theorem DY{i:Nat}{db:ak->R PV}{b:ak}{z:Tx}{m:List (Tx×Int)}{n:Int}(d:db b=.ok (.str z) b)(c:dA b i=aa (dk m)):iU i db (dC (.int n)) b=.ok (.int ((bH m z).getD n)) b:=by
 unfold iU;rw[c];simp only[cg,R.bind_ok];rw[d,R.bind_ok];show((R.ok (PV.int n) b).bind _)=_;rw[R.bind_ok,c];simp only[cg,R.bind_ok];show aE (aa ((j4 (dk m) (.inr (tS z))).getD (.int n))) b=_;rw[uu];cases bH m z <;> rfl
theorem SE(W:PV)(b:List Tx)(J:b.length<=100)(C:gY W=aa (ao b)):xA a [.val W]=.ok (.own (.dK (dk (jd b)))) [.val W]:=by
 obtain⟨d,e,_⟩:=BP (i:=2) (db:=xB) (λm s=>iM W m s) lD (λm=>(ks m).Nodup/\∀z∈ks m,z∈gh b) b [] .none ⟨by simp,by simp⟩
  (by
   rintro x r m s ⟨j,g⟩;have w:(ks (lD m x)).Nodup:=ql (ql j);have t:x.dropLast∈gh b:=by unfold gh;exact qN _ (List.mem_map_of_mem r)
   have y:x.tail∈gh b:=by unfold gh;exact iW _ (List.mem_map_of_mem r)
   refine⟨⟨w,λz l=>?_⟩,↥x,?_⟩
   .rcases(FN m x z).mp l with h|h|h
    .exact g z h
    .rw[h];exact t
    .rw[h];exact y
   .have few:∀{q:List (Tx×Int)},(ks q).Nodup->(∀z∈ks q,z∈gh b)->q.length<=200:=λ{q} n s=>by
     have:=len_sub n s;unfold gh at this;simp at this;lia
    have I:=few j g;have K:(1000:Nat)<=bE:=by decide
    have F:=DY (i:=1) (n:=0) (ET W m x) rfl;have e1:d2 bF (iU 1 vD (dC (.int 0))) (dC (.int 1)) (iM W m (↥x))=.ok (.int ((bH m x.dropLast).getD 0+1)) (iM W m (↥x)):=by unfold d2;rw[F,R.bind_ok];rfl
    have p:=EL (i:=1) e1 (ET W m x) ⟨_,rfl⟩ rfl (m:=m) ∅;generalize f:dr m x.dropLast ((bH m x.dropLast).getD 0+1)=q at p;have v:(ks q).Nodup:=by rw[<-f];exact ql j
    have u:∀z∈ks q,z∈gh b:=λz l=>by
     have:(bH q z).isSome=ah:=by rw[B6];exact decide_eq_true l
     rw[<-f,m8]at this;by_cases c:z=x.dropLast
     .rw[c];exact t
     .rw[if_neg c,B6,decide_eq_true_eq]at this;exact g z this
    have H:=few v u;have E:=DY (i:=1) (n:=0) (Il W q x) rfl;have G:d2 iV (iU 1 tD (dC (.int 0))) (dC (.int 1)) (iM W q (↥x))=.ok (.int ((bH q x.tail).getD 0-1)) (iM W q (↥x)):=by unfold d2;rw[E,R.bind_ok];rfl
    have d:=EL (i:=1) G (Il W q x) ⟨_,rfl⟩ rfl (m:=q) ∅;show xB (iM W m (↥x))=_;unfold xB;refine(dO p).trans ?_;refine Eq.trans (show fO 1 tD _ _=_ from d) ?_;unfold lD;rw[f];rfl)
 have o:yas a [.val W,.none,.none]=.ok (.ret (.own (.dK (dk (jd b))))) [.val W,.none,d]:=by
  rw[OZ];refine(dO (show eY 1 sH [.val W,.none,.none]=.ok .next (iM W [] .none)from rfl)).trans ?_;have B:et 2 (bP (dV 0)) xB (iM W [] .none)=.ok .next (iM W (jd b) d):=by
   unfold et;have:bP (dV 0) (iM W [] .none)=.ok (ao b) (iM W [] .none):=by unfold bP;show(R.ok W _).bind _=_;rw[R.bind_ok,C];rfl
   rw[this,R.bind_ok];exact e
  refine(dO (d1:=λε=>dQ (et 2 (bP (dV 0)) xB ε)) (by show dQ _=_;rw[B];rfl)).trans ?_;exact FM rfl
 unfold xA;generalize yas a=D at o;generalize dk (jd b)=A at o;simp[bh,dX,bj,bK,o,back,aE,R.bind,eR]
end
theorem OO{a:ak}{i:Nat}{s:Slot}(h:a[i]?=aa s):a.set i s=a:=by
 apply wc;intro j;by_cases b:i=j
 .subst b;rw[gF (d7.mp h).1,h]
 .rw[fe b]
theorem Ir{b:Type}{d:ak->R b}{x:PV}{ε:ak}{i:Nat}{a:PO}{r:b}(c:ε[i]?=aa (.own a))(f:d [.val x,.own a]=.ok r [.val x,.own a]):dq (gi [i] d x ε)=.ok r ε:=by simp[gi,gA,c,dq,R.bind,aE,cF,d_,f,eW,fi,fc,OO c]
section
variable{a:Ad}
def f2(a:Ad):ak->R aK:=cp 2 (dF (dG [1] (bP (dF (TJ 1))) (dB (d2 (fA λi j=>decide (j<i)) (nM 1 (dV 0)) (dC (.int 0)))) (dV 0)))
def f3:ak->R aK:=cE (dB (d2 (fA λi j=>decide (j<i)) (dL bx (ap (dV 2) (aC))) (dC (.int 1)))) (bY (dL bQ (ap (dC (.str [116,119,111])) (ap (d2 bG (dV 2) (dC (.int 0))) (ap (d2 bG (dV 2) (dC (.int 1))) (aC)))))) (dD)
def f4:ak->R aK:=cE (xI (dB (d2 (eqT aj) (dL bx (ap (dV 2) (aC))) (dC (.int 1)))) (dB (d2 (fA λi j=>decide (j<i)) (nM 1 (d2 bG (dV 2) (dC (.int 0)))) (dC (.int 1))))) (bY (dL bQ (ap (dC (.str [109,111,114,101])) (ap (d2 bG (dV 2) (dC (.int 0))) (aC))))) (dD)
theorem Ka{G:ak->R Slot}{W:PV}{ε:ak}{i:Nat}{b:PO}(f:ε[0]?=aa (.val W))(d:G [.val W]=.ok (.own b) [.val W])(c:i<ε.length):eY i (kr (aU G (gV (dV 0) (Pu.bA)))) ε=.ok .next (ε.set i (.own b)):=by simp[eY,kr,aU,gV,Pu.bA,dV,f,R.bind,aE,cF,d_,d,eW,fi,fc,vi,c]
theorem Qo(y:Tx)(r:List Tx):bG (.lst (ao (y::r))) (.int 0)=aa (.str y):=by show gB (.str y::ao r) 0=_;rw[yE (by decide) (by simp)];rfl
end
theorem Fk{v:Nat}:∀{ls:List Tx},(∀y∈ls,y.length=v+1)->∀y,exc ls y=(oc v ls y:Int)-(ic ls y:Int)
 |[],_,y=>rfl
 |x::ls,h,y=>by
  have a:=Fk (λz b=>h z (by simp[b])) (ls:=ls) y;have c:x.take v=x.dropLast:=by rw[JS,h x (by simp)];rfl
  have e:exc (x::ls) y=b1 (x.dropLast=y)-b1 (x.tail=y)+exc ls y:=by simp[exc]
  rw[e,a];unfold oc ic b1;simp only[cu,hU,c];split <;> split <;> lia
section
variable{v:Nat}
def covW(v:Nat)(ts:List Tx):List Tx:=ts.flatMap λt=>aX t (v+1)
structure Cov(v:Nat)(ts M:List Tx):Prop where
 long:∀t∈ts,v<t.length
 perm:(covW v ts).Perm M
theorem covW_cons(t:Tx)(ts:List Tx):covW v (t::ts)=aX t (v+1)++covW v ts:=rfl
theorem covW_app(b a:List Tx):covW v (b++a)=covW v b++covW v a:=by unfold covW;rw[JR]
theorem grow_many{M:List Tx}(X:∀x∈M,x.length=v+1)(H:xR v M):∀(n:Nat) (b R:List Tx),R.length<=n->b≠[]->(∀t∈b,v<t.length)->(covW v b++R).Perm M->(∀y,oc v R y=ic R y)->∃g,g.length=b.length/\Cov v g M:=by
 intro n
 induction n with
 |zero=>intro b R T _ d f _;rw[ox.mp (show R.length=0 by lia),f8]at f;exact⟨b,rfl,d,f⟩
 |succ n P=>
  intro b R T bX d f B;by_cases L:R=[]
  .rw[L,f8]at f;exact⟨b,rfl,d,f⟩
  .obtain⟨I,J⟩:=Dt R L;obtain⟨w,h⟩:=Dt b bX;have F:∀t∈b,∀x∈aX t (v+1),x∈M:=λt d x a=>f.mem_iff.mp (qN _ (Dp.mpr ⟨t,d,a⟩));have o:∃t∈b,∃i,i+v<=t.length/\∃x∈R,x.take v=gr t v i\/x.tail=gr t v i:=by
    refine JV λno=>?_;have r:∀t∈b,∀i,i+v<=t.length->∀x∈R,¬(x.take v=gr t v i\/x.tail=gr t v i):=λt d i l x a q=>no ⟨t,d,i,l,x,a,q⟩;have:=H (λy=>∃t∈b,∃i,i+v<=t.length/\gr t v i=y)
     ⟨gr w (v+1) 0,F w h _ (U0.mpr ⟨0,by have:=d w h;lia,rfl⟩),w,h,0,by have:=d w h;lia,by rw[uL]⟩
     (λx a q=>by
      rcases jr.mp (f.mem_iff.mpr a)with a|a
      .obtain⟨t,m,Y⟩:=Dp.mp a;obtain⟨j,hj,rfl⟩:=U0.mp Y;exact⟨⟨t,m,j,∅,by rw[uL]⟩,⟨t,m,j+1,∅,by rw[A_]⟩⟩
      .rcases q with⟨t,m,i,l,e⟩|⟨t,m,i,l,e⟩
       .exact absurd (.inl e.symm) (r t m i l x a)
       .exact absurd (.inr e.symm) (r t m i l x a))
     I (f.mem_iff.mp (iW _ J))
    obtain⟨t,m,i,l,e⟩:=this;exact r t m i l I J (.inl e.symm)
   obtain⟨t,A,i,l,x,a,S⟩:=o;have O:0<oc v R (gr t v i):=by
    rcases S with q|q
    .exact UX.mpr ⟨x,a,q⟩
    .rw[B];exact Vh.mpr ⟨x,a,q⟩
   have G:∀x∈R,x.length=v+1:=λx a=>X x (f.mem_iff.mp (iW _ a));obtain⟨c,R2,c1,c2,D,c4,c5,c6⟩:=Ic G B (p:=gr t v i) (by unfold gr;simp;lia);have K:R2.length<R.length:=by
    have W:=D.length_eq;rw[cQ]at W;rcases wo (aX c (v+1)).length with z|z
    .rw[ox.mp z,hZ]at D;obtain⟨y,Q,e⟩:=UX.mp O;exact absurd e (c5 y (D.mem_iff.mpr Q))
    .lia
   obtain⟨C,d1,d2,d3,N⟩:=Pm l c2 c1 c4;obtain⟨E,bs,rfl⟩:=List.append_of_mem A;have bg:v<C.length:=by have:=N.length_eq;have h0:=d t A;rw[cQ,sZ ∅,sZ ∅]at this;lia
   have fL:(covW v (E++C::bs)++R2).Perm M:=by
    refine Uz.trans ?_ f;rw[covW_app,covW_app,covW_cons,covW_cons];have e1:(covW v E++(aX C (v+1)++covW v bs)++R2).Perm (covW v E++(aX t (v+1)++aX c (v+1)++covW v bs)++R2):=((N.append_right _).append_left _).append_right _;refine e1.trans ?_;have e2:(aX c (v+1)++(covW v bs++R2)).Perm (covW v bs++R):=by refine Uz.trans ?_ (D.append_left (covW v bs));rw[<-eN,<-eN];exact List.perm_append_comm.append_right _
    simp only[eN];exact(e2.append_left _).append_left _
   obtain⟨g,g1,Z⟩:=P (E++C::bs) R2 ∅ (by simp) (λu s=>by
    rcases jr.mp s with s|s
    .exact d u (by simp[s])
    .rcases bC.mp s with rfl|s
     .exact bg
     .exact d u (by simp[s])) fL c6
   exact⟨g,by rw[g1];simp,Z⟩
def pS(v:Nat)(K M:List Tx):Nat:=(K.map λy=>oc v M y-ic M y).sum
theorem sum_one{K:List Tx}(b:K.Nodup){f g:Tx->Nat}{s:Tx}(d:s∈K)(i:f s=g s+1)(c:∀y∈K,y≠s->f y=g y):(K.map f).sum=(K.map g).sum+1:=by
 induction K with
 |nil=>cases d
 |cons x K h=>
  rw[kE]at b;rw[cu,cu,hU,hU];by_cases e:s=x
  .subst e;rw[i,f_ λy a=>c y (by simp[a]) λz=>b.1 (z ▸ a)];lia
  .rw[c x (by simp) (λz=>e z.symm),h b.2 ((bC.mp d).resolve_left e) λy a=>c y (by simp[a])];lia
theorem sum_pos{K:List Tx}{f:Tx->Nat}(h:0<(K.map f).sum):∃y∈K,0<f y:=by
 induction K with
 |nil=>simp at h
 |cons x K a=>
  rw[cu,hU]at h;rcases wo (f x)with z|z
  .obtain⟨y,c,b⟩:=a ∅;exact⟨y,by simp[c],b⟩
  .exact⟨x,by simp,z⟩
theorem sum_zero{K:List Tx}{f:Tx->Nat}(h:(K.map f).sum=0):∀y∈K,f y=0:=λy a=>by
 induction K with
 |nil=>cases a
 |cons x K b=>
  rw[cu,hU]at h;rcases bC.mp a with rfl|a
  .lia
  .exact b ∅ a
theorem sum_le{K:List Tx}{f g:Tx->Nat}(h:∀y∈K,f y<=g y):(K.map f).sum<=(K.map g).sum/\((K.map f).sum=(K.map g).sum->∀y∈K,f y=g y):=by
 induction K with
 |nil=>simp
 |cons x K b=>
  have i:=h x (by simp);obtain⟨d,c⟩:=b λy a=>h y (by simp[a]);rw[cu,cu,hU,hU];refine⟨∅,λe y a=>?_⟩;rcases bC.mp a with rfl|a
  .lia
  .exact c ∅ y a
theorem sum_addN{K:List Tx}(f g:Tx->Nat):(K.map λy=>f y+g y).sum=(K.map f).sum+(K.map g).sum:=by
 induction K with
 |nil=>rfl
 |cons x K a=>rw[cu,cu,cu,hU,hU,hU,a];lia
theorem one_sumN{K:List Tx}(a:K.Nodup)(s:Tx):(K.map λy=>b2 (s=y)).sum=if s∈K then 1 else 0:=by
 induction K with
 |nil=>rfl
 |cons x K b=>
  rw[kE]at a;rw[cu,hU,b a.2];by_cases e:s=x
  .subst e;rw[if_neg a.1];simp[b2]
  .simp[b2,e]
theorem zsum:∀K:List Tx,(K.map λ_=>0).sum=0
 |[]=>rfl
 |x::K=>by rw[cu,hU,zsum K]
theorem oc_sum{K:List Tx}(a:K.Nodup):∀{M:List Tx},(∀x∈M,x.take v∈K)->(K.map (oc v M)).sum=M.length
 |[],_=>by exact zsum K
 |x::M,h=>by
  have b:=oc_sum a (M:=M) λy c=>h y (by simp[c]);have e:(K.map (oc v (x::M)))=K.map λy=>b2 (x.take v=y)+oc v M y:=f_ λy _=>by simp[oc,b2]
  rw[e,sum_addN,one_sumN a,if_pos (h x (by simp)),b,eh];lia
theorem ic_sum{K:List Tx}(a:K.Nodup):∀{M:List Tx},(∀x∈M,x.tail∈K)->(K.map (ic M)).sum=M.length
 |[],_=>by exact zsum K
 |x::M,h=>by
  have b:=ic_sum a (M:=M) λy c=>h y (by simp[c]);have e:(K.map (ic (x::M)))=K.map λy=>b2 (x.tail=y)+ic M y:=f_ λy _=>by simp[ic,b2]
  rw[e,sum_addN,one_sumN a,if_pos (h x (by simp)),b,eh];lia
theorem bal_of{K M:List Tx}(d:K.Nodup)(c:∀x∈M,x.take v∈K/\x.tail∈K)(h:pS v K M=0)(y:Tx):oc v M y=ic M y:=by
 by_cases b:y∈K
 .have l:=sum_zero h;have:=(sum_le (K:=K) (f:=oc v M) (g:=ic M) λy b=>by have:=l y b;lia).2 (by rw[oc_sum d λx a=>(c x a).1,ic_sum d λx a=>(c x a).2]);exact this y b
 .have j:oc v M y=0:=by
   rcases wo (oc v M y)with z|z
   .exact z
   .obtain⟨x,a,e⟩:=UX.mp z;exact absurd (e ▸ (c x a).1) b
  have i:ic M y=0:=by
   rcases wo (ic M y)with z|z
   .exact z
   .obtain⟨x,a,e⟩:=Vh.mp z;exact absurd (e ▸ (c x a).2) b
  rw[j,i]
theorem trails{K:List Tx}(m:K.Nodup):∀(p:Nat) (M:List Tx),(∀x∈M,x.length=v+1)->(∀x∈M,x.take v∈K/\x.tail∈K)->pS v K M=p -> ∃b R,b.length=p/\(∀t∈b,v<t.length)/\(covW v b++R).Perm M/\∀y,oc v R y=ic R y
 |0,M,hM,hK,h=>⟨[],M,rfl,(λt D=>by cases D),.refl _,bal_of m hK h⟩
 |p+1,M,hM,hK,h=>by
  obtain⟨s,E,Y⟩:=sum_pos (K:=K) (f:=λy=>oc v M y-ic M y) (by have:(K.map λy=>oc v M y-ic M y).sum=p+1:=h;lia);obtain⟨B,C,J⟩:=UX.mp (show 0<oc v M s by lia);have Z:s.length=v:=by rw[<-J,lc,hM B C];lia
  have I:aX s (v+1)=[]:=ox.mp (by rw[sZ ∅];lia);obtain⟨t,R,r,W,j,T⟩:=Ab hM M.length s M rfl ∅ (by rw[I];exact .refl _);rw[show s.take v=s from i5 ∅]at r;have l:oc v R (en v t)=0:=by
   rcases wo (oc v R (en v t))with q|q
   .exact q
   .obtain⟨x,H,G⟩:=UX.mp q;exact absurd G (T x H)
  have a:∀y,oc v M y+b2 (en v t=y)+ic R y=ic M y+b2 (s=y)+oc v R y:=λy=>by have O:=yj W y;have N:=xx (v:=v) j y;have L:=xy j y;rw[yb]at N;rw[yL]at L;rw[r]at O;lia
  have A:en v t≠s:=λe=>by have:=a s;rw[e]at l this;rw[l]at this;lia
  have P:v<t.length:=by
   rcases Nat.lt_or_ge v t.length with z|z
   .exact z
   .exfalso;refine A ?_;have:t.length=v:=∅
    rw[<-r];show t.drop (t.length-v)=t.take v;rw[this,De,qZ,i5 ∅]
  have w:∀x∈R,x∈M:=λx d=>j.mem_iff.mp (iW _ d);have i:pS v K R=p:=by
   have:=sum_one m (f:=λy=>oc v M y-ic M y) (g:=λy=>oc v R y-ic R y) E (by
    have c:=a s;unfold b2 at c;rw[if_neg A,if_pos rfl]at c;show oc v M s-ic M s=oc v R s-ic R s+1;lia) (λy hy F=>by
    have c:=a y;unfold b2 at c;rw[if_neg (show ¬s=y from λz=>F z.symm)]at c;show oc v M y-ic M y=oc v R y-ic R y;by_cases e:en v t=y
    .rw[if_pos e]at c;rw[e]at l;lia
    .rw[if_neg e]at c;lia)
   have h':(K.map λy=>oc v M y-ic M y).sum=p+1:=h;show(K.map λy=>oc v R y-ic R y).sum=p;lia
  obtain⟨b,X,b1,o,S,Q⟩:=trails m p R (λx d=>hM x (w x d)) (λx d=>hK x (w x d)) i;refine⟨t::b,X,by simp[b1],λu n=>?_,?_,Q⟩
  .rcases bC.mp n with rfl|n
   .exact P
   .exact o u n
  .rw[covW_cons,eN];exact(S.append_left _).trans j
theorem cov_few{K M:List Tx}(j:K.Nodup)(b:∀x∈M,x.length=v+1)(n:∀x∈M,x.take v∈K/\x.tail∈K)(c:xR v M)(r:M≠[]):∃a,a.length=max 1 (pS v K M)/\Cov v a M:=by
 cases m:pS v K M with
 |zero=>
  have h:=bal_of j n m;obtain⟨x,l⟩:=Dt M r;obtain⟨t,R,D,C,i,B,A,y⟩:=Ic b h (p:=x.take v) (by rw[lc,b x l];lia);have q:v<t.length:=by
   rcases Nat.lt_or_ge v t.length with z|z
   .exact z
   .exfalso;have:aX t (v+1)=[]:=ox.mp (by rw[sZ ∅];lia);rw[this,hZ]at i;exact A x (i.mem_iff.mpr l) rfl
  obtain⟨a,g,f⟩:=grow_many b c R.length [t] R (a9 _) (by simp) (λu o=>by rw[fu.mp o];exact q) (by rw[covW_cons];simpa[covW]using i) y;exact⟨a,by rw[g];rfl,f⟩
 |succ p=>obtain⟨a,R,b1,b2,w,s⟩:=trails j (p+1) M b n m;obtain⟨d,g,f⟩:=grow_many b c R.length a R (a9 _) (by rintro rfl;simp at b1) b2 w s;exact⟨d,by rw[g,b1];lia,f⟩
theorem pS_app(K M N:List Tx):pS v K (M++N)<=pS v K M+pS v K N:=by unfold pS;rw[<-sum_addN];exact(sum_le λy _=>by rw[yb,yL];lia).1
theorem pS_text{K:List Tx}(b:K.Nodup){t:Tx}(h:v<=t.length):pS v K (aX t (v+1))<=1:=by have a:pS v K (aX t (v+1))<=(K.map λy=>b2 (t.take v=y)).sum:=(sum_le λy _=>by have:=yj h y;lia).1;rw[one_sumN b]at a;split at a <;> lia
theorem pS_cov{K:List Tx}(a:K.Nodup):∀{ts:List Tx},(∀t∈ts,v<t.length)->pS v K (covW v ts)<=ts.length
 |[],_=>by show pS v K []<=0;have:pS v K []=(K.map λ_=>0).sum:=rfl;rw[this,zsum];exact a9 _
 |t::ts,h=>by have f:=pS_cov a (ts:=ts) λu b=>h u (by simp[b]);have d:=pS_text a (t:=t) (v:=v) (by have:=h t (by simp);lia);have c:=pS_app (v:=v) K (aX t (v+1)) (covW v ts);rw[covW_cons,eh];lia
theorem pS_perm{K M N:List Tx}(h:M.Perm N):pS v K M=pS v K N:=by unfold pS;rw[f_ λy _=>by rw[xx h,xy h]]
structure Min(v:Nat)(M:List Tx)(k:Nat):Prop where
 ex:∃ts,ts.length=k/\Cov v ts M
 low:∀ts,Cov v ts M->k<=ts.length
theorem Min.uniq{M:List Tx}{k j:Nat}(b:Min v M k)(a:Min v M j):k=j:=by obtain⟨d,g,f⟩:=b.ex;obtain⟨c,b1,b2⟩:=a.ex;have:=b.low c b2;have:=a.low d f;lia
theorem min_conn{K M:List Tx}(c:K.Nodup)(f:∀x∈M,x.length=v+1)(g:∀x∈M,x.take v∈K/\x.tail∈K)(a:xR v M)(d:M≠[]):Min v M (max 1 (pS v K M)):=by
 refine⟨cov_few c f g a d,λb h=>?_⟩;have i:=pS_cov c h.long;rw[pS_perm h.perm]at i;have j:1<=b.length:=by
  cases b with
  |nil=>have:=h.perm;exact absurd (List.nil_perm.mp this) d
  |cons=>simp
 lia
theorem min_nil:Min v [] 0:=⟨⟨[],rfl,(λt a=>by cases a),.refl _⟩,λ_ _=>jO _⟩
theorem min_parts{ks M:List Tx}(N:∀x∈M,x.length=v+1)(E:∀x∈M,x.take v∈ks\/x.tail∈ks->x.take v∈ks/\x.tail∈ks){k j:Nat}(r:Min v (M.filter λx=>decide (x.take v∈ks)) k)(o:Min v (M.filter λx=>!decide (x.take v∈ks)) j):Min v M (k+j):=by
 have I:(M.filter (λx=>decide (x.take v∈ks))++M.filter (λx=>!decide (x.take v∈ks))).Perm M:=JW _ _;obtain⟨A,H,s⟩:=r.ex;obtain⟨w,b1,b2⟩:=o.ex;refine⟨⟨A++w,by simp[H,b1],λt b=>?_,?_⟩,λa h=>?_⟩
 .rcases jr.mp b with z|z
  .exact s.long t z
  .exact b2.long t z
 .rw[covW_app];exact(s.perm.append b2.perm).trans I
 .have d:∀t∈a,∀x∈aX t (v+1),(x.take v∈ks↔t.take v∈ks):=λt b x c=>by
   obtain⟨j,L,rfl⟩:=U0.mp c;rw[uL];have step:∀i,i+(v+1)<=t.length->(gr t v i∈ks↔gr t v (i+1)∈ks):=λi n=>by have C:gr t (v+1) i∈M:=h.perm.mem_iff.mp (Dp.mpr ⟨t,b,U0.mpr ⟨i,n,rfl⟩⟩);have:=E _ C;rw[uL,A_]at this;exact⟨λz=>(this (.inl z)).2,λz=>(this (.inr z)).1⟩
   have all:∀i,i+v<=t.length->(gr t v i∈ks↔t.take v∈ks):=λi=>by
    induction i with
    |zero=>intro _;simp[gr]
    |succ i l=>intro n;rw[<-step i ∅];exact l ∅
   exact all j ∅
  have f:∀(q:Tx->Bool) (a:List Tx),(∀t∈a,∀x∈aX t (v+1),q (x.take v)=q (t.take v))->(covW v a).filter (λx=>q (x.take v))=covW v (a.filter λt=>q (t.take v)):=λq a=>by
   induction a with
   |nil=>intro _;rfl
   |cons t a l=>
    intro m;rw[covW_cons,Do,l λu D=>m u (by simp[D])];cases g:q (t.take v)with
    |true=>rw[List.filter_cons_of_pos (p:=λt:Tx=>q (t.take v)) g,covW_cons,wm.mpr λx c=>by rw[m t (by simp) x c];exact g]
    |false=>rw[List.filter_cons_of_neg (p:=λt:Tx=>q (t.take v)) (by simp[g]),List.filter_eq_nil_iff.mpr λx c=>by rw[m t (by simp) x c];simp[g]];rfl
  have G:Cov v (a.filter λt=>decide (t.take v∈ks)) (M.filter λx=>decide (x.take v∈ks)):=⟨λt b=>h.long t (k7.mp b).1,by rw[<-f (λy=>decide (y∈ks)) a λt b x c=>decide_eq_decide.mpr (d t b x c)];exact h.perm.filter _⟩
  have F:Cov v (a.filter λt=>!decide (t.take v∈ks)) (M.filter λx=>!decide (x.take v∈ks)):=⟨λt b=>h.long t (k7.mp b).1,by rw[<-f (λy=>!decide (y∈ks)) a λt b x c=>by rw[decide_eq_decide.mpr (d t b x c)]];exact h.perm.filter _⟩
  have K:=r.low _ G;have J:=o.low _ F;have B:=(JW (λt:Tx=>decide (t.take v∈ks)) a).length_eq;rw[cQ]at B;lia
end
theorem drop_take{v:Nat}{x:Tx}(h:x.length=v+1):x.dropLast=x.take v:=by rw[JS,h];rfl
theorem conn_part{v:Nat}{x:Tx}{r ks:List Tx}(w:∀y∈x::r,y.length=v+1)(h:Rch (x::r) ks)(l:∀y∈x::r,y.dropLast∈ks\/y.tail∈ks->y.dropLast∈ks/\y.tail∈ks):xR v ((x::r).filter λy=>decide (y.take v∈ks)):=by
 have j:∀y∈x::r,y.take v=y.dropLast:=λy a=>(drop_take (w y a)).symm;have p:∀y,y∈((x::r).filter λy=>decide (y.take v∈ks))↔y∈x::r/\y.dropLast∈ks:=λy=>by
  rw[k7];constructor
  .rintro⟨f,d⟩;exact⟨f,by rw[<-j y f];exact of_decide_eq_true d⟩
  .rintro⟨f,d⟩;exact⟨f,decide_eq_true (by rw[j y f];exact d)⟩
 intro V ⟨y,a,s⟩ t z u;have i:=(p y).mp a;have g:=(p z).mp u;rw[j y i.1]at s;rw[j z g.1];have o:∀y∈x::r,y.dropLast∈ks->V y.dropLast\/V y.tail->V y.dropLast/\V y.tail:=λy f d q=>by have:=t y ((p y).mpr ⟨f,d⟩);rw[j y f]at this;exact this q
 by_cases c:V x.dropLast
 .exact h.least (λq=>q∈ks->V q) (λy a q=>by
   refine⟨λn=>?_,λn=>?_⟩
   .have b:=l y a (.inl n);rcases q with q|q
    .exact q n
    .exact(o y a n (.inr (q b.2))).1
   .have b:=l y a (.inr n);rcases q with q|q
    .exact(o y a b.1 (.inl (q b.1))).2
    .exact q n) (λ_ _ e=>by cases e;exact λ_=>c) _ g.2 g.2
 .have:=h.least (λq=>q∈ks->¬V q) (λy a q=>by
   refine⟨λn m=>?_,λn m=>?_⟩
   .have b:=l y a (.inl n);have d:=o y a n (.inl m);rcases q with q|q
    .exact q n m
    .exact q b.2 d.2
   .have b:=l y a (.inr n);have d:=o y a b.1 (.inr m);rcases q with q|q
    .exact q b.1 d.1
    .exact q n m) (λ_ _ e=>by cases e;exact λ_=>c) _ i.2 i.2
  exact absurd s this
section
variable{a:Ad}
theorem vals_dk:∀m:List (Tx×Int),oN (dk m)=aa (m.map (·.2))
 |[]=>rfl
 | (x,n)::m=>by show(oN (dk m)).map (n::·)=_;rw[vals_dk m];rfl
theorem dk_exc(b:List Tx):(jd b).map (·.2)=(ks (jd b)).map (exc b):=by
 have c:=HL b;have d:∀y,(bH (jd b) y).getD 0=exc b y:=Ss b;generalize jd b=m at c d;have:∀p∈m,p.2=exc b p.1:=λp f=>by rw[<-d];obtain⟨k,n⟩:=p;have:=(Lm c).mpr f;rw[this];rfl
 show _=(m.map (·.1)).map _;rw[dI];exact f_ this
theorem pos_sum(K:List Tx)(f g:Tx->Nat):(((K.map λy=>(f y:Int)-(g y:Int)).filter λn=>decide (0<n))).sum=((K.map λy=>f y-g y).sum:Nat):=by
 induction K with
 |nil=>rfl
 |cons y K b=>
  rw[cu,cu,hU];by_cases h:0<(f y:Int)-(g y:Int)
  .rw[List.filter_cons_of_pos (by simpa using h),hU,b];lia
  .rw[List.filter_cons_of_neg (by simpa using h),b];lia
theorem ints_dP(l:List Int):sP.intsQ (l.map .int)=aa l:=by
 induction l with
 |nil=>rfl
 |cons i l b=>show(sP.intsQ (l.map .int)).map (i::·)=_;rw[b];rfl
def fewK(b:List Tx):List Tx:=ks (jd b)
theorem few_ret{m:List (aD×PV)}{b:List Int}(g:oN m=aa b){W:PV}{s:Int}(c:sP [.lst ((b.filter λn=>decide (0<n)).map .int)]=aa (.int s)){r:PV}(d:sT [.int 1,.int s]=aa r):(bY (dL sT (ap (dC (.int 1)) (ap (dL sP (ap (dF (qy 1)) (aC))) (aC))))) [.val W,.own (.dK m)]=.ok (.ret (.val r)) [.val W,.own (.dK m)]:=by
 have f:qy 1 [.val W,.own (.dK m)]=.ok (.lst ((b.filter λn=>decide (0<n)).map .int)) [.val W,.own (.dK m)]:=by unfold qy;show(aE (aa m) _).bind _=_;simp only[cg,R.bind_ok,g]
 generalize ((b.filter λn=>decide (0<n)).map PV.int)=LL at c f;generalize PV.int s=SS at c d;generalize PV.int 1=C1 at d ⊢;generalize qy 1=DP at f;simp![f,c,d]
theorem grd_ret11{d:ak->R aK}{b:PV}{c e1:Slot}(h:d [.val b,.none]=.ok (.ret c) [.val b,e1])(f:(match c with|.own o=>eR o|_=>ah)=ah):bh 1 [] (bj 1 d) [.val b]=.ok c [.val b]:=by simp[bh,dX,bj,bK,h,back,aE,R.bind]
theorem fewest_for_eq{v:Nat}(b:List Tx)(h:∀y∈b,y.length=v+1)(c:b.length<=100):ze a [.val (.lst (ao b))]=.ok (⇑((max 1 (pS v (fewK b) b):Nat):Int)) [.val (.lst (ao b))]:=by
 have d:=SE (a:=a) (.lst (ao b)) b c rfl;have f:sP [.lst ((((jd b).map (·.2)).filter λn=>decide (0<n)).map .int)]=aa (.int ((pS v (fewK b) b:Nat):Int)):=by show(sP.intsQ _).map _=_;rw[ints_dP];show aa (PV.int _)=_;rw[dk_exc,f_ λy _=>Fk h y,pos_sum];rfl
 have g:sT [.int 1,.int ((pS v (fewK b) b:Nat):Int)]=aa (.int ((max 1 (pS v (fewK b) b):Nat):Int)):=by show aa (PV.int (if((pS v (fewK b) b:Nat):Int) > 1 then _ else _))=_;congr 2;split <;> lia
 refine grd_ret11 (e1:=.own (.dK (dk (jd b)))) ?_ rfl;unfold yat;refine(dO (Ka (i:=1) (ε:=[.val (.lst (ao b)),.none]) rfl d (by simp))).trans ?_;exact few_ret (vals_dk _) f g
def ftC:ak->R Bool:=(dB (d2 (fA λi j=>decide (j<i)) (dL bx (ap (dV 1) (aC))) (dC (.int 0))))
def ftB(a:Ad):ak->R aK:=(aR (eY 3 (kr (aU (ve a) (gV (dV 1) (Pu.bA))))) (aR (cp 2 (d2 bF (dV 2) (bn (aU (ze a) (gV (dF (dG [3] (bP (dV 1)) (dB (gC aj 1 (bV bZ (dV 0) (b9) (bT (d1 dP (dC (.int 1))))))) (dV 0))) (Pu.bA)))))) (cp 1 (dF (dG [3] (bP (dV 1)) (dB (gC ah 1 (bV bZ (dV 0) (b9) (bT (d1 dP (dC (.int 1))))))) (dV 0))))))
def hdB(neg:Bool)(ks:List Tx):PV->Bool
 |.str y=>neg^^decide (y.dropLast∈ks)
 |_=>aj
theorem hd_comp(neg:Bool)(W:PV)(c ks:List Tx)(j:gY W=aa (ao c))(V d:Slot):dF (dG [3] (bP (dV 1)) (dB (gC neg 1 (bV bZ (dV 0) (b9) (bT (d1 dP (dC (.int 1))))))) (dV 0)) [V,.val W,d,.own (.dK (dj ks))]=.ok (.lst (ao (c.filter λy=>neg^^decide (y.dropLast∈ks)))) [V,.val W,d,.own (.dK (dj ks))]:=by
 have b:=oY (cap:=[3]) (dt:=dB (gC neg 1 (bV bZ (dV 0) (b9) (bT (d1 dP (dC (.int 1))))))) (de:=dV 0) (ε:=[V,.val W,d,.own (.dK (dj ks))]) (hdB neg ks) (λx=>x) (ao c)
  (by
   intro x l;obtain⟨y,_,rfl⟩:=cx.mp l;refine⟨Ir (i:=3) rfl ?_,λ_=>Ir (i:=3) rfl rfl⟩;have p:bV bZ (dV 0) (b9) (bT (d1 dP (dC (.int 1)))) [↥y,.own (.dK (dj ks))]=.ok (.str y.dropLast) [↥y,.own (.dK (dj ks))]:=by have g:dP (.int 1)=aa (.int (-1)):=rfl;have f:=zb y;generalize y.dropLast=YD at f;generalize PV.int 1=C1 at g;simp![bV,bT,b9,g,f]
   have o:=Bb (neg:=neg) (i:=1) (ks:=ks) p rfl;unfold dB;rw[o];rfl) []
 have m:((ao c).filter (hdB neg ks)).map (λx=>x)=ao (c.filter λy=>neg^^decide (y.dropLast∈ks)):=by rw[List.map_id'];unfold ao;rw[Dq];rfl
 rw[hZ,m]at b;generalize ao (c.filter λy=>neg^^decide (y.dropLast∈ks))=FF at b;generalize (dB (gC neg 1 (bV bZ (dV 0) (b9) (bT (d1 dP (dC (.int 1)))))))=DT at b;generalize n:(dV 0:ak->R PV)=DE at b;generalize ao c=PL at b j;generalize dj ks=DK at b;have h:bP (dV 1) [V,.val W,d,.own (.dK DK)]=.ok PL [V,.val W,d,.own (.dK DK)]:=by simp[bP,dV,R.bind,aE,j]
 generalize bP (dV 1)=DI at h;simp[dF,dG,h,b,R.bind,oV,aE]
theorem ft_cond{W:PV}{n:Nat}(d:bx [W]=aa (.int n))(V c b:Slot):ftC [V,.val W,c,b]=.ok (decide (0<n)) [V,.val W,c,b]:=by have:decide ((0:Int)<(n:Nat))=decide (0<n):=decide_eq_decide.mpr ∅;rw[<-this];generalize ((n:Nat):Int)=NN at d;simp![ftC,d]
theorem ft_while{v:Nat}(V:Slot):∀(n:Nat) (d:List Tx) (W:PV) (c j:Nat) (g:Slot),d.length<=n->n<j->d.length<=20->(∀y∈d,y.length=v+1)->gY W=aa (ao d)->bx [W]=aa (.int (d.length:Nat))->(∀x r,d=x::r->bG W (.int 0)=aa (.str x)) -> ∃k S P,Min v d k/\gm ftC (ftB a) j [V,.val W,⇑c,g]=.ok .next [V,.val S,⇑((c+k:Nat):Int),P]:=by
 intro n
 induction n with
 |zero=>
  intro d W c j g X hf _ o E G _;obtain⟨f,rfl⟩:∃f,j=f+1:=⟨j-1,∅⟩
  have e:d=[]:=ka ∅;subst e;refine⟨0,W,g,min_nil,?_⟩;have p:=ft_cond G V (⇑c) g;exact yU p
 |succ n ih=>
  intro d W c j g X hf O o E G rQ;obtain⟨f,rfl⟩:∃f,j=f+1:=⟨j-1,∅⟩
  cases d with
  |nil=>refine⟨0,W,g,min_nil,?_⟩;have p:=ft_cond G V (⇑c) g;exact yU p
  |cons x r=>
   have p:=ft_cond G V (⇑c) g;rw[decide_eq_true (by simp)]at p;simp only[eh]at X O;obtain⟨ks,Z,T,B⟩:=SR (a:=a) W x r ∅ E (rQ x r rfl);have D:∀y∈x::r,y.dropLast=y.take v:=λy b=>drop_take (o y b);have eA:((x::r).filter λy=>aj^^decide (y.dropLast∈ks))=(x::r).filter λy=>decide (y.take v∈ks):=List.filter_congr λy b=>by rw[D y b,Dj]
   have eB:((x::r).filter λy=>ah^^decide (y.dropLast∈ks))=(x::r).filter λy=>!decide (y.take v∈ks):=List.filter_congr λy b=>by rw[D y b,t_]
   have Q:=conn_part o Z T;have A:x∈(x::r).filter λy=>decide (y.take v∈ks):=k7.mpr ⟨by simp,decide_eq_true (by rw[<-D x (by simp)];exact Z.start x r rfl)⟩;have u:∀y∈(x::r).filter (λy=>decide (y.take v∈ks)),y.length=v+1:=λy b=>o y (k7.mp b).1;have J:∀y∈(x::r).filter (λy=>!decide (y.take v∈ks)),y.length=v+1:=λy b=>o y (k7.mp b).1;have w:=(JW (λy:Tx=>decide (y.take v∈ks)) (x::r)).length_eq;rw[cQ,eh]at w;have hA1:1<=((x::r).filter λy=>decide (y.take v∈ks)).length:=List.length_pos_of_mem A;have i:=fewest_for_eq (a:=a) ((x::r).filter λy=>decide (y.take v∈ks)) u ∅;have m:=min_conn (v:=v) (K:=fewK ((x::r).filter λy=>decide (y.take v∈ks))) (M:=(x::r).filter λy=>decide (y.take v∈ks)) (HL _) u (λy b=>by rw[<-drop_take (u y b)];unfold fewK;rw[Ee,Ee];exact⟨qN _ (cx.mpr ⟨y,b,rfl⟩),iW _ (cx.mpr ⟨y,b,rfl⟩)⟩) Q (List.ne_nil_of_mem A);generalize hkA:max 1 (pS v (fewK ((x::r).filter λy=>decide (y.take v∈ks))) ((x::r).filter λy=>decide (y.take v∈ks)))=kA at i m;have Y:kA<=20:=by
    have C:Cov v ((x::r).filter λy=>decide (y.take v∈ks)) ((x::r).filter λy=>decide (y.take v∈ks)):=⟨λt ht=>by rw[u t ht];lia,by
     have:∀l:List Tx,(∀y∈l,y.length=v+1)->covW v l=l:=λl=>by
      induction l with
      |nil=>intro _;rfl
      |cons y l H=>intro h;rw[covW_cons,H λz hz=>h z (by simp[hz]),lC _ _ ∅,h y (by simp),show v+1+1-(v+1)=1 by lia];show [(y.drop 0).take (v+1)]++l=_;rw[qZ,i5 (by rw[h y (by simp)];lia)];rfl
     rw[this _ u]⟩
    have:=m.low _ C;lia
   have s:=hd_comp aj W (x::r) ks E V (⇑c);have cB:=hd_comp ah W (x::r) ks E V (⇑((c+kA:Nat):Int));rw[eA]at s;rw[eB]at cB;have F:bF (.int c) (.int kA)=aa (.int ((c+kA:Nat):Int)):=by show aa (PV.int _)=_;congr 2
   obtain⟨kB,S,P,I,hw⟩:=ih ((x::r).filter λy=>!decide (y.take v∈ks)) (.lst (ao ((x::r).filter λy=>!decide (y.take v∈ks)))) (c+kA) f (.own (.dK (dj ks))) ∅ ∅ ∅ J rfl (by show aa (PV.int _)=_;rw[jg]) (λy l e=>by rw[e];exact Qo y l);refine⟨kA+kB,S,P,min_parts o (λy b q=>by rw[<-D y b]at q ⊢;exact T y b q) m I,?_⟩;have hb:ftB a [V,.val W,⇑c,g]=.ok .next [V,.val (.lst (ao ((x::r).filter λy=>!decide (y.take v∈ks)))),⇑((c+kA:Nat):Int),.own (.dK (dj ks))]:=by
    unfold ftB;refine(dO (ε1:=[V,.val W,⇑c,.own (.dK (dj ks))]) ?_).trans ?_
    .generalize dj ks=DK at B;simp![B]
    refine(dO (ε1:=[V,.val W,⇑((c+kA:Nat):Int),.own (.dK (dj ks))]) ?_).trans ?_
    .generalize (dF (dG [3] (bP (dV 1)) (dB (gC aj 1 (bV bZ (dV 0) (b9) (bT (d1 dP (dC (.int 1))))))) (dV 0)))=DA at s;generalize ao ((x::r).filter λy=>decide (y.take v∈ks))=PA at s i;generalize PV.int ((c+kA:Nat):Int)=CK at F;generalize PV.int kA=KA at F i;generalize PV.int c=CC at F s;generalize dj ks=DK at s;generalize N:dV 2=D2;have L:D2 [V,.val W,.val CC,.own (.dK DK)]=.ok CC [V,.val W,.val CC,.own (.dK DK)]:=by rw[<-N];rfl
     simp[cp,d2,L,bn,aU,gV,Pu.bA,s,i,F,R.bind,aE,eW,fc,cF,d_,fi,o_]
    .exact(vp cB).trans rfl
   rw[yd p hb,hw,pF]
theorem fewest_texts_eq{w:Nat}{ls:List Tx}(g:Good bz w ls)(n:1<=w)(m:w<=4)(p:ls.Pairwise (λa b=>dw a b=ah)):∃k,Min (w-1) ls k/\uH a [.val (aW w ls)]=.ok (⇑k) [.val (aW w ls)]:=by
 have i:jC a [.val (aW w ls)]=.ok (.val .non) [.val (aW w ls)]:=vm (a:=a) (g.vw n m p);have s:=g.few;obtain⟨k,l,j,q,h⟩:=ft_while (a:=a) (v:=w-1) (.val (aW w ls)) ls.length ls (.tup (ao ls)) 0 1000 .none (a9 _) ∅ ∅ (λy o=>by rw[g.len y o];lia) rfl (by simp[bx,jg]) (λx r e=>by rw[e];show gB (.str x::ao r) 0=_;rw[yE (by decide) (by simp)];rfl);refine⟨k,q,?_⟩;rw[oq]at h;have f:bG (aW w ls) (.int 1)=aa (.tup (ao ls)):=rfl;have c:yau a [.val (aW w ls),.none,.none,.none]=.ok (.ret (⇑k)) [.val (aW w ls),.val l,⇑k,j]:=by show aR _ (aR _ (aR _ (aR (λd=>dQ (gm ftC (ftB a) 1000 d)) (bY (dV 2))))) _=_;refine(dO (ε1:=[.val (aW w ls),.none,.none,.none]) (by generalize aW w ls=VV at i;simp![i])).trans ?_;refine(dO (ε1:=[.val (aW w ls),.val (.tup (ao ls)),.none,.none]) (by generalize ao ls=PL at f;generalize aW w ls=VV at f;simp![f])).trans ?_;refine(dO (ε1:=[.val (aW w ls),.val (.tup (ao ls)),⇑0,.none]) (by rfl)).trans ?_;refine(dO (d1:=λd=>dQ (gm ftC (ftB a) 1000 d)) (ε1:=[.val (aW w ls),.val l,⇑k,j]) ?_).trans rfl;show dQ (gm ftC (ftB a) 1000 [.val (aW w ls),.val (.tup (ao ls)),⇑((0:Nat):Int),.none])=_;rw[h];rfl
 unfold uH;generalize yau a=DD at c ⊢;generalize aW w ls=VV at c ⊢;generalize PV.int k=KK at c ⊢;simp[bh,dX,bj,bK,c,back,eR,aE,R.bind]
end
end Sh
namespace Mx
open L2 Pu
def ovD(a w:Tx):Nat->Nat
 |0=>0
 |k+1=>if w.take (k+1) <:+ a then k+1 else ovD a w k
def ov(a w:Tx):Nat:=ovD a w (w.length-1)
def adW(a w:Tx):Tx:=w.drop (ov a w)
theorem ovD_le(a w:Tx):∀k,ovD a w k<=k
 |0=>a9 _
 |k+1=>by unfold ovD;split;exact a9 _;exact Nat.le_succ_of_le (ovD_le a w k)
theorem ovD_suf(a w:Tx):∀k,w.take (ovD a w k) <:+ a
 |0=>by simp[ovD]
 |k+1=>by unfold ovD;split;assumption;exact ovD_suf a w k
theorem ovD_max(a w:Tx):∀k j,j<=k->w.take j <:+ a->j<=ovD a w k
 |0,j,h,_=>h
 |k+1,j,h,hs=>by
  unfold ovD;split
  .exact h
  .rename_i b;refine ovD_max a w k j ?_ hs;rcases Nat.lt_or_eq_of_le h with h|h
   .lia
   .subst h;exact absurd hs b
theorem ov_lt{a w:Tx}(h:1<=w.length):ov a w<w.length:=by have:=ovD_le a w (w.length-1);unfold ov;lia
theorem ov_nil(w:Tx):ov [] w=0:=by have h:=ovD_suf [] w (w.length-1);have b:=ovD_le [] w (w.length-1);unfold ov;have:=List.suffix_nil.mp h;have a:=congrArg jL this;rw[lc,j_]at a;lia
theorem adW_nil(w:Tx):adW [] w=w:=by unfold adW;rw[ov_nil];rfl
theorem adW_len(a w:Tx):(adW a w).length=w.length-ov a w:=by simp[adW]
theorem lay{a w:Tx}{n:Nat}(d:w.length=n)(c:1<=n)(g:a.length=n):∃p:Tx,1<=p.length/\a++adW a w=p++w:=by
 obtain⟨p,b⟩:=ovD_suf a w (w.length-1);have f:=ov_lt (a:=a) (w:=w) ∅;refine⟨p,?_,?_⟩
 .have:=congrArg jL b;rw[cQ,lc]at this;have h:ov a w=ovD a w (w.length-1):=rfl;lia
 .show a++w.drop (ovD a w (w.length-1))=p++w;generalize ovD a w (w.length-1)=k at b;rw[<-b,eN,mH]
def chain:Tx->List Tx->Tx
 |_,[]=>[]
 |a,w::b=>adW a w++chain w b
theorem chain_len(n:Nat):∀(b:List Tx) (a:Tx),(∀x∈b,x.length=n)->(chain a b).length<=b.length*n
 |[],_,_=>by simp[chain]
 |w::b,a,h=>by have d:=h w (by simp);have f:=chain_len n b w λx c=>h x (by simp[c]);rw[chain,cQ,adW_len,d,eh,CW];lia
theorem wins_cons{n:Nat}(a:1<=n)(c:Nat)(t:Tx)(h:n<=t.length+1):aX (c::t) n=(c::t).take n::aX t n:=by rw[lC _ _ a,lC _ _ a,eh,show t.length+1+1-n=(t.length+1-n)+1 by lia,v9,cu,dI];rfl
theorem wins_pre{n:Nat}(a:1<=n)(t:Tx)(h:n<=t.length):∀p:Tx,∃l:List Tx,aX (p++t) n=l++aX t n/\(1<=p.length->(p++t).take n∈l)/\l.length=p.length
 |[]=>⟨[],rfl,λz=>by simp at z,rfl⟩
 |c::p=>by obtain⟨l,d,_,b⟩:=wins_pre a t h p;refine⟨(c::(p++t)).take n::l,?_,λ_=>by simp,by simp[b]⟩;rw[ke,wins_cons a c (p++t) (by simp;lia),d];rfl
theorem wins_pre1{n:Nat}(a:1<=n)(t:Tx)(h:n<=t.length)(p:Tx)(b:1<=p.length):∃l:List Tx,aX (p++t) n=(p++t).take n::(l++aX t n):=by
 cases p with
 |nil=>simp at b
 |cons c p=>obtain⟨l,d,_,f⟩:=wins_pre a t h p;refine⟨l,?_⟩;rw[ke,wins_cons a c (p++t) (by simp;lia),d]
theorem chain_has{n:Nat}(c:1<=n):∀(b:List Tx) (a:Tx),a.length=n->(∀x∈b,x.length=n)->(a::b).Sublist (aX (a++chain a b) n)
 |[],a,d,_=>by rw[chain,f8,lC _ _ c,d,show n+1-n=1 by lia];show [a].Sublist [(a.drop 0).take n];rw[qZ,i5 ∅];exact List.Sublist.refl _
 |w::b,a,d,h=>by
  have f:=h w (by simp);have i:=chain_has c b w f λx j=>h x (by simp[j]);obtain⟨p,m,e⟩:=lay (a:=a) f c d;have g:a++chain a (w::b)=p++(w++chain w b):=by rw[chain,<-eN,e,eN]
  obtain⟨l,o⟩:=wins_pre1 c (w++chain w b) (by simp;lia) p m;rw[g,o,<-g,wl ∅,i5 ∅];exact List.Sublist.cons_cons _ (i.trans (List.sublist_append_right _ _))
def Has(n:Nat)(t:Tx)(a:List Tx):Prop:=∀x,a.count x<=(aX t n).count x
theorem chain_has0{n:Nat}(c:1<=n){a b:List Tx}(h:∀x∈a,x.length=n)(p:a.Perm b):Has n (chain [] a) b:=λx=>by
 rw[<-p.count_eq];cases a with
 |nil=>simp
 |cons w a=>have:=chain_has c a w (h w (by simp)) λx d=>h x (by simp[d]);rw[chain,adW_nil];exact this.count_le x
theorem ltX_app(q x y:Tx):cf (q++x) (q++y)=cf x y:=by
 unfold cf;have e:(q++x<q++y)=(x<y):=by
  induction q with
  |nil=>rfl
  |cons c q a=>rw[ke,ke,List.cons_lt_cons_self];exact a
 simp only[cQ,Nat.add_left_cancel_iff,Nat.add_lt_add_iff_left,e]
theorem ltX_len{x y:Tx}(h:x.length<y.length):cf x y=ah:=by unfold cf;rw[if_neg ∅];exact decide_eq_true h
theorem ltX_lenF{x y:Tx}(h:y.length<x.length):cf x y=aj:=by unfold cf;rw[if_neg ∅];exact decide_eq_false ∅
theorem ltX_le{x y:Tx}(h:cf x y=aj):y.length<=x.length:=by
 cases Nat.lt_or_ge x.length y.length with
 |inl z=>rw[ltX_len z]at h;cases h
 |inr z=>exact z
theorem ltX_le_trans{x y z:Tx}(b:cf y x=aj)(a:cf z y=aj):cf z x=aj:=by
 cases q:cf z x with
 |false=>rfl
 |true=>
  cases r:cf x y with
  |true=>have:=BK q r;rw[a]at this;cases this
  |false=>have:=Bk b r;subst this;rw[a]at q;cases q
theorem pick_sub:∀(m l:List Tx),(∀x,l.count x<=m.count x)->∃a:List Tx,a.Sublist m/\a.Perm l
 |[],l,h=>by
  have:l=[]:=by
   cases l with
   |nil=>rfl
   |cons x l=>have:=h x;simp at this
  subst this;exact⟨[],.slnil,.nil⟩
 |y::m,l,h=>by
  by_cases d:y∈l
  .obtain⟨a,c,b⟩:=pick_sub m (l.erase y) λx=>by
    have:=h x;by_cases e:y=x
    .subst e;rw[List.count_erase_self];rw[List.count_cons_self]at this;lia
    .rw[List.count_erase_of_ne (λz=>e z.symm)];rw[List.count_cons_of_ne e]at this;exact this
   exact⟨y::a,c.cons_cons y,(b.cons y).trans (JT d).symm⟩
  .obtain⟨a,c,b⟩:=pick_sub m l λx=>by
    have:=h x;by_cases e:y=x
    .subst e;rw[List.count_eq_zero.mpr d];lia
    .rw[List.count_cons_of_ne e]at this;exact this
   exact⟨a,c.cons y,b⟩
theorem sub_at{n:Nat}(b:1<=n):∀(t:Tx) {w:Tx}{a:List Tx},(w::a).Sublist (aX t n)->∃(q r:Tx),t=q++(w++r)/\w.length=n/\a.Sublist ((aX (w++r) n).tail)
 |[],w,a,h=>by
  have:aX [] n=[]:=rfl;rw[this]at h;cases h
 |c::t,w,a,h=>by
  by_cases d:n<=t.length+1
  .rw[wins_cons b c t d]at h;cases h with
   |cons _ h=>obtain⟨q,r,e,g,f⟩:=sub_at b t h;exact⟨c::q,r,by rw[e];rfl,g,f⟩
   |cons_cons _ h=>refine⟨[],(c::t).drop n,by simp,by simp;lia,?_⟩;rw[mH,wins_cons b c t d];exact h
  .have:aX (c::t) n=[]:=by rw[lC _ _ b,eh,show t.length+1+1-n=0 by lia];rfl
   rw[this]at h;cases h
theorem tail_wins{n:Nat}(b:1<=n){a r:Tx}(f:a.length=n):(aX (a++r) n).tail=aX ((a++r).drop 1) n:=by
 cases h:a++r with
 |nil=>have:=congrArg jL h;rw[cQ,j_]at this;lia
 |cons c t=>have d:=congrArg jL h;rw[cQ,eh]at d;rw[wins_cons b c t ∅];rfl
theorem chain_least{n:Nat}(f:1<=n):∀(b:List Tx) (a r:Tx),a.length=n->b.Sublist ((aX (a++r) n).tail)->cf r (chain a b)=aj
 |[],a,r,_,_=>by
  unfold chain cf;split
  .rename_i e;rw[j_]at e;rw[ka e];rfl
  .exact decide_eq_false (by simp)
 |w::b,a,r,j,h=>by
  rw[tail_wins f j]at h;obtain⟨q,d,e,s,t⟩:=sub_at f _ h;have i:=chain_least f b w d s t;rw[chain];have l:∃p:Tx,1<=p.length/\a++r=p++(w++d):=by
   cases a with
   |nil=>simp at j;lia
   |cons c a=>rw[ke,Ji,qZ]at e;exact⟨c::q,by simp,by rw[ke,e];rfl⟩
  obtain⟨p,C,g⟩:=l;have A:=congrArg jL g;simp only[cQ]at A;have x:=ov_lt (a:=a) (w:=w) ∅;have B:n<=p.length+ov a w:=by
   by_cases v:n<=p.length
   .lia
   .have m:w.take (n-p.length) <:+ a:=by
     have z:a=p++w.take (n-p.length):=by have:=congrArg (List.take n) g;rw[wl ∅,i5 ∅,List.take_append,i5 (show p.length<=n by lia),wl ∅]at this;exact this
     exact⟨p,z.symm⟩
    have:=ovD_max a w (w.length-1) (n-p.length) ∅ m;have D:ov a w=ovD a w (w.length-1):=rfl;lia
  have o:=ltX_le i;by_cases y:p.length+ov a w=n
  .have u:r=adW a w++d:=by
    have:=congrArg (List.drop n) g;rw[v8 ∅,zQ ∅,hZ,JU,zQ (show p.length<=n by lia),hZ,v8 ∅]at this;rw[this];unfold adW;congr 2;lia
   rw[u,ltX_app];exact i
  .refine ltX_lenF ?_;rw[cQ,adW_len];lia
theorem chain_least0{n:Nat}(b:1<=n){a:List Tx}{t:Tx}(h:a.Sublist (aX t n)):cf t (chain [] a)=aj:=by
 cases a with
 |nil=>
  unfold chain cf;split
  .rename_i e;rw[j_]at e;rw[ka e];rfl
  .exact decide_eq_false (by simp)
 |cons w a=>
  obtain⟨q,r,e,d,f⟩:=sub_at b t h;have:=chain_least b a w r d f;rw[chain,adW_nil,e];have g:=ltX_le this;cases q with
  |nil=>rw[hZ,ltX_app];exact this
  |cons c q=>exact ltX_lenF (by simp;lia)
def leN:Nat->Tx->List Tx->Tx
 |0,_,_=>[]
 |n+1,a,l=>(o5 ((aQ (b_ l)).map λw=>adW a w++leN n w (l.erase w))).getD []
def LE(a:Tx)(l:List Tx):Tx:=leN l.length a l
theorem minX_some{l:List Tx}(h:l≠[]):∃x,o5 l=aa x/\x∈l/\∀y∈l,cf y x=aj:=by
 cases l with
 |nil=>exact absurd rfl h
 |cons b r=>obtain⟨c,a⟩:=GD r b;exact⟨_,rfl,c,a⟩
theorem LE_step{a:Tx}{l:List Tx}(h:l≠[]):∃w∈l,LE a l=adW a w++LE w (l.erase w)/\∀y∈l,cf (adW a y++LE y (l.erase y)) (LE a l)=aj:=by
 have c:∀w,w∈aQ (b_ l)↔w∈l:=λw=>by rw[(eQ _).mem_iff,mj]
 obtain⟨n,g⟩:∃n,l.length=n+1:=⟨l.length-1,by have:=List.length_pos_iff.mpr h;lia⟩
 have p:((aQ (b_ l)).map λw=>adW a w++leN n w (l.erase w))≠[]:=by
  intro z;rw[JI]at z;obtain⟨w,b⟩:=Dt l h;have:=(c w).mpr b;rw[z]at this;cases this
 have i:∀w∈l,leN n w (l.erase w)=LE w (l.erase w):=λw b=>by unfold LE;rw[pH b,g];rfl
 obtain⟨x,o,m,j⟩:=minX_some p;have e:LE a l=x:=by unfold LE;rw[g];show(o5 _).getD []=x;rw[o];rfl
 obtain⟨w,b,rfl⟩:=cx.mp m;have d:=(c w).mp b;refine⟨w,d,by rw[e,i w d],λy f=>?_⟩;rw[e,<-i y f];exact j _ (cx.mpr ⟨y,(c y).mpr f,rfl⟩)
theorem LE_chain:∀(m:Nat) (a:Tx) (l:List Tx),l.length=m->∃b:List Tx,b.Perm l/\LE a l=chain a b
 |0,a,l,h=>⟨[],by rw[ka h],by rw[ka h];rfl⟩
 |m+1,a,l,h=>by obtain⟨w,c,e,_⟩:=LE_step (a:=a) (l:=l) (by rintro rfl;simp at h);obtain⟨b,p,d⟩:=LE_chain m w (l.erase w) (by rw[pH c,h];rfl);exact⟨w::b,(p.cons w).trans (JT c).symm,by rw[e,d];rfl⟩
theorem LE_least:∀(m:Nat) (a:Tx) (l b:List Tx),l.length=m->b.Perm l->cf (chain a b) (LE a l)=aj
 |0,a,l,b,h,p=>by have:=ka h;subst this;rw[List.perm_nil.mp p];rfl
 |m+1,a,l,b,h,p=>by
  cases b with
  |nil=>have:=p.length_eq;simp at this;lia
  |cons w b=>
   have c:w∈l:=p.mem_iff.mp (by simp);obtain⟨_,_,_,f⟩:=LE_step (a:=a) (l:=l) (by rintro rfl;simp at h);have d:b.Perm (l.erase w):=by have:=p.erase w;rwa[List.erase_cons_head]at this
   have g:=LE_least m w (l.erase w) b (by rw[pH c,h];rfl) d;rw[chain];refine ltX_le_trans (f w c) ?_;rw[ltX_app];exact g
def short(ls:List Tx):Tx:=LE [] ls
theorem short_has{n:Nat}(b:1<=n){a:List Tx}(h:∀x∈a,x.length=n):Has n (short a) a:=by obtain⟨d,p,e⟩:=LE_chain _ [] a rfl;unfold short;rw[e];exact chain_has0 b (λx c=>h x (p.mem_iff.mp c)) p
theorem short_least{n:Nat}(c:1<=n){a:List Tx}{t:Tx}(h:Has n t a):cf t (short a)=aj:=by obtain⟨b,d,p⟩:=pick_sub _ _ h;exact ltX_le_trans (LE_least _ [] a b rfl p) (chain_least0 c d)
theorem LE_len{n:Nat}{a:Tx}{ls:List Tx}(h:∀x∈ls,x.length=n):(LE a ls).length<=ls.length*n:=by obtain⟨b,p,e⟩:=LE_chain _ a ls rfl;rw[e,<-p.length_eq];exact chain_len n b a λx c=>h x (p.mem_iff.mp c)
end Mx
namespace Sh
open L2 Pu Mx
section
variable{a:Ad}
def alB:ak->R aK:=(cE (dB (ko uy (dV 0) (ap (bV bZ (dV 1) (b9) (bT (dV 2))) (aC)))) (bY (bV bZ (dV 1) (bT (dV 2)) (b9))) (dD))
theorem al_one(t w:Tx)(k:Nat)(f:Slot):alB ([↥t,↥w,f].set 2 (⇑k))=.ok (if w.take k <:+ t then .ret (↥(w.drop k))else .next) [↥t,↥w,⇑k]:=by
 have c:bZ (.str w) ae (aa ((k:Nat):Int))=aa (.str (w.take k)):=by show aa (PV.str (eU w ae _))=_;rw[FV]
 have d:bZ (.str w) (aa ((k:Nat):Int)) ae=aa (.str (w.drop k)):=by show aa (PV.str (eU w _ ae))=_;rw[yg]
 have b:uy t [.str (w.take k)]=aa (.bl (decide (w.take k <:+ t))):=rfl;by_cases h:w.take k <:+ t
 .rw[if_pos h];rw[decide_eq_true h]at b;generalize w.take k=T at c b;generalize w.drop k=D at d;generalize ((k:Nat):Int)=KI at c d;simp![alB,ko,vg,bV,bT,b9,c,d,b]
 .rw[if_neg h];rw[decide_eq_false h]at b;generalize w.take k=T at c b;generalize ((k:Nat):Int)=KI at c;simp![alB,ko,vg,bV,bT,b9,c,b]
theorem al_loop(t w:Tx):∀(k:Nat) (b:Slot),∃c,iB 2 alB (mx ((k:Nat):Int) k) [↥t,↥w,b]=.ok (if ovD t w k=0 then .next else .ret (↥(w.drop (ovD t w k)))) [↥t,↥w,c]
 |0,b=>⟨b,rfl⟩
 |k+1,b=>by
  have e:mx (((k+1:Nat)):Int) (k+1)=.int ((k+1:Nat):Int)::mx ((k:Nat):Int) k:=by unfold mx;rw[v9,cu,dI];refine congr (congrArg List.cons (by simp)) (f_ λi _=>?_);show PV.int _=PV.int _;congr 1;lia
  have d:=al_one t w (k+1) b;rw[e,iB,d];unfold ovD;by_cases h:w.take (k+1) <:+ t
  .rw[if_pos h,if_pos h];exact⟨_,rfl⟩
  .rw[if_neg h,if_neg h];exact al_loop t w k _
theorem added_eq(t w:Tx)(o:1<=w.length)(p:w.length<=100):uN a [↥t,↥w]=.ok (↥(adW t w)) [↥t,↥w]:=by
 obtain⟨j,i⟩:=al_loop t w (w.length-1) .none;have l:bx [.str w]=aa (.int (w.length:Nat)):=by simp[bx]
 have d:iV (.int (w.length:Nat)) (.int 1)=aa (.int ((w.length-1:Nat):Int)):=by show aa (PV.int ((w.length:Int)-1))=_;congr 2;lia
 have f:uA [.int ((w.length-1:Nat):Int),.int 0,.int (-1)]=aa (mx ((w.length-1:Nat):Int) (w.length-1)):=by show(if(-1:Int)=-1/\(0:Int)<=1000000/\(-1000000:Int)<=0/\((w.length-1:Nat):Int)<=1000000/\-1000000<=((w.length-1:Nat):Int)then aa (mx ((w.length-1:Nat):Int) (((w.length-1:Nat):Int)-0).toNat)else ae)=_;rw[if_pos ⟨rfl,by decide,by decide,∅,∅⟩];congr 2
 have m:dP (.int 1)=aa (.int (-1)):=rfl;have g:ov t w=ovD t w (w.length-1):=rfl;have b:(λc=>dQ (et 2 (dL uA (ap (d2 iV (dL bx (ap (dV 1) (aC))) (dC (.int 1))) (ap (dC (.int 0)) (ap (d1 dP (dC (.int 1))) (aC))))) alB c)) [↥t,↥w,.none]=.ok (if ovD t w (w.length-1)=0 then .next else .ret (↥(w.drop (ovD t w (w.length-1))))) [↥t,↥w,j]:=by generalize (if ovD t w (w.length-1)=0 then aK.next else aK.ret (↥(w.drop (ovD t w (w.length-1)))))=FL at i;generalize mx ((w.length-1:Nat):Int) (w.length-1)=DW at i f;generalize ((w.length-1:Nat):Int)=W1 at d f;generalize ((w.length:Nat):Int)=W0 at l d;simp![dQ,et,l,d,m,f,i]
 have n:yan a [↥t,↥w,.none]=.ok (.ret (↥(adW t w))) [↥t,↥w,j]:=by
  show aR (λc=>dQ (et 2 _ alB c)) (bY (dV 1)) _=_;unfold adW;rw[g];by_cases h:ovD t w (w.length-1)=0
  .rw[if_pos h]at b;rw[h];exact(dO b).trans rfl
  .rw[if_neg h]at b;unfold aR;rw[b]
 simp[uN,bh,dX,bj,bK,n,back,eR,aE,R.bind]
theorem idx_txP{l:List Tx}{x:Tx}(h:x∈l):∃k,k<l.length/\nI (ao l) (.str x)=aa (.int k)/\l.take k++l.drop (k+1)=l.erase x:=by
 induction l with
 |nil=>cases h
 |cons y l i=>
  have g:∀b:List Tx,nI (ao b) (.str x)=((cO b).findIdx? λz=>dU z (tV x)).map λj=>PV.int (j:Nat):=λb=>by
   unfold nI;rw[N7];show Option.map (λj=>PV.int j) ((List.findIdx? (λz=>dU z (tV x)) (cO b)).bind λa=>aa (a:Int))=_;cases List.findIdx? (λz=>dU z (tV x)) (cO b) <;> rfl
  rw[g];show ∃k,k<(y::l).length/\((tV y::cO l).findIdx? λz=>dU z (tV x)).map (λj=>PV.int (j:Nat))=_/\_;rw[List.findIdx?_cons,TB];by_cases c:y=x
  .subst c;exact⟨0,by simp,by simp,by simp⟩
  .obtain⟨k,o,f,n⟩:=i ((bC.mp h).resolve_left λz=>c z.symm);rw[g]at f;refine⟨k+1,by simp;lia,?_,?_⟩
   .rw[decide_eq_false c];obtain⟨j,m,d⟩:=mF.mp f;have:j=k:=by injection d with d;exact Int.ofNat.inj d
    subst this;rw[m];rfl
   .rw[List.take_succ_cons,Ji,ke,n,List.erase_cons_tail (by simpa using c)]
theorem add1_tx(xs b:List Tx)(h:xs.length+b.length<=1000):rZ (.tup (ao xs)) (.tup (ao b))=aa (.tup (ao (xs++b))):=by
 cases xs with
 |nil=>rfl
 |cons x xs=>
  cases b with
  |nil=>show(if(ao xs).length<1000 then aa (PV.tup (.str x::ao xs))else ae)=_;rw[jg,if_pos (by simp at h;lia),f8];rfl
  |cons y b=>show(if(ao (x::xs)≠[]/\ao (y::b)≠[]/\(ao (x::xs)).length+(ao (y::b)).length<=1000)then aa (PV.tup (ao (x::xs)++ao (y::b)))else ae)=_;rw[if_pos ⟨by simp[ao],by simp[ao],by rw[jg,jg];exact h⟩,Ts]
theorem without_eq{l:List Tx}{x:Tx}(h:x∈l)(m:l.length<=100):uV a [.val (.tup (ao l)),↥x]=.ok (.val (.tup (ao (l.erase x)))) [.val (.tup (ao l)),↥x]:=by
 obtain⟨k,j,f,i⟩:=idx_txP h;have d:bZ (.tup (ao l)) ae (aa ((k:Nat):Int))=aa (.tup (ao (l.take k))):=by show(if HT.sIx (ao l).length 0 ae=0/\HT.sIx (ao l).length (ao l).length (aa ((k:Nat):Int))=(ao l).length then ae else aa (PV.tup (eU (ao l) ae (aa ((k:Nat):Int)))))=_;rw[if_neg (by rintro⟨_,z⟩;rw[HT.sIx_nat,jg]at z;lia),FV];simp[ao]
 have c:bZ (.tup (ao l)) (aa ((k+1:Nat):Int)) ae=aa (.tup (ao (l.drop (k+1)))):=by show(if HT.sIx (ao l).length 0 (aa ((k+1:Nat):Int))=0/\HT.sIx (ao l).length (ao l).length ae=(ao l).length then ae else aa (PV.tup (eU (ao l) (aa ((k+1:Nat):Int)) ae)))=_;rw[if_neg (by rintro⟨z,_⟩;rw[HT.sIx_nat,jg]at z;lia),yg];simp[ao]
 have g:rZ (.int k) (.int 1)=aa (.int ((k+1:Nat):Int)):=rfl;have b:=add1_tx (l.take k) (l.drop (k+1)) (by simp;lia);rw[i]at b;generalize ((k+1:Nat):Int)=K1 at c g;generalize ((k:Nat):Int)=K0 at d g f;generalize ao (l.take k)=P1 at d b;generalize ao (l.drop (k+1))=P2 at c b;generalize ao (l.erase x)=P3 at b;generalize ao l=PL at d c f;simp![uV,yaV,AC,bV,bT,b9,f,d,c,g,b]
end
end Sh
namespace Mx
open L2 Pu
theorem Hb{w:Nat}{a:List Tx}(b:1<=w)(d:1<=a.length)(f:∀x∈a,x.length=w/\∀c∈x,c∈bz):(eT w a).Nodup:=by rw[vn b d f];exact(GE _).filter _
theorem O8{w:Nat}{d:List Tx}(f:1<=w)(g:1<=d.length)(h:∀x∈d,x.length=w/\∀c∈x,c∈bz):(eT w d).Pairwise (λa b=>dw a b=ah):=by rw[vn f g h];exact(Eo _).filter _
theorem DQ{w:Nat}{d:List Tx}(f:1<=w)(i:1<=d.length)(j:∀x∈d,x.length=w/\∀c∈x,c∈bz)(h:d.Pairwise (λa b=>dw a b=ah)){z:Tx}(g:∀c∈z,c∈bz):z∈eT w d↔aQ (aX z w)=d:=by
 rw[vn f i j,k7,qA,List.isPerm_iff];constructor
 .rintro⟨_,p⟩;rw[Aq p,yO h]
 .intro e;have p:(aX z w).Perm d:=by rw[<-e];exact(eQ _).symm
  have l:=p.length_eq;rw[sZ f]at l;exact⟨⟨∅,g⟩,p⟩
theorem z_{w:Nat}{ls:List Tx}(a:1<=w)(b:1<=ls.length)(d:∀x∈ls,x.length=w/\∀c∈x,c∈bz){z:Tx}(h:z∈eT w ls):z.length=w-1+ls.length/\∀c∈z,c∈bz:=by rw[vn a b d,k7,qA]at h;exact h.1
end Mx
namespace Sh
open L2 Pu Mx
section
variable{a:Ad}
theorem sortSetTP_eq{k:List Tx}(h:k.length<=1000):qF [.tup (ao k)]=aa (.lst (ao (aQ (b_ k)))):=by show(e_ (ao k)).bind _=_;rw[p7,gG,if_pos];have:(b_ k).length<=k.length:=(QR k).length_le_of_subset λz b=>(mj _ _).mp b;lia
end
def TT:Nat->Nat
 |0=>0
 |m+1=>1+(m+1)*TT m
theorem TT_mono:∀{m n:Nat},m<=n->TT m<=TT n
 |m,0,h=>by rw[Nat.le_zero.mp h];exact a9 _
 |m,n+1,h=>by
  rcases Nat.lt_or_eq_of_le h with h|h
  .have:=TT_mono (Nat.le_of_lt_succ h);show TT m<=1+(n+1)*TT n;have a:TT n<=(n+1)*TT n:=Nat.le_mul_of_pos_left _ ∅;lia
  .rw[h];exact a9 _
def Kept(m:Nat)(a:List ((Tx×List Tx)×PV)):Prop:=∀p∈a,p.1.2.length<=m/\p.2=.str (LE p.1.1 p.1.2)
theorem Kept.app{m:Nat}{x y:List ((Tx×List Tx)×PV)}(c:Kept m x)(b:Kept m y):Kept m (x++y):=λp a=>(jr.mp a).elim (c p) (b p)
theorem Kept.mono{m n:Nat}{x:List ((Tx×List Tx)×PV)}(h:Kept m x)(b:m<=n):Kept n x:=λp a=>⟨cP (h p a).1 b,(h p a).2⟩
theorem valN_none{a:List ((Tx×List Tx)×PV)}{k:Tx×List Tx}(h:∀p∈a,p.1≠k):valN a k=ae:=by unfold valN;rw[JP.mpr λp b=>by simpa using h p b];rfl
theorem valN_app{x y:List ((Tx×List Tx)×PV)}{k:Tx×List Tx}(h:valN x k=ae):valN (x++y) k=valN y k:=by
 unfold valN at h ⊢;rw[List.find?_append];cases e:x.find? λa=>decide (a.1=k)with
 |none=>rfl
 |some p=>rw[e]at h;cases h
theorem valN_some{a:List ((Tx×List Tx)×PV)}{k:Tx×List Tx}{m:Nat}(h:Kept m a){v:PV}(e:valN a k=aa v):v=.str (LE k.1 k.2):=by unfold valN at e;obtain⟨p,c,rfl⟩:=mF.mp e;have d:=List.mem_of_find?_eq_some c;have b:=List.find?_some c;simp only[decide_eq_true_eq]at b;rw[(h p d).2,b]
section
variable{a:Ad}
def leB(a:Ad)(rc:ak->R Slot):ak->R aK:=(nB 3 (d2 bF (bn (aU (uN a) (gV (dV 0) (gV (dV 4) (Pu.bA))))) (bn (aU (rc) (gV (dV 4) (gV (bn (aU (uV a) (gV (dV 1) (gV (dV 4) (Pu.bA))))) (gO 2 (Pu.bA))))))))
theorem le_step{f:ak->R Slot}{t y:Tx}{l:List Tx}(p:y∈l)(x:l.length<=9)(n:1<=y.length)(s:y.length<=4){h g:List ((Tx×List Tx)×PV)}{r:Tx}(v:r.length<=100)(j:f [↥y,.val (.tup (ao (l.erase y))),.own (.dN h)]=.ok (↥r) [↥y,.val (.tup (ao (l.erase y))),.own (.dN g)]) (b:List Tx) (w:b.length<=100) (o:Slot):leB a f ([↥t,.val (.tup (ao l)),.own (.dN h),.own (.lst (ao b)),o].set 4 (↥y))=.ok .next [↥t,.val (.tup (ao l)),.own (.dN g),.own (.lst (ao (b++[adW t y++r]))),↥y]:=by
 have m:=added_eq (a:=a) t y n ∅;have d:=without_eq (a:=a) p ∅;have u:=adW_len t y;have c:bF (.str (adW t y)) (.str r)=aa (.str (adW t y++r)):=ya (by simp[bE];lia);have i:(ao b).length<bE:=by rw[jg];unfold bE;lia
 have q:ao (b++[adW t y++r])=ao b++[.str (adW t y++r)]:=by simp[ao]
 rw[q];generalize adW t y++r=AR at c;generalize adW t y=A1 at m c;generalize ao (l.erase y)=L2 at d j;generalize ao l=L1 at d;generalize ao b=ES at i;simp![leB,m,d,j,c,i]
theorem le_loop{rc:ak->R Slot}{t:Tx}{l:List Tx}{n:Nat}(u:1<=n)(s:n<=4)(p:∀x∈l,x.length=n)(D:l.length<=9){m:Nat}(N:l.length=m+1){f:List ((Tx×List Tx)×PV)}(B:Kept 9 f)(P:f.length+TT (m+1)<=900000)(w:∀(y:Tx) (o:List ((Tx×List Tx)×PV)),y∈l->Kept 9 o->o.length+TT m<=900000->∃more,Kept m more/\more.length<=TT m/\rc [↥y,.val (.tup (ao (l.erase y))),.own (.dN o)]=.ok (↥(LE y (l.erase y))) [↥y,.val (.tup (ao (l.erase y))),.own (.dN (o++more))]):∀(d:List Tx) (c:List Tx) (more:List ((Tx×List Tx)×PV)) (g:Slot),(∀y∈d,y∈l)->c.length+d.length<=l.length->Kept m more->more.length<=c.length*TT m -> ∃b r,Kept m b/\b.length<=(c.length+d.length)*TT m/\iB 4 (leB a rc) (ao d) [↥t,.val (.tup (ao l)),.own (.dN (f++more)),.own (.lst (ao c)),g]=.ok .next [↥t,.val (.tup (ao l)),.own (.dN (f++b)),.own (.lst (ao (c++d.map λy=>adW t y++LE y (l.erase y)))),r]
 |[],c,more,g,_,_,q,C=>⟨more,g,q,by simpa using C,by simp[iB,ao]⟩
 |y::d,c,more,g,i,T,q,C=>by
  have h:=i y (by simp);simp only[eh]at T;have F:(c.length+1)*TT m<=(m+1)*TT m:=Nat.mul_le_mul_right _ ∅;have X:TT (m+1)=1+(m+1)*TT m:=rfl;rw[CW]at F;obtain⟨I,K,W,O⟩:=w y (f++more) h (B.app (q.mono ∅)) (by rw[cQ];lia);have Y:=LE_len (n:=n) (a:=y) (ls:=l.erase y) λx M=>p x (List.mem_of_mem_erase M);have j:(LE y (l.erase y)).length<=100:=by
   have Q:(l.erase y).length<=9:=by rw[pH h];lia
   have:=zB Q s;lia
  have E:=le_step (a:=a) (t:=t) h D (by rw[p y h];exact u) (by rw[p y h];exact s) j O c ∅ g;rw[eN]at E;obtain⟨H,G,J,v,A⟩:=le_loop u s p D N B P w d (c++[adW t y++LE y (l.erase y)]) (more++I) (↥y) (λz L=>i z (by simp[L])) (by simp;lia) (q.app K) (by rw[cQ,cQ,pD,CW];lia);refine⟨H,G,J,by simp only[cQ,pD]at v;rw[eh,show c.length+(d.length+1)=c.length+1+d.length by lia];exact v,?_⟩;have S:ao (y::d)=.str y::ao d:=rfl;rw[S,iB,E];simp only[eN,ke,hZ,cu]at A ⊢;exact A
theorem le_eq:∀(k:Nat) (t:Tx) (l:List Tx) (b:List ((Tx×List Tx)×PV)) {n:Nat},1<=n->n<=4->(∀x∈l,x.length=n)->l.length<=9->l.length<k->Kept 9 b->b.length+TT l.length<=900000 -> ∃more,Kept l.length more/\more.length<=TT l.length/\lm a k [↥t,.val (.tup (ao l)),.own (.dN b)]=.ok (↥(LE t l)) [↥t,.val (.tup (ao l)),.own (.dN (b++more))]
 |0,t,l,b,n,_,_,_,_,h,_,_=>∅
 |k+1,t,l,b,n,n1,n4,hn,h9,hk,hK,hB=>by
  have q:bx [.tup (ao l)]=aa (.int (l.length:Nat)):=by simp[bx,jg]
  cases f:l.length with
  |zero=>
   have:=ka f;subst this;have e:Pu.eqT aj (.int 0) (.int 0)=aa (.bl ah):=rfl;refine⟨[],(λp c=>by cases c),by simp,?_⟩;have e2:LE t []=[]:=rfl;have L:bx [.tup (ao ([]:List Tx))]=aa (.int 0):=rfl;rw[e2,f8];generalize ao ([]:List Tx)=T0 at L;simp![lm,yaO,L,e]
  |succ m=>
   have bX:l≠[]:=by rintro rfl;simp at f
   have E:Pu.eqT aj (.int (l.length:Nat)) (.int 0)=aa (.bl aj):=by rw[lz,decide_eq_false ∅];rfl
   have g:ng (.tup [.str t,.tup (ao l)])=aa (t,l):=by show(e_ (ao l)).map _=_;rw[p7];rfl
   have O:bQ [.str t,.tup (ao l)]=aa (.tup [.str t,.tup (ao l)]):=rfl;cases j:valN b (t,l)with
   |some v=>
    have B:=valN_some hK j;subst B;refine⟨[],(λp c=>by cases c),by simp,?_⟩;rw[f8];generalize LE t l=LL at j;generalize ((l.length:Nat):Int)=NI at q E;generalize J:((t,l):Tx×List Tx)=KK at g j;generalize ao l=PL at q g O;simp![lm,yaO,q,E,qM,vH,jm,g,j]
   |none=>
    rw[f]at hB;have G:=sortSetTP_eq (k:=l) ∅;obtain⟨more,s,u,T,i⟩:=le_loop (a:=a) (rc:=lm a k) (t:=t) n1 n4 hn h9 f hK hB (λy u A gJ Q=>by
     have M:(l.erase y).length=m:=by rw[pH A,f];rfl
     have:=le_eq k y (l.erase y) u n1 n4 (λx X=>hn x (List.mem_of_mem_erase X)) ∅ ∅ gJ (by rw[M];exact Q);rw[M]at this;exact this) (aQ (b_ l)) [] [] .none (λy A=>(mj l y).mp ((eQ _).mem_iff.mp A)) (by
      rw[j_,oq,(eQ _).length_eq];exact BV l) (λp c=>by cases c) (by simp)
    rw[f8,hZ,show ao []=[] from rfl]at i;have hT:TT (m+1)=1+(m+1)*TT m:=rfl;have l6:more.length<=(m+1)*TT m:=by refine cP T (Nat.mul_le_mul_right _ ?_);rw[j_,oq,(eQ _).length_eq,<-f];exact BV l
    have D:valN (b++more) (t,l)=ae:=by rw[valN_app j];refine valN_none λp c z=>?_;have:=(u p c).1;rw[z,f]at this;lia
    have H:o5 ((aQ (b_ l)).map λy=>adW t y++LE y (l.erase y))=aa (LE t l):=by obtain⟨w,Y,e,S⟩:=LE_step (a:=t) bX;refine Hk (cx.mpr ⟨w,(eQ _).mem_iff.mpr ((mj l w).mpr Y),e.symm⟩) λy A=>?_;obtain⟨z,W,rfl⟩:=cx.mp A;exact S z ((mj l z).mp ((eQ _).mem_iff.mp W))
    have o:e_ (ao ((aQ (b_ l)).map λy=>adW t y++LE y (l.erase y)))=aa ((aQ (b_ l)).map λy=>adW t y++LE y (l.erase y)):=p7 _;refine⟨more++[((t,l),.str (LE t l))],?_,by rw[cQ,pD];lia,?_⟩
    .intro p c;rcases jr.mp c with c|c
     .exact⟨cP (u p c).1 ∅,(u p c).2⟩
     .rw[fu.mp c];exact⟨by rw[f];exact a9 _,rfl⟩
    .have K:gY (.lst (ao (aQ (b_ l))))=aa (ao (aQ (b_ l))):=rfl;have N:(b++more).length<bE:=by rw[cQ];unfold bE;lia
     have d:valN (b++(more++[((t,l),PV.str (LE t l))])) (t,l)=aa (.str (LE t l)):=by rw[<-eN,valN_app D];simp[valN]
     have r:(b++more)++[((t,l),PV.str (LE t l))]=b++(more++[((t,l),PV.str (LE t l))]):=eN ..;generalize b++(more++[((t,l),PV.str (LE t l))])=KF at d r;generalize b++more=K2 at i D N r;generalize LE t l=LL at H d r;generalize ((aQ (b_ l)).map λy=>adW t y++LE y (l.erase y))=EN at i H o;generalize ao EN=PE at i o;generalize ((l.length:Nat):Int)=NI at q E;generalize J:((t,l):Tx×List Tx)=KK at g j D d r;generalize ao (aQ (b_ l))=SL at i G K;generalize ao l=PL at q g O G i;have P:(λF=>dQ (et 4 (bP (dF (dL qF (ap (dV 1) (aC))))) (leB a (lm a k)) F)) [↥t,.val (.tup PL),.own (.dN b),.own (.lst []),.none]=.ok .next [↥t,.val (.tup PL),.own (.dN K2),.own (.lst PE),s]:=by simp![dQ,et,bP,G,K,i]
     have C:vr 2 (dL bQ (ap (dV 0) (ap (dV 1) (aC)))) (sA 3) [↥t,.val (.tup PL),.own (.dN K2),.own (.lst PE),s]=.ok .next [↥t,.val (.tup PL),.own (.dN KF),.own (.lst PE),s]:=by simp![vr,sA,jm,o,H,g,N,D,r]
     have I:(cE (dB (qM ah 2 (dL bQ (ap (dV 0) (ap (dV 1) (aC)))))) (aR (eY 3 (dL fj (aC))) (aR (λF=>dQ (et 4 (bP (dF (dL qF (ap (dV 1) (aC))))) (leB a (lm a k)) F)) (vr 2 (dL bQ (ap (dV 0) (ap (dV 1) (aC)))) (sA 3)))) (dD)) [↥t,.val (.tup PL),.own (.dN b),.none,.none]=.ok .next [↥t,.val (.tup PL),.own (.dN KF),.own (.lst PE),s]:=by
      have h1:(dB (qM ah 2 (dL bQ (ap (dV 0) (ap (dV 1) (aC)))))) [↥t,.val (.tup PL),.own (.dN b),.none,.none]=.ok ah [↥t,.val (.tup PL),.own (.dN b),.none,.none]:=by simp![qM,jm,g,j]
      have h2:(eY 3 (dL fj (aC))) [↥t,.val (.tup PL),.own (.dN b),.none,.none]=.ok .next [↥t,.val (.tup PL),.own (.dN b),.own (.lst []),.none]:=by simp![]
      unfold cE;rw[h1];simp only[R.bind_ok];exact(dO h2).trans ((dO P).trans C)
     have Z:yaO a (lm a k) [↥t,.val (.tup PL),.own (.dN b),.none,.none]=.ok (.ret (↥LL)) [↥t,.val (.tup PL),.own (.dN KF),.own (.lst PE),s]:=by unfold yaO;refine(dO (ε1:=[↥t,.val (.tup PL),.own (.dN b),.none,.none]) (by simp![q,E])).trans ?_;refine(dO I).trans ?_;simp![vH,jm,g,d]
     simp[lm,bh,dX,bj,bK,Z,back,eR,aE,R.bind,lj]
theorem short_eq{w:Nat}{ls:List Tx}(g:Good bz w ls)(h:1<=w)(f:w<=4)(l:ls.Pairwise (λa b=>dw a b=ah)):vh a [.val (aW w ls)]=.ok (↥(short ls)) [.val (aW w ls)]:=by
 have i:jC a [.val (aW w ls)]=.ok (.val .non) [.val (aW w ls)]:=vm (a:=a) (g.vw h f l);have j:=g.few;have n:TT ls.length<=623530:=cP (TT_mono j) (by decide);obtain⟨more,_,_,c⟩:=le_eq (a:=a) 10 [] ls [] h f g.len j ∅ (λp m=>by cases m) (by simp;lia);have d:bG (aW w ls) (.int 1)=aa (.tup (ao ls)):=rfl;rw[hZ]at c;have e:LE [] ls=short ls:=rfl;rw[e]at c;generalize short ls=SH at c;generalize ao ls=PL at c d;generalize aW w ls=V at i d;simp![vh,yaR,i,pR,nA,gN,BR,A5,d,c]
end
structure Sym(f g:Tx->Tx):Prop where
 len:∀t,(f t).length=t.length
 abc:∀t,(∀c∈t,c∈bz)->∀c∈f t,c∈bz
 win:∀t w,1<=w->(aX (f t) w).Perm ((aX t w).map f)
 inv:∀t,g (f t)=t
section
variable{f g:Tx->Tx}
theorem Sym.inj(s:Sym f g){x y:Tx}(h:f x=f y):x=y:=by rw[<-s.inv x,h,s.inv]
theorem map_back(s:Sym f g)(l:List Tx):(l.map f).map g=l:=by rw[dI];refine(f_ λx _=>?_).trans (List.map_id l);exact s.inv x
theorem Sym.covW(s:Sym f g){v:Nat}:∀ts:List Tx,(Sh.covW v (ts.map f)).Perm ((Sh.covW v ts).map f)
 |[]=>.refl _
 |t::ts=>by rw[cu,covW_cons,covW_cons,tX];exact(s.win t (v+1) ∅).append (s.covW ts)
theorem Sym.cov(s:Sym f g){v:Nat}{a N:List Tx}(h:Cov v a N):Cov v (a.map f) (N.map f):=by refine⟨λt c=>?_,(s.covW a).trans (h.perm.map f)⟩;obtain⟨u,b,rfl⟩:=cx.mp c;rw[s.len];exact h.long u b
theorem Sym.min(s:Sym f g)(j:Sym g f){v k:Nat}{ls M:List Tx}(b:M.Perm (ls.map f))(h:Min v ls k):Min v M k:=by obtain⟨i,m,c⟩:=h.ex;refine⟨⟨i.map f,by rw[cn,m],(s.cov c).long,(s.cov c).perm.trans b.symm⟩,λd l=>?_⟩;have a:=j.cov l;have:=h.low (d.map g) ⟨a.long,a.perm.trans (by have:=b.map g;rw[map_back s]at this;exact this)⟩;rwa[cn]at this
theorem Sym.good(s:Sym f g){w:Nat}{ls:List Tx}(h:Good bz w ls):Good bz w (aQ (ls.map f)):=by
 have c:Good bz w (ls.map f):=⟨λx b=>by
   obtain⟨y,a,rfl⟩:=cx.mp b;rw[s.len];exact h.len y a,λx b=>by
   obtain⟨y,a,rfl⟩:=cx.mp b;exact s.abc y (h.abc y a),by rw[cn];exact h.some,by rw[cn];exact h.few⟩
 exact c.perm (eQ _)
theorem Sym.back(s:Sym f g){ls:List Tx}(c:ls.Pairwise (λa b=>dw a b=ah)):aQ ((aQ (ls.map f)).map g)=ls:=by
 have:((aQ (ls.map f)).map g).Perm ls:=by have:=(eQ (ls.map f)).map g;rw[map_back s]at this;exact this
 rw[Aq this];exact yO c
theorem Sym.to(s:Sym f g){w:Nat}{d:List Tx}(h:Good bz w d)(j:1<=w)(p:d.Pairwise (λa b=>dw a b=ah)){z:Tx}(m:z∈eT w d):f z∈eT w (aQ (d.map f)):=by
 have n:∀x∈d,x.length=w/\∀c∈x,c∈bz:=λx i=>⟨h.len x i,h.abc x i⟩
 have l:=s.good h;have r:∀x∈aQ (d.map f),x.length=w/\∀c∈x,c∈bz:=λx i=>⟨l.len x i,l.abc x i⟩
 have o:=(z_ j h.some n m).2;have q:=(DQ j h.some n p o).mp m;refine(DQ j l.some r (o9 _) (s.abc z o)).mpr ?_;refine Aq ((s.win z w j).trans ?_);have:(aX z w).Perm d:=by rw[<-q];exact(eQ _).symm
 exact this.map f
theorem Sym.texts(s:Sym f g)(m:Sym g f){w:Nat}{ls:List Tx}(h:Good bz w ls)(d:1<=w)(n:ls.Pairwise (λa b=>dw a b=ah)):eT w (aQ (ls.map f))=aQ ((eT w ls).map f):=by
 have r:∀x∈ls,x.length=w/\∀c∈x,c∈bz:=λx i=>⟨h.len x i,h.abc x i⟩
 have j:=s.good h;have o:∀x∈aQ (ls.map f),x.length=w/\∀c∈x,c∈bz:=λx i=>⟨j.len x i,j.abc x i⟩
 refine sY ?_ (O8 d j.some o);refine(List.perm_ext_iff_of_nodup (Hb d j.some o) ?_).mpr λz=>?_
 .exact List.Pairwise.map f (λx y p e=>p (s.inj e)) (Hb d h.some r)
 .constructor
  .intro l;have:=m.to j d (o9 _) l;rw[s.back n]at this;exact cx.mpr ⟨g z,this,m.inv z⟩
  .intro l;obtain⟨y,q,rfl⟩:=cx.mp l;exact s.to h d n q
theorem Sym.has(s:Sym f g){w:Nat}(d:1<=w){t:Tx}{a M:List Tx}(j:M.Perm (a.map f))(h:Has w t a):Has w (f t) M:=λy=>by
 rw[j.count_eq,(s.win t w d).count_eq];by_cases c:y∈a.map f
 .obtain⟨x,m,rfl⟩:=cx.mp c;have e:∀l:List Tx,(l.map f).count (f x)=l.count x:=λl=>by
   induction l with
   |nil=>rfl
   |cons z l i=>
    rw[cu,List.count_cons,List.count_cons,i];congr 1;by_cases b:z=x
    .subst b;simp
    .have:f z≠f x:=λe=>b (s.inj e);simp[b,this]
  rw[e,e];exact h x
 .rw[List.count_eq_zero.mpr c];lia
theorem Sym.short(s:Sym f g)(b:Sym g f){w:Nat}{ls:List Tx}(h:Good bz w ls)(a:1<=w):(Mx.short (aQ (ls.map f))).length=(Mx.short ls).length:=by have i:=s.good h;have l:=s.has a (eQ (ls.map f)) (short_has a h.len);have j:Has w (g (Mx.short (aQ (ls.map f)))) ls:=b.has a (by have:=(eQ (ls.map f)).map g;rw[map_back s]at this;exact this.symm) (short_has a i.len);have d:=ltX_le (short_least a l);have c:=ltX_le (short_least a j);rw[s.len]at d;rw[b.len]at c;lia
end
section
variable{a:Ad}
theorem eqT_vs0(g:Bool)(w:Nat)(c f:List Tx):Pu.eqT g (aW w c) (aW w f)=aa (.bl (g^^decide (c=f))):=by
 have d:jj (aW w c)<=8:=by simp[aW,jj,jq,ER]
 have e:cT (aW w c) (aW w f)=aa (decide (c=f)):=by
  show(cT (.int w) (.int w)).bind (λa=>((cT (.tup (ao c)) (.tup (ao f))).bind (λa=>(aa ([]:List PV).isEmpty).map λb=>a&&b)).map λb=>a&&b)=_;have i:cT (.int w) (.int w)=aa ah:=by show aa ((w:Int) == w)=_;simp
  have h:cT (.tup (ao c)) (.tup (ao f))=aa (decide (c=f)):=by show ip _ _=_;rw[Ey]
  rw[i,h];simp
 show(if jj (aW w c)<=8 then(cT (aW w c) (aW w f)).map (λk=>PV.bl (g^^k))else ae)=_;rw[if_pos d,e];rfl
theorem eqT_vs(b:Bool)(w:Nat)(ls c:List Tx)(h:ls=c):Pu.eqT b (aW w ls) (aW w c)=aa (.bl (b^^ah)):=by rw[eqT_vs0,decide_eq_true h]
def mapV(f:Tx->Tx):PV->PV
 |.str t=>.str (f t)
 |v=>v
theorem map_txP(f:Tx->Tx)(b:List Tx):((ao b).filter λ_=>ah).map (mapV f)=ao (b.map f):=by rw[wm.mpr (λ_ _=>rfl)];unfold ao;rw[dI,dI];rfl
theorem comp_any{DI:ak->R (List PV)}{c:List Nat}{DT:ak->R Bool}{DE:ak->R PV}{b:ak}{xs d:List PV}(f:DI b=.ok xs b)(g:jF c DT DE xs [] b=.ok d b):dF (dG c DI DT DE) b=.ok (.lst d) b:=by simp[dF,dG,f,g,R.bind,oV,aE]
end
def rnF(L:Tx)(c:Nat):Nat:=if c=97 then L.getD 0 0 else if c=98 then L.getD 1 0 else if c=99 then L.getD 2 0 else c
def rnT(L t:Tx):Tx:=t.map (rnF L)
def lets:List (Tx×Tx):=[([97,98,99],[97,98,99]),([97,99,98],[97,99,98]),([98,97,99],[98,97,99]),([98,99,97],[99,97,98]),([99,97,98],[98,99,97]),([99,98,97],[99,98,97])]
theorem lets_in:∀p∈lets,p.1.length=3/\(∀c∈bz,rnF p.1 c∈bz)/\(∀c∈bz,rnF p.2 (rnF p.1 c)=c)/\(p.2,p.1)∈lets:=by decide
theorem rnF_off{L:Tx}{c:Nat}(h:c∉bz):rnF L c=c:=by unfold rnF;rw[if_neg (λz=>h (by rw[z];decide)),if_neg (λz=>h (by rw[z];decide)),if_neg (λz=>h (by rw[z];decide))]
theorem sym_ren{p:Tx×Tx}(b:p∈lets):Sym (rnT p.1) (rnT p.2):=by
 obtain⟨j,i,g,_⟩:=lets_in p b;refine⟨λt=>cn ..,λt h c a=>?_,λt w _=>?_,λt=>?_⟩
 .obtain⟨d,f,rfl⟩:=cx.mp a;exact i d (h d f)
 .unfold rnT;rw[Qe]
 .unfold rnT;rw[dI];refine(f_ λc _=>?_).trans (List.map_id t);show rnF p.2 (rnF p.1 c)=c;by_cases a:c∈bz
  .exact g c a
  .rw[rnF_off a,rnF_off a]
section
variable{a:Ad}
def rnE:ak->R PV:=(d2 bG (dV 1) (ko tf (dC (.str [97,98,99])) (ap (dV 0) (aC))))
theorem rnE_eq{L:Tx}(h:L.length=3){c:Nat}(f:c∈bz):rnE [.val (.str [c]),↥L]=.ok (.str [rnF L c]) [.val (.str [c]),↥L]:=by
 have b:tf [97,98,99] [.str [c]]=aa (.int ((c-97:Nat):Int)):=by
  show(if [97,98,99]=sk/\97<=c/\c<100 then aa (PV.int ((c-97:Nat):Int))else ae)=_;have:97<=c/\c<100:=by simp[bz]at f;lia
  rw[if_pos ⟨rfl,this⟩]
 have d:bG (.str L) (.int ((c-97:Nat):Int))=aa (.str [rnF L c]):=by
  obtain⟨x,y,z,rfl⟩:∃x y z,L=[x,y,z]:=by
   match L,h with
   |[x,y,z],_=>exact⟨x,y,z,rfl⟩
  simp[bz]at f;rcases f with rfl|rfl|rfl <;> rfl
 generalize ((c-97:Nat):Int)=CI at b d;generalize [rnF L c]=RC at d;have g:vg (.str [97,98,99])=aa [97,98,99]:=rfl;unfold rnE;generalize ([97,98,99]:Tx)=AB at b g ⊢;simp![ko,g,b,d]
def ones(t:Tx):List PV:=t.map λc=>.str [c]
def mapO(L:Tx):PV->PV
 |.str [c]=>.str [rnF L c]
 |v=>v
theorem ren_comp{L:Tx}(g:L.length=3){t:Tx}(d:∀c∈t,c∈bz):jF [1] eu rnE (ones t) [] [↥t,↥L]=.ok (ao ((rnT L t).map λc=>[c])) [↥t,↥L]:=by have:=oY (cap:=[1]) (dt:=eu) (de:=rnE) (ε:=[↥t,↥L]) (λ_=>ah) (mapO L) (ones t) (by intro v b;obtain⟨c,f,rfl⟩:=cx.mp b;refine⟨rfl,λ_=>?_⟩;have h:=rnE_eq g (d c f);show _=R.ok (PV.str [rnF L c]) _;generalize [rnF L c]=RC at h;generalize rnE=RE at h;simp![gi,gA,dq,h]) [];rw[hZ]at this;rw[this,wm.mpr (λ_ _=>rfl)];congr 1;unfold ones ao rnT;rw[dI,dI,dI];rfl
theorem items_str(t:Tx):gY (.str t)=aa (ones t):=rfl
theorem join_ok{t:Tx}(h:t.length<=100):sr [] [.lst (ao (t.map λc=>[c]))]=aa (.str t):=by
 show(e_ _).bind _=_;rw[p7];show(if k6 [] (t.map λc=>[c])<=bE then aa (PV.str (iK [] (t.map λc=>[c])))else ae)=_;have d:∀u:Tx,k6 [] (u.map λc=>[c])<=u.length+1:=λu=>by
  induction u with
  |nil=>simp[k6]
  |cons c u b=>simp[k6]at b ⊢;lia
 rw[if_pos (by have:=d t;unfold bE;lia),join_ones]
def renD:ak->R aK:=bY (ko sr (dC (.str [])) (ap (dF (dG [1] (bP (dV 0)) (eu) rnE)) (aC)))
theorem renD_eq{L:Tx}(j:L.length=3){t:Tx}(g:∀c∈t,c∈bz)(f:t.length<=100):renD [↥t,↥L]=.ok (.ret (↥(rnT L t))) [↥t,↥L]:=by
 have h:bP (dV 0) [↥t,↥L]=.ok (ones t) [↥t,↥L]:=by have:=items_str t;generalize ones t=OT at this;simp[bP,dV,this,R.bind,aE]
 have d:=comp_any h (ren_comp j g);have b:=join_ok (t:=rnT L t) (by unfold rnT;rw[cn];exact f);have i:vg (.str [])=aa []:=rfl;unfold renD;generalize ao ((rnT L t).map λc=>[c])=PT at d b;generalize rnT L t=RT at b;generalize (dF (dG [1] (bP (dV 0)) (eu) rnE))=DC at d;simp![ko,i,d,b]
theorem with_letters_eq{L:Tx}(f:L.length=3){t:Tx}(d:∀c∈t,c∈bz)(b:t.length<=100):qh a [↥t,↥L]=.ok (↥(rnT L t)) [↥t,↥L]:=by have h:=renD_eq f d b;have e:yaU a=renD:=rfl;unfold qh;rw[e];generalize renD=RD at h;generalize rnT L t=RT at h;simp[bh,dX,bj,bK,h,back,eR,aE,R.bind]
theorem rename_eq{L:Tx}(f:L.length=3){t:Tx}(d:∀c∈t,c∈bz)(b:t.length<=100):pZ a [↥t,↥L]=.ok (↥(rnT L t)) [↥t,↥L]:=by have h:=renD_eq f d b;have e:yaJ a=renD:=rfl;unfold pZ;rw[e];generalize renD=RD at h;generalize rnT L t=RT at h;simp[bh,dX,bj,bK,h,back,eR,aE,R.bind]
theorem blk_val{b:Type}{d:ak->R b}{x:PV}{ε:ak}{j:Nat}{y:PV}{r:b}(c:ε[j]?=aa (.val y))(f:d [.val x,.val y]=.ok r [.val x,.val y]):dq (gi [j] d x ε)=.ok r ε:=by simp[gi,gA,c,dq,R.bind,aE,cF,d_,f,eW,fi,fc]
theorem ren_map{G:ak->R Slot}{L:Tx}{j:Nat}{ε:ak}(b:ε[j]?=aa (↥L)){ls:List Tx}(g:∀t∈ls,G [↥t,↥L]=.ok (↥(rnT L t)) [↥t,↥L]):jF [j] eu (bn (aU G (gV (dV 0) (gV (dV 1) (Pu.bA))))) (ao ls) [] ε=.ok (ao (ls.map (rnT L))) ε:=by
 have:=oY (cap:=[j]) (dt:=eu) (de:=bn (aU G (gV (dV 0) (gV (dV 1) (Pu.bA))))) (ε:=ε) (λ_=>ah) (mapV (rnT L)) (ao ls) (by
  intro v c;obtain⟨t,f,rfl⟩:=cx.mp c;have h:bn (aU G (gV (dV 0) (gV (dV 1) (Pu.bA)))) [↥t,↥L]=.ok (.str (rnT L t)) [↥t,↥L]:=by have:=g t f;generalize rnT L t=RT at this;simp![this]
  exact⟨blk_val (d:=eu) b rfl,λ_=>blk_val b h⟩) []
 rw[hZ,map_txP]at this;exact this
def rtS(y:Tx):Bool:=decide (aQ (y.map λc=>[c])=[[97],[98],[99]])
def clD(a:Ad)(c:PV)(MS:PV):ak->R aK:=cE (iI (jY (dB (dL eF (ap (dV 0) (ap (dC (.raw (.ty "str"))) (aC)))))) (dB (d2 (Pu.eqT ah) (dF (dL uE (ap (dV 0) (aC)))) (dF (dL ur (ap (dC c) (aC))))))) (oW (.ref a.NoLetters) (λb=>dq ((dC MS) b))) (dD)
theorem clD_str{x g MS:PV}{PS PA:List PV}{B:Bool}(d:eF [x,.raw (.ty "str")]=aa (.bl ah))(b:uE [x]=aa (.lst PS))(c:ur [g]=aa (.lst PA))(f:Pu.eqT ah (.lst PS) (.lst PA)=aa (.bl (ah^^B))):clD a g MS [.val x]=if B=ah then .ok .next [.val x] else .er (.ref a.NoLetters) [.val x]:=by
 cases B with
 |true=>simp![clD,d,b,c,f]
 |false=>simp![clD,d,b,c,f,oW,dq]
theorem clD_no{x c MS:PV}(b:eF [x,.raw (.ty "str")]=aa (.bl aj)):clD a c MS [.val x]=.er (.ref a.NoLetters) [.val x]:=by simp![clD,b,oW,dq]
theorem grd_10n{d:ak->R aK}{x:PV}(h:d [.val x]=.ok .next [.val x]):bh 1 [] (bj 0 d) [.val x]=.ok (.val .non) [.val x]:=by simp[bh,dX,bj,bK,h,back,eR,aE,R.bind]
theorem grd_10e{d:ak->R aK}{x:PV}{c:ai}(h:d [.val x]=.er c [.val x]):bh 1 [] (bj 0 d) [.val x]=.er c [.val x]:=by simp[bh,dX,bj,bK,h,back,eR,aE,R.bind]
theorem cl_def:∃MS,pf a=bh 1 [] (bj 0 (clD a (.str [97,98,99]) MS)):=⟨_,rfl⟩
theorem chk_sort{y:Tx}(b:y.length<=100){MS:PV}:clD a (.str [97,98,99]) MS [↥y]=if rtS y=ah then .ok .next [↥y] else .er (.ref a.NoLetters) [↥y]:=by refine clD_str (PS:=ao (aQ (y.map λc=>[c]))) (PA:=ao [[97],[98],[99]]) (gE (t:="str") rfl (by decide +kernel)) ?_ rfl (Cj ah _ _);show(if y.length<=100000 then aa (PO.lst _)else ae)=_;rw[if_pos ∅]
theorem rtS_iff(y:Tx):rtS y=((y.map λc=>[c]).isPerm [[97],[98],[99]]):=by
 rw[lM,List.isPerm_iff];unfold rtS;rw[decide_eq_true_iff];constructor
 .intro h;rw[<-h];exact(eQ _).symm
 .intro h;exact(sY h.symm (by decide)).symm
theorem lets_right:∀p∈lets,p.1.length<=100/\rtS p.1=ah:=λp b=>by rw[rtS_iff];revert p;decide +kernel
theorem letters_yes{p:Tx×Tx}(b:p∈lets):pf a [↥p.1]=.ok (.val .non) [↥p.1]:=by obtain⟨MS,e⟩:=cl_def (a:=a);obtain⟨d,c⟩:=lets_right p b;rw[e];exact grd_10n (by rw[chk_sort d,if_pos c])
def wrongL:List PV:=[.str [97,97,98],.str [97,98],.str [97,98,99,97],.str [],.non,.int 3,.str [65,98,67],.str [97,98,100],.tup [.str [97],.str [98],.str [99]],.str [99,99,99],.str [97,98,32]]
theorem letters_no{x:PV}(c:x∈wrongL):pf a [.val x]=.er (.ref a.NoLetters) [.val x]:=by
 obtain⟨MS,e⟩:=cl_def (a:=a);rw[e];have b:∀y:Tx,y.length<=100->rtS y=aj->clD a (.str [97,98,99]) MS [↥y]=.er (.ref a.NoLetters) [↥y]:=λy f d=>by rw[chk_sort f,if_neg (by rw[d];decide)]
 refine grd_10e ?_;simp only[wrongL,bC,i6,or_false]at c;rcases c with rfl|rfl|rfl|rfl|rfl|rfl|rfl|rfl|rfl|rfl|rfl
 .exact b _ (by decide) (by rw[rtS_iff];decide +kernel)
 .exact b _ (by decide) (by rw[rtS_iff];decide +kernel)
 .exact b _ (by decide) (by rw[rtS_iff];decide +kernel)
 .exact b _ (by decide) (by rw[rtS_iff];decide +kernel)
 .exact clD_no (gE (t:="NoneType") rfl (by decide +kernel))
 .exact clD_no (gE (t:="int") rfl (by decide +kernel))
 .exact b _ (by decide) (by rw[rtS_iff];decide +kernel)
 .exact b _ (by decide) (by rw[rtS_iff];decide +kernel)
 .exact clD_no (gE (t:="tuple") rfl (by decide +kernel))
 .exact b _ (by decide) (by rw[rtS_iff];decide +kernel)
 .exact b _ (by decide) (by rw[rtS_iff];decide +kernel)
def rnB(a:Ad):ak->R aK:=(kM (aU (vL a) (gV (d2 bG (dV 0) (dC (.int 0))) (gV (dF (dG [1] (bP (d2 bG (dV 0) (dC (.int 1)))) (eu) (bn (aU (qh a) (gV (dV 0) (gV (dV 1) (Pu.bA))))))) (Pu.bA)))))
theorem rn_def:nk a=bh 2 [] (bj 0 (aR (jK (aU (jC a) (gV (dV 0) (Pu.bA)))) (aR (jK (aU (pf a) (gV (dV 1) (Pu.bA)))) (rnB a)))):=rfl
theorem rn_noV{x y:PV}(h:jC a [.val x]=.er (.ref a.NoView) [.val x]):nk a [.val x,.val y]=.er (.ref a.NoView) [.val x,.val y]:=by rw[rn_def];generalize rnB a=RB;simp![h]
theorem rn_noL{x y:PV}(h:jC a [.val x]=.ok (.val .non) [.val x])(b:pf a [.val y]=.er (.ref a.NoLetters) [.val y]):nk a [.val x,.val y]=.er (.ref a.NoLetters) [.val x,.val y]:=by rw[rn_def];generalize rnB a=RB;simp![h,b]
theorem rn_yes{x y z:PV}(h:jC a [.val x]=.ok (.val .non) [.val x])(c:pf a [.val y]=.ok (.val .non) [.val y])(b:rnB a [.val x,.val y]=.ok (.ret (.val z)) [.val x,.val y]):nk a [.val x,.val y]=.ok (.val z) [.val x,.val y]:=by rw[rn_def];generalize rnB a=RB at b;simp![h,c,b]
theorem renamed_eq{w:Nat}{ls:List Tx}(g:Good bz w ls)(n:1<=w)(m:w<=4)(o:ls.Pairwise (λa b=>dw a b=ah)){p:Tx×Tx}(l:p∈lets):nk a [.val (aW w ls),↥p.1]=.ok (.val (aW w (aQ (ls.map (rnT p.1))))) [.val (aW w ls),↥p.1]:=by
 refine rn_yes (vm (a:=a) (g.vw n m o)) (letters_yes l) ?_;have d:=R5 (a:=a) (w:=w) (ls:=ls.map (rnT p.1)) (by rw[cn];exact g.some) (by rw[cn];exact g.few);have h:bG (aW w ls) (.int 0)=aa (.int w):=rfl;have f:bG (aW w ls) (.int 1)=aa (.tup (ao ls)):=rfl;have i:gY (.tup (ao ls))=aa (ao ls):=rfl;have c:dF (dG [1] (bP (d2 bG (dV 0) (dC (.int 1)))) (eu) (bn (aU (qh a) (gV (dV 0) (gV (dV 1) (Pu.bA)))))) [.val (aW w ls),↥p.1]=.ok (.lst (ao (ls.map (rnT p.1)))) [.val (aW w ls),↥p.1]:=by refine comp_any (xs:=ao ls) ?_ (ren_map (L:=p.1) rfl λt j=>with_letters_eq (lets_in p l).1 (g.abc t j) (by rw[g.len t j];lia));generalize ao ls=PL at f i;generalize aW w ls=VV at f;simp![bP,f,i]
 unfold rnB;generalize aW w (aQ (ls.map (rnT p.1)))=V2 at d;generalize ao (ls.map (rnT p.1))=PM at d c;generalize (dF (dG [1] (bP (d2 bG (dV 0) (dC (.int 1)))) (eu) (bn (aU (qh a) (gV (dV 0) (gV (dV 1) (Pu.bA)))))))=DC at c;generalize PV.int w=WW at d h;generalize aW w ls=VV at h c;simp![h,c,d]
end
end Sh
namespace K36
open L2 Pu Mx Sh
section
variable{a:Ad}
def rf(n:Int):PV:=.tup [.str [114,101,102,117,115,101,100],.int n]
def Wh(a:Ad):Prop:=[nJ a [.val (.exc (.ref a.NoView))],nJ a [.val (.exc (.ref a.NoLetters))]]=[.ok (.val (rf 2)) [.val (.exc (.ref a.NoView))],.ok (.val (rf 9)) [.val (.exc (.ref a.NoLetters))]]
theorem Va(h:[nJ a [.val (.exc (.ref a.NoView))],nJ a [.val (.exc (.ref a.NoLetters))]]=[.ok (.val (rf 2)) [.val (.exc (.ref a.NoView))],.ok (.val (rf 9)) [.val (.exc (.ref a.NoLetters))]]):Wh a:=h
theorem TL(h:Wh a):nJ a [.val (.exc (.ref a.NoView))]=.ok (.val (rf 2)) [.val (.exc (.ref a.NoView))]/\nJ a [.val (.exc (.ref a.NoLetters))]=.ok (.val (rf 9)) [.val (.exc (.ref a.NoLetters))]:=by unfold Wh at h;simp only[zR,and_true]at h;exact h
theorem IJ{c:ag}{n:Int}{x y:PV}(d:m_ a (.ref c)=ah)(b:nJ a [.val (.exc (.ref c))]=.ok (.val (rf n)) [.val (.exc (.ref c))])(h:nk a [.val x,.val y]=.er (.ref c) [.val x,.val y]):vk a [.val x,.val y]=.ok (.val (rf n)) [.val x,.val y]:=by generalize rf n=Y at b;simp![vk,yaD,u_,yq,dq,h,d,b]
theorem IB{d e:ak->R Bool}{b:ak}(f:d b=.ok aj b)(c:e b=.ok aj b):cE (iI d e) (bY (dC (.bl aj))) dD b=.ok .next b:=by simp[cE,iI,f,c,R.bind,dD]
theorem sq{d e:ak->R PV}{b:ak}{x y:PV}(f:d b=.ok x b)(c:e b=.ok y b)(h:Pu.eqT ah x y=aa (.bl aj)):dB (d2 (Pu.eqT ah) d e) b=.ok aj b:=by simp[dB,d2,f,c,h,R.bind,aE,lj]
theorem su{G:ak->R Slot}{d:ak->R PV}{b:ak}{x y:PV}(h:d b=.ok x b)(c:G [.val x]=.ok (.val y) [.val x]):bn (aU G (gV d Pu.bA)) b=.ok y b:=by simp[bn,aU,gV,Pu.bA,h,c,R.bind,aE,eW,fc,cF,d_,fi,o_]
theorem GJ{G:ak->R Slot}{d:ak->R PV}{b:ak}{x:PV}{l:List PV}(h:d b=.ok x b)(c:G [.val x]=.ok (.own (.lst l)) [.val x]):bn (aU G (gV d Pu.bA)) b=.ok (.lst l) b:=by simp[bn,aU,gV,Pu.bA,h,c,R.bind,aE,eW,fc,cF,d_,fi,o_,oV]
theorem uD{f:List PV->Option α}{d:ak->R PV}{b:ak}{x:PV}{z:α}(h:d b=.ok x b)(c:f [x]=aa z):dL f (ap d aC) b=.ok z b:=by simp[dL,ap,aC,h,c,R.bind,aE]
theorem EZ{d:ak->R PO}{b:ak}{l:List PV}(h:d b=.ok (.lst l) b):dF d b=.ok (.lst l) b:=by simp[dF,h,R.bind,oV,aE]
theorem Ha{d:ak->R PV}{b:ak}{x:PV}{l:List PV}(h:d b=.ok x b)(c:gY x=aa l):bP d b=.ok l b:=by simp[bP,h,c,R.bind,aE]
theorem Go{d e:ak->R PV}{b:ak}{x y:PV}(h:d b=.ok x b)(c:e b=.ok y b):dL bQ (ap d (ap e aC)) b=.ok (.tup [x,y]) b:=by simp[dL,ap,aC,h,c,R.bind,aE,bQ]
theorem ym{f:PV->PV->Option PV}{d e:ak->R PV}{b:ak}{x y z:PV}(h:d b=.ok x b)(g:e b=.ok y b)(c:f x y=aa z):d2 f d e b=.ok z b:=by simp[d2,h,g,c,R.bind,aE]
theorem Hg{d:ak->R Bool}{b:ak}(c:d b=.ok aj b):cE d (bY (dC (.bl aj))) dD b=.ok .next b:=by simp[cE,c,R.bind,dD]
theorem D8{G:ak->R Slot}{d e:ak->R PV}{b:ak}{x y z:PV}(h:d b=.ok x b)(f:e b=.ok y b)(c:G [.val x,.val y]=.ok (.val z) [.val x,.val y]):bn (aU G (gV d (gV e Pu.bA))) b=.ok z b:=by simp[bn,aU,gV,Pu.bA,h,f,c,R.bind,aE,eW,fc,cF,d_,fi,o_]
theorem OQ(q:Wh a)(b:List Int):uC a [b0 b]=.ok (.val (.bl ah)) [b0 b]:=by
 obtain⟨q2,q9⟩:=TL q;have c2:m_ a (.ref a.NoView)=ah:=by simp[m_,iq]
 have c9:m_ a (.ref a.NoLetters)=ah:=by simp[m_,iq]
 obtain⟨sp,p0,p3,hd⟩:=qJ (a:=a) b [] 3 (by decide) (by simp);obtain⟨s,rfl⟩:∃s:Nat,sp=(s:Nat):=⟨sp.toNat,∅⟩
 obtain⟨x3,o,fh⟩:=yM (a:=a) b [.int 0] [.str [97,98,99],.str [97,99,98],.str [98,97,99],.str [98,99,97],.str [99,97,98],.str [99,98,97]] (by simp) (by simp);obtain⟨p,O,rfl⟩:∃p∈lets,x3=.str p.1:=by
  simp only[bC,i6,or_false]at o;rcases o with rfl|rfl|rfl|rfl|rfl|rfl
  .exact⟨([97,98,99],[97,98,99]),by decide,rfl⟩
  .exact⟨([97,99,98],[97,99,98]),by decide,rfl⟩
  .exact⟨([98,97,99],[98,97,99]),by decide,rfl⟩
  .exact⟨([98,99,97],[99,97,98]),by decide,rfl⟩
  .exact⟨([99,97,98],[98,99,97]),by decide,rfl⟩
  .exact⟨([99,98,97],[99,98,97]),by decide,rfl⟩
 obtain⟨d,J,gK⟩:=yM (a:=a) b [.int 0,.int 0] wrongL (by simp) (by decide);obtain⟨w,ls,f,h,i,_,g,m,h7,_,I,hv⟩:=Pt (a:=a) b [.int 0,.int 0,.int 0] s 7 ∅ (by decide) (by decide) (by simp);simp only[hZ,ke,eh,j_]at hd fh gK I;have G:uo a [b0 b,.own (.lst [.int 0,.int 0,.int 0]),⇑s,⇑7]=.ok (.val (aW w ls)) [b0 b,.own (.lst f),⇑s,⇑7]:=hv;obtain⟨x,hx,y1,hy1,B⟩:=Kl (a:=a) b f ∅;have J7:=IJ (y:=d) c2 q2 (rn_noV (a:=a) (KJ (a:=a) (Tl x hx)));have bg:=lets_in p O;have C:=sym_ren O;have l:Sym (rnT p.2) (rnT p.1):=sym_ren bg.2.2.2;have E:=C.good g;have D:=o9 (ls.map (rnT p.1));have X:=vm (a:=a) (g.vw h i m);have xj:=renamed_eq (a:=a) g h i m O;have UP:=IJ c9 q9 (rn_noL (a:=a) (x:=aW w ls) X (letters_no J));have N:=Ci (a:=a) g h i m;have M:=Ci (a:=a) E h i D;have P:=EG (a:=a) g h i m;have wE:=EG (a:=a) E h i D;have hT:=C.texts l g h m;have Z:(eT w (aQ (ls.map (rnT p.1)))).length=(eT w ls).length:=by rw[hT,(eQ _).length_eq,cn]
 have z:=short_eq (a:=a) g h i m;have v:=short_eq (a:=a) E h i D;have ul:=C.short l g h;obtain⟨k1,gJ,W⟩:=fewest_texts_eq (a:=a) g h i m;obtain⟨H,cK,T⟩:=fewest_texts_eq (a:=a) E h i D;have hk:H=k1:=cK.uniq (C.min l (eQ _) gJ);subst hk;have htl:=GX g h i;have r:∀y∈ls,y.length=w/\∀c∈y,c∈bz:=λy hy=>⟨g.len y hy,g.abc y hy⟩
 have S:bG (aW w ls) (.int 0)=aa (.int w):=rfl;have Q:bG (aW w ls) (.int 1)=aa (.tup (ao ls)):=rfl;have K:mn [.lst (ao (aQ (ls.map (rnT p.1))))]=aa (.tup (ao (aQ (ls.map (rnT p.1))))):=rfl;have li:bx [.str (short ls)]=aa (.int ((short ls).length:Nat)):=rfl;have jR:bx [.str (short (aQ (ls.map (rnT p.1))))]=aa (.int ((short (aQ (ls.map (rnT p.1)))).length:Nat)):=rfl;have z6:yaC a [b0 b,.none,.none,.none,.none,.none,.none]=.ok (.ret (.val (.bl ah))) [b0 b,.own (.lst y1),⇑s,↥p.1,.val d,.val (aW w ls),.val (aW w (aQ (ls.map (rnT p.1))))]:=by
  unfold yaC;refine(dO (ε1:=[b0 b,.own (.lst []),.none,.none,.none,.none,.none]) (by simp![])).trans ?_;refine(dO (ε1:=[b0 b,.own (.lst [.int 0]),⇑s,.none,.none,.none,.none]) (by simp![hd])).trans ?_;refine(dO (ε1:=[b0 b,.own (.lst [.int 0,.int 0]),⇑s,↥p.1,.none,.none,.none]) (by generalize p.1=P1 at fh;simp![fh])).trans ?_;refine(dO (ε1:=[b0 b,.own (.lst [.int 0,.int 0,.int 0]),⇑s,↥p.1,.val d,.none,.none]) (by have J8:=gK;unfold wrongL at J8;simp![J8])).trans ?_;refine(dO (ε1:=[b0 b,.own (.lst f),⇑s,↥p.1,.val d,.val (aW w ls),.none]) (by generalize aW w ls=V0 at G;generalize ((s:Nat):Int)=SP at G;simp![G])).trans ?_;have v3:dV 3 [b0 b,.own (.lst f),⇑s,↥p.1,.val d,.val (aW w ls),.none]=.ok (.str p.1) [b0 b,.own (.lst f),⇑s,↥p.1,.val d,.val (aW w ls),.none]:=rfl;have j:dV 5 [b0 b,.own (.lst f),⇑s,↥p.1,.val d,.val (aW w ls),.none]=.ok (aW w ls) [b0 b,.own (.lst f),⇑s,↥p.1,.val d,.val (aW w ls),.none]:=rfl;refine(dO (ε1:=[b0 b,.own (.lst f),⇑s,↥p.1,.val d,.val (aW w ls),.val (aW w (aQ (ls.map (rnT p.1))))]) (vp (D8 j v3 xj))).trans ?_;have v4:dV 4 [b0 b,.own (.lst f),⇑s,↥p.1,.val d,.val (aW w ls),.val (aW w (aQ (ls.map (rnT p.1))))]=.ok d [b0 b,.own (.lst f),⇑s,↥p.1,.val d,.val (aW w ls),.val (aW w (aQ (ls.map (rnT p.1))))]:=rfl;have j:dV 5 [b0 b,.own (.lst f),⇑s,↥p.1,.val d,.val (aW w ls),.val (aW w (aQ (ls.map (rnT p.1))))]=.ok (aW w ls) [b0 b,.own (.lst f),⇑s,↥p.1,.val d,.val (aW w ls),.val (aW w (aQ (ls.map (rnT p.1))))]:=rfl;have n:dV 6 [b0 b,.own (.lst f),⇑s,↥p.1,.val d,.val (aW w ls),.val (aW w (aQ (ls.map (rnT p.1))))]=.ok (aW w (aQ (ls.map (rnT p.1)))) [b0 b,.own (.lst f),⇑s,↥p.1,.val d,.val (aW w ls),.val (aW w (aQ (ls.map (rnT p.1))))]:=rfl;have F:∀(k:PV) (ε:ak),dC k ε=.ok k ε:=λ_ _=>rfl;have oM:jF [3] eu (bn (aU (pZ a) (gV (dV 0) (gV (dV 1) (Pu.bA))))) (ao ls) [] [b0 b,.own (.lst f),⇑s,↥p.1,.val d,.val (aW w ls),.val (aW w (aQ (ls.map (rnT p.1))))]=_:=ren_map (L:=p.1) rfl λt u=>rename_eq bg.1 (g.abc t u) (by rw[g.len t u];lia);have Y:jF [3] eu (bn (aU (pZ a) (gV (dV 0) (gV (dV 1) (Pu.bA))))) (ao (eT w ls)) [] [b0 b,.own (.lst f),⇑s,↥p.1,.val d,.val (aW w ls),.val (aW w (aQ (ls.map (rnT p.1))))]=_:=ren_map (L:=p.1) rfl λt u=>rename_eq bg.1 (z_ h g.some r u).2 (by have:=(z_ h g.some r u).1;lia);have oH:=uU (ls:=ls.map (rnT p.1)) (by rw[cn];have:=g.few;lia);have mT:=uU (ls:=(eT w ls).map (rnT p.1)) (by rw[cn];lia);have e1:Pu.eqT ah (.lst (ao (eT w (aQ (ls.map (rnT p.1)))))) (.lst (ao (aQ ((eT w ls).map (rnT p.1)))))=aa (.bl aj):=by rw[Cj,decide_eq_true hT];rfl
  have e2:Pu.eqT ah (.int ((eT w (aQ (ls.map (rnT p.1)))).length:Nat)) (.int ((eT w ls).length:Nat))=aa (.bl aj):=by rw[lz,Z,decide_eq_true rfl];rfl
  have e3:Pu.eqT ah (.int ((short (aQ (ls.map (rnT p.1)))).length:Nat)) (.int ((short ls).length:Nat))=aa (.bl aj):=by rw[lz,ul,decide_eq_true rfl];rfl
  have e4:Pu.eqT ah (.int H) (.int H)=aa (.bl aj):=by rw[lz,decide_eq_true rfl];rfl
  have e5:Pu.eqT ah (rf 9) (.tup [.str [114,101,102,117,115,101,100],.int 9])=aa (.bl aj):=rfl;refine(dO (Hg (sq n (Go (ym j (F _ _) S) (uD (EZ (uD (comp_any (Ha (ym j (F _ _) Q) rfl) oM) oH)) K)) (eqT_vs ah w _ _ rfl)))).trans ?_;refine(dO (Hg (sq (GJ n M) (EZ (uD (comp_any (Ha (GJ j N) rfl) Y) mT)) e1))).trans ?_;refine(dO (IB (sq (su n T) (su j W) e4) (sq (su n wE) (su j P) e2))).trans ?_;refine(dO (IB (sq (uD (su n v) jR) (uD (su j z) li) e3) (sq (D8 j v4 UP) (Go (F _ _) (F _ _)) e5))).trans ?_;have A:Pu.eqT aj (rf 2) (.tup [.str [114,101,102,117,115,101,100],.int 2])=aa (.bl ah):=rfl;generalize rf 2=Rf at J7 A;generalize aW w (aQ (ls.map (rnT p.1)))=V2;generalize aW w ls=V0;generalize PV.str p.1=P1;simp![B,J7,A]
 simp[uC,bh,dX,bj,bK,z6,back,eR,aE,R.bind]
end
open L2 Pu Sh
def vq(K:ay)(a:Ad):Bool:=pG K a.SlitError u7 "ValueError.__new__" && (iq a).all (λx=>pG K x u7 "ValueError.__new__" && subB K a.SlitError x&&ye K x&&(iq a).all (λd=>eV K (.ref x) (.ref d) == aa (x == d))&&eV K (.ref x) (.type "ValueError") == aa ah)&&z7 K&&decide (iq a).Nodup
section
variable{K:ay}{h g:aB}{i:Str->Option ai}{a:Ad}
theorem sw(h:vq K a=ah):pG K a.SlitError u7 "ValueError.__new__"=ah/\(∀x∈iq a,pG K x u7 "ValueError.__new__"=ah/\subB K a.SlitError x=ah/\ye K x=ah/\(∀d∈iq a,eV K (.ref x) (.ref d)=aa (x == d))/\eV K (.ref x) (.type "ValueError")=aa ah)/\z7 K=ah/\(iq a).Nodup:=by unfold vq at h;simp only[gn,q8,beq_iff_eq,decide_eq_true_eq]at h;obtain⟨⟨⟨l,c⟩,j⟩,f⟩:=h;exact⟨l,λx b=>⟨(c x b).1.1.1.1,(c x b).1.1.1.2,(c x b).1.1.2,(c x b).1.2,(c x b).2⟩,j,f⟩
theorem P_(h:vq K a=ah):AV K (jE a):=by
 obtain⟨_,l,_,_⟩:=sw h;intro c D b e;unfold jE at e;split at e
 .rename_i x d;split at e
  .rename_i f;rw[gn]at f;cases e;have j:x∈iq a:=by simpa using f.1
   have m:d∈iq a:=by simpa using f.2
   exact⟨x,.ref d,rfl,Fv (l x j).2.2.1,rfl,(l x j).2.2.2.1 d m⟩
  .cases e
 .rename_i x T;split at e
  .rename_i f;rw[gn]at f;cases e;have j:x∈iq a:=by simpa using f.1
   have n:T = "ValueError":=by simpa using f.2
   subst n;exact⟨x,.type "ValueError",rfl,Fv (l x j).2.2.1,rfl,(l x j).2.2.2.2⟩
  .cases e
 .cases e
theorem QU(X:K.In g)(h:vq K a=ah):∀c,m_ a c=ah->Under g a.SlitError c:=by
 obtain⟨_,d,_,_⟩:=sw h;intro c e;unfold m_ at e;split at e
 .rename_i x;have b:x∈iq a:=by simpa using e
  exact MH X (d x b).1 (d x b).2.1
 .cases e
structure Top(K:ay)(a:Ad):Prop where
 yaE:cW K "_law_cell_at" An
 yaG:cW K "_law_mixed" Aa
 yaF:cW K "_law_draw" Bn
 yaI:cW K "_law_pick" Cm
 yaK:cW K "_law_seen" xt
 yaL:cW K "_law_text" A7
 yaM:cW K "_law_view" AE
 yaz:cW K "is_whole_number" AM
 yaA:cW K "is_width" Cz
 yav:cW K "has_only" xO
 yaB:cW K "is_window" B7
 yao:cW K "are_windows" xS
 yay:cW K "is_view_with" B0
 yax:cW K "is_view" BC
 yaq:cW K "check_view" CA
 yap:cW K "check_letters" Bu
 yaT:cW K "view_of" AI
 yaU:cW K "with_letters" yt
 yaQ:cW K "renamed" yr
 yaJ:cW K "_law_rename" yA
 yam:cW K "add_endings" AX
 yar:cW K "counted" Ax
 yaS:cW K "texts" zh
 yaP:cW K "reached_pieces" Au
 yas:cW K "excesses" Af
 yat:cW K "fewest_for" yz
 yau:cW K "fewest_texts" u8
 yaw:cW K "how_many" Bc
 yaN:cW K "_law_which" A2
 yaD:cW K "_law_ask" AL
 yan:cW K "added_letters" A0
 yaV:cW K "without" Cg
 yaO:cW K "least_ending" AY
 yaR:cW K "shortest" BX
 yaH:cW K "_law_odd" Cw
 yaC:cW K "law" rW
 yaX:df K bU "ValueError"=aa ae
 yaY:df K bU "all"=aa ae
 yaZ:df K bU "any"=aa ae
 ya0:df K bU "bool"=aa ae
 ya1:df K bU "int"=aa ae
 ya2:df K bU "isinstance"=aa ae
 ya3:df K bU "len"=aa ae
 ya4:df K bU "list"=aa ae
 ya5:df K bU "max"=aa ae
 ya6:df K bU "min"=aa ae
 ya7:df K bU "range"=aa ae
 ya8:df K bU "set"=aa ae
 ya9:df K bU "sorted"=aa ae
 yba:df K bU "str"=aa ae
 ybb:df K bU "sum"=aa ae
 ybc:df K bU "tuple"=aa ae
 ybf:∃t,df K bU "LETTERS"=aa (aa (.str (tS [97,98,99]) t))
 ybg:∃t,df K bU "MOST_WINDOWS"=aa (aa (.int 9 t))
 ybh:∃t,df K bU "WIDEST"=aa (aa (.int 4 t))
 yak:df K bU "SlitError"=aa (aa (.ref a.SlitError))
 yaf:df K bU "NoText"=aa (aa (.ref a.NoText))
 yah:df K bU "NoWidth"=aa (aa (.ref a.NoWidth))
 yag:df K bU "NoView"=aa (aa (.ref a.NoView))
 yai:df K bU "NoWindow"=aa (aa (.ref a.NoWindow))
 yac:df K bU "Never"=aa (aa (.ref a.Never))
 yab:df K bU "Full"=aa (aa (.ref a.Full))
 yaj:df K bU "Nothing"=aa (aa (.ref a.Nothing))
 yal:df K bU "Unlike"=aa (aa (.ref a.Unlike))
 yae:df K bU "NoPlace"=aa (aa (.ref a.NoPlace))
 yad:df K bU "NoLetters"=aa (aa (.ref a.NoLetters))
 yaa:df K bU "BadText"=aa (aa (.ref a.BadText))
 ck:vq K a=ah
 z_least_ending:lJ K "least_ending"=aa (281,277)/\zx K 281 277=ah/\K.lookup 277=ae
 wh:Wh a
theorem MR(T:Top K a)(X:K.In g)(G:g.Ns bU i):cY K i g a where
 yaE:=T.yaE.at X G
 yaG:=T.yaG.at X G
 yaF:=T.yaF.at X G
 yaI:=T.yaI.at X G
 yaK:=T.yaK.at X G
 yaL:=T.yaL.at X G
 yaM:=T.yaM.at X G
 yaz:=T.yaz.at X G
 yaA:=T.yaA.at X G
 yav:=T.yav.at X G
 yaB:=T.yaB.at X G
 yao:=T.yao.at X G
 yay:=T.yay.at X G
 yax:=T.yax.at X G
 yaq:=T.yaq.at X G
 yap:=T.yap.at X G
 yaT:=T.yaT.at X G
 yaU:=T.yaU.at X G
 yaQ:=T.yaQ.at X G
 yaJ:=T.yaJ.at X G
 yam:=T.yam.at X G
 yar:=T.yar.at X G
 yaS:=T.yaS.at X G
 yaP:=T.yaP.at X G
 yas:=T.yas.at X G
 yat:=T.yat.at X G
 yau:=T.yau.at X G
 yaw:=T.yaw.at X G
 yaN:=T.yaN.at X G
 yaD:=T.yaD.at X G
 yan:=T.yan.at X G
 yaV:=T.yaV.at X G
 yaO:=T.yaO.at X G
 yaR:=T.yaR.at X G
 yaH:=T.yaH.at X G
 yaC:=T.yaC.at X G
 yaX:=jP X G T.yaX
 yaY:=jP X G T.yaY
 yaZ:=jP X G T.yaZ
 ya0:=jP X G T.ya0
 ya1:=jP X G T.ya1
 ya2:=jP X G T.ya2
 ya3:=jP X G T.ya3
 ya4:=jP X G T.ya4
 ya5:=jP X G T.ya5
 ya6:=jP X G T.ya6
 ya7:=jP X G T.ya7
 ya8:=jP X G T.ya8
 ya9:=jP X G T.ya9
 yba:=jP X G T.yba
 ybb:=jP X G T.ybb
 ybc:=jP X G T.ybc
 ybf:=T.ybf.imp λ_ e=>h_ X G e
 ybg:=T.ybg.imp λ_ e=>h_ X G e
 ybh:=T.ybh.imp λ_ e=>h_ X G e
 yak:=h_ X G T.yak
 yaf:=h_ X G T.yaf
 yah:=h_ X G T.yah
 yag:=h_ X G T.yag
 yai:=h_ X G T.yai
 yac:=h_ X G T.yac
 yab:=h_ X G T.yab
 yaj:=h_ X G T.yaj
 yal:=h_ X G T.yal
 yae:=h_ X G T.yae
 yad:=h_ X G T.yad
 yaa:=h_ X G T.yaa
 ybe:=E2 X (h_ X G T.yag) ((sw T.ck).2.1 a.NoView (by simp[iq])).1
 ybd:=E2 X (h_ X G T.yad) ((sw T.ck).2.1 a.NoLetters (by simp[iq])).1
 err_SlitError:=Sj X (sw T.ck).1
 und:=QU X T.ck
 tab:=P_ T.ck
 yaW:=⟨_,_,QT X G T.z_least_ending.1 T.z_least_ending.2.1⟩
theorem N3{l:CZ}{w:aG}{d:ag}(X:K.In h)(G:h.Ns bU i)(b:i "law"=aa (.ref d))(T:Top K a):∃c:iD,(∀(s:am) (v:ai),BindsTo s c ⟨[v],[]⟩ [("_law_script",v)])/\∀g:aB,K.In g->g.Ns bU i->lq l.prog w K i g (cm l.prog w) 16 d c ["_law_script"] (bJ K (uC a)):=by
 obtain⟨f,oc,u,kV,x,t,A,z,y,r,o,n,m,j⟩:=T.yaC;have e:=b.symm.trans (h_ X G o);cases e;exact⟨_,λs v=>.of_eq rfl,λg p q=>O4 (MR T p q) (Hz n m j)⟩
theorem Nm{l:CZ}{q:aS}{j:List Str}{XP:(Str->Option ai)->aB->Prop}{p:aG->aB->Prop}{d:DefRec}{K:Params->ay}(y:l.most=aa 63)(u:d.params.defaults=[])(m:d.name = "law")(o:∀(w:aG) (h:aB),p w h->(K w.params).In h/\h.get? 277=aa (PySem.W.tabObj #[])) {a:Ad} (T:∀w:aG,Top (K w.params) a):PySem.W.WalkO q j XP p l.row.toRowW d [] (λf t=>PySem.call f t) :=
 L2.Vg (n:=63) (k:=16) (x:="_law_script") (K:=K) (CX:=λw=>cm l.prog w) (sp:=λw=>bJ (K w.params) (uC a)) y (by decide) u ⟨rfl,by decide,by decide⟩ (λw h Y=>⟨(o w h Y).1,λc P e=>by rw[(T w).z_least_ending.1]at e;cases e;exact⟨(T w).z_least_ending.2.1,(T w).z_least_ending.2.2,(o w h Y).2⟩⟩)
  (λw i E h B G r=>N3 B G (by rw[<-m];exact r) (T w))
  (λw H b v D _ A=>SQ (RQ (sw (T w).ck).2.2.1 A) (OQ (T w).wh v))
  (λw H s e C z=>by obtain⟨_,_,_,_,_,_,_,_,_,_,_,f⟩:=z;exact f)
theorem Vb{l:CZ}{q:aS}{b:List Str}{XP:(Str->Option ai)->aB->Prop}{j:aG->aB->Prop}{d:DefRec}{K:Params->ay}{yak yaf yah yag yai yac yab yaj yal yae yad yaa:ag}(o:l.most=aa 63)(n:d.params.defaults=[])(c:d.name = "law")(p:∀(w:aG) (h:aB),j w h->(K w.params).In h/\h.get? 277=aa (PySem.W.tabObj #[])) (T:∀w:aG,Top (K w.params) ⟨yak,yaf,yah,yag,yai,yac,yab,yaj,yal,yae,yad,yaa,0,0⟩):PySem.W.WalkO q b XP j l.row.toRowW d [] (λf m=>PySem.call f m):=Nm o n c p T
end
end K36
set_option genInjectivity false in
structure PySem.W.Fast:Prop where(tw892528233100878473 tw16943544303717871262 tw4228564657347772538 tw7623652273214382803 tw7999151094075224547 tw14978224141402942894 tw6512610136869270357 tw6380254454891803796 tw10950614386884520402 tw10834246466205536686 tw10842034899215441762 tw8350214028808226756 tw101887065382444323 tw17286245283830764349 tw74733765062434859 tw17748206618786617332 tw5220521357895461416 tw12229191564383037760 tw10334219620711756931 tw5975951278415125952 tw9253927006325330960 tw2690757517088543840 tw8147519858577983305 tw13847147016009898018 tw14276911665268416373 tw17058166777420833690 tw9219322547756646229 tw16309582508997846038 tw5222272753317047301 tw17194306145175695835 tw5770028861586810460 tw9377289602884753721 tw11235185840603069994 tw4896760593929783742 tw14052074416841904512 tw15064117384686045500 tw8801496532127880231 tw6770285488483798591 tw2156835164198387635 tw11087426382052095823 tw17746247662043023077 tw1181986595124286185 tw171571287236786406 tw2960408770611053366 tw573154044465798866 tw8579350286054381919 tw7448455525453984890 tw2247784679204880001 tw11674876791701539110 tw17272402464478359644 tw3344284524125690556 tw17337986947883664696 tw11646542510229461526 tw4820534592161536299 tw4239597265184266815 tw16069817044617778761 tw10517854298174454925 tw9836737381747383809 tw14992057328718688958 tw14300878102365967428 tw9702756657947701568 tw2045969242888851624 tw8264541795659603193 tw8476161402780704031 tw2160919549875985243 tw17742050924096954818 tw67750251341455571 tw14670385682188092070 tw765683475162430175 tw342353792850007048 tw5097593547040285130 tw1380762509008641861 tw12693110097711980944 tw16379802899358201886 tw2471751080039411322 tw13138460198910569950 tw16831906901065199557 tw18006616589512130891 tw9468433033377326701 tw934495625434293566 tw4812060435145360152 tw9078909054877444663 tw5064059177016388121 tw4480389587019424996 tw14923775602359332890 tw7557854903542227243 tw2155446085069956487 tw5029462967892141635 tw16277755370493422930 tw293754584386114805 tw8267764376863268032 tw9852657229723589677 tw3874148449090155073 tw80920543920420767 tw15665651447981992908 tw16883780946776188022 tw9833734075064106425 tw9924673566154494445 tw16548733611353461466 tw11137828489723223705 tw7373464690671088012 tw12959590157751934322 tw14180715914975141833 tw10096075072205654451 tw3177189443434472602 tw6095487417226584274 tw9661636289031929521 tw621411836814301826 tw13830459178665200283 tw1310741691193428789 tw9857198233299100422 tw14558899905663236298 tw11922517835630704459 tw728182548734407930 tw15295495824697096536 tw3674253888630267285 tw10537116339984644529 tw17951622949470046094 tw9204678165369027097 tw2371563827186096096 tw6552170080065277857 tw6233442543125824342 tw12859085361239636651 tw17708747356642696466 tw11392550734796841518 tw12597370183461915700 tw14578737149340752427 tw10192267768733264692 tw15722834138112336818 tw8888182285165483577 tw8622252836968839758 tw17514456081887815794 tw16454866759686846021 tw7321604356039598971 tw13017705636214835333 tw15196267571017009188 tw4129749658660260436 tw4916060879637731539 tw12538519035321823116 tw7061422701431242493 tw5689506051091791925 tw10789685421220774795 tw12379419885290234201 tw8088578994548898117 tw5720493509128014336 tw7333674248642019335 tw17974115476256554007 tw16275308508897378302 tw18216764120549822355 tw16321968950445609493 tw1685155068218909059 tw12823632179402973727 tw1089618938794344867 tw15516247629762900402 tw12574192186901120008 tw1942102689612973678 tw14577828490068700719 tw14561169764507178741 tw9471204346825626067 tw11836645882842861027 tw15932331879851307743 tw4555111414693753029 tw15302187660406846163 tw429644733004234045 tw11027916692585124036 tw16055513260671940489 tw10790571466329259425 tw13670607845960395938 tw3179503740617239262 tw17026718799576215918 tw7190228544465892017 tw9510933142123056202 tw5732637316702105527 tw8957775669558177298 tw14006291076795594599 tw18306735519905309923 tw5503532034508752356 tw11348673375914269235 tw14205792513664924847 tw15028810486956924384 tw7732521660743948124 tw18119330363903924767 tw2323555080652611590 tw11073412018638422209 tw16515593014505884602 tw18405251767998922684 tw3447910816699068775 tw16709728986385492833 tw16579275099149665261 tw7823386116843940260 tw11010096083049352226 tw5343517912306870848 tw8345916467028035711 tw15289612892386744307 tw10222098409509067679 tw13774183170741512380 tw3624793898139504154 tw90503173409330736 tw434201535515938048 tw15000064491632965509 tw6372240454498047720 tw8664946388787714529 tw6502293479533358561 tw16498085239927584779 tw6737990725218290683 tw2564395470233688018 tw9970161488852457237 tw688870819884140497 tw8961986022508713440 tw13130791449340014293 tw10737653272006626510 tw18224547954770562798 tw1692736775027602529 tw15271655425093221188 tw10338028590342644423 tw4120436287371809142 tw6655287233179760444 tw4585627226729096453 tw7381356387762514739 tw4277506499654958111 tw2964245535578248760 tw2557022750333220216 tw3241053623582063467 tw5676213075731473466 tw11953933497229177873 tw2509108641777806981 tw2107708761808860701 tw15791094377766309846 tw14550531502058757 tw15645839457953367447 tw10322875414731837710 tw857625761945259124 tw13216340247081545125 tw13459514561959316384 tw16880010119186744485 tw14482061880513616812 tw8693768546417361604 tw16941190982349384819 tw14134287329056366827 tw14170886866300624557 tw347519177908851325 tw18309419021354675869 tw8910110637361700040 tw11306520903622203996 tw503203996793974662 tw10288739259649439810 tw10103437994140302733 tw14491345069001195568 tw8940808727188628062 tw7277829530407024644 tw4866525105861387422 tw18240882736312739732 tw7927598811537765470 tw1902802649426312241 tw4696310467219680425 tw3831779459242420606 tw5031216663139404333 tw5787836532231690016 tw655164594340421907 tw17196731240286452107 tw11731046079952520963 tw170944431129850029 tw6768627543086864466 tw6883699451563338403 tw7573629365837521852 tw17037993527052664441 tw16414074509146269072 tw8479415834616692202 tw11587111768338907888 tw103296815638276265 tw7139421077087493706 tw10869251679300342600 tw2705439661218967080 tw13737810661759569551 tw4034550993374696407 tw8739919300821220894 tw4873745333705967937 tw6101286793749479597 tw16385945020988299931 tw2092363910311689604 tw3910179561603065107 tw9133321242982902604 tw7691135671628676330 tw13793824193870084625 tw11684023922318715989 tw10905630079883174566 tw3528391414672129309 tw6847669334422019435 tw7780986664474663815 tw3349777729683837717 tw12442278650992481642 tw17620885852069162527 tw16181645811597016413 tw6974540478770438856 tw17600416712549591039 tw6140204759267613467 tw2126897627253340742 tw17745524127113542720 tw6374209269013236514 tw12114627639433748505 tw7317331337624491616 tw11560930354038896983 tw18238946409988244054 tw10791565219544114348 tw16054414073825703755 tw805198216089751696 tw548855975570050973 tw13032659479302167228 tw4587547192352861974 tw13202096768557936334 tw17008100276148592130 tw653283688612337203 tw10850216291059531245 tw5734754331182745285 tw3216193265754737617 tw7281434677482789773 tw10358155556626258114 tw7899589416696076549 tw4536795166986116504 tw12582098378551184467 tw3239804215485733919 tw6237259153783054171 tw65191089438531887 tw6147001331590320955 tw1160149070082814341 tw10338253847047171987 tw17065392982396789425 tw6188548526976354574 tw7929962970955175228 tw8691296808915805637 tw1487752470246105548 tw10670005952581606655 tw6978231951112327934 tw379397134323107589 tw6461765761858629914 tw15449597811021853682 tw7966246910241017671 tw743268728247241612 tw2501781609668387630 tw7591178124024246104 tw1534206598031033194 tw11445204852371530842 tw18335094127375907873 tw3372435504155336312 tw4531360547583411658 tw15728925782702106472 tw2941885132490157393 tw5045905808128805618 tw2934979974695875752 tw1801925682559854882 tw1388115571723649834 tw17733194147580163435 tw3252930306534464592 tw11565356067316566720 tw10464344810872147234 tw4320715227339852126 tw3304267022578285901 tw11227524335194724133 tw5267866442990294437 tw7035651130695945427 tw2860502194405098411 tw3125548463615275114 tw10003337638001561139 tw16392160473957198659 tw14555028486860888086 tw953800146007904319 tw16122995346606485306 tw12636166671306287288 tw17213379399494922211 tw9450375891764177203 tw7497646111783923779 tw7806957618295945537 tw11843585095365195187 tw5214291395339385150 tw4413662689351539998 tw17781415900270000451 tw16126007047605641909 tw10235520612898603810 tw12138688871157985313 tw1862141392653383091 tw4871569999803106666 tw17915465042039188518 tw740735199112249038 tw3802853909710763094 tw1371133971183374636 tw6392917209291224736 tw2212250431989819831 tw2362824813993491915 tw7091278836067588337 tw5298257269659483572 tw15370794463637709418 tw7049557960423020847 tw17774808213343769530 tw13724425951084550267 tw226027136593372941 tw6559027292898241801:True)
open PySem PySem.W PyProof.Rows
set_option maxRecDepth 100000 in
set_option maxHeartbeats 0 in
theorem PySem.Challenge.cw_slitview_k36_whole_renamed_holds : PySem.Challenge.rw_slitview_k36_whole_renamed.Holds := by
 w_on; o_law; k_head; (case hw=>w_witness2)
 k_fill
 refine' K36.Vb (l:=PySem.Challenge.rw_slitview_k36_whole_renamed) rfl rfl rfl (fun w h Y=>⟨PySem.W.km_in_of Y,PySem.W.km_tabs_of Y _ (by simp)⟩) ?T
 case T =>
  intro w
  refine' { yaE:=?yaE,yaG:=?yaG,yaF:=?yaF,yaI:=?yaI,yaK:=?yaK,yaL:=?yaL,yaM:=?yaM,yaz:=?yaz,yaA:=?yaA,yav:=?yav,yaB:=?yaB,yao:=?yao,yay:=?yay,yax:=?yax,yaq:=?yaq,yap:=?yap,yaT:=?yaT,yaU:=?yaU,yaQ:=?yaQ,yaJ:=?yaJ,yam:=?yam,yar:=?yar,yaS:=?yaS,yaP:=?yaP,yas:=?yas,yat:=?yat,yau:=?yau,yaw:=?yaw,yaN:=?yaN,yaD:=?yaD,yan:=?yan,yaV:=?yaV,yaO:=?yaO,yaR:=?yaR,yaH:=?yaH,yaC:=?yaC,yaX:=?yaX,yaY:=?yaY,yaZ:=?yaZ,ya0:=?ya0,ya1:=?ya1,ya2:=?ya2,ya3:=?ya3,ya4:=?ya4,ya5:=?ya5,ya6:=?ya6,ya7:=?ya7,ya8:=?ya8,ya9:=?ya9,yba:=?yba,ybb:=?ybb,ybc:=?ybc,ybf:=?ybf,ybg:=?ybg,ybh:=?ybh,yak:=?yak,yaf:=?yaf,yah:=?yah,yag:=?yag,yai:=?yai,yac:=?yac,yab:=?yab,yaj:=?yaj,yal:=?yal,yae:=?yae,yad:=?yad,yaa:=?yaa,ck:=?ck,z_least_ending:=?z_least_ending,wh:=?wh }
  (case yak=>k_is)
  (case yaf=>k_is)
  (case yah=>k_is)
  (case yag=>k_is)
  (case yai=>k_is)
  (case yac=>k_is)
  (case yab=>k_is)
  (case yaj=>k_is)
  (case yal=>k_is)
  (case yae=>k_is)
  (case yad=>k_is)
  (case yaa=>k_is)
  (case yaE=>and_intros)
  (case yaG=>and_intros)
  (case yaF=>and_intros)
  (case yaI=>and_intros)
  (case yaK=>and_intros)
  (case yaL=>and_intros)
  (case yaM=>and_intros)
  (case yaz=>and_intros)
  (case yaA=>and_intros)
  (case yav=>and_intros)
  (case yaB=>and_intros)
  (case yao=>and_intros)
  (case yay=>and_intros)
  (case yax=>and_intros)
  (case yaq=>and_intros)
  (case yap=>and_intros)
  (case yaT=>and_intros)
  (case yaU=>and_intros)
  (case yaQ=>and_intros)
  (case yaJ=>and_intros)
  (case yam=>and_intros)
  (case yar=>and_intros)
  (case yaS=>and_intros)
  (case yaP=>and_intros)
  (case yas=>and_intros)
  (case yat=>and_intros)
  (case yau=>and_intros)
  (case yaw=>and_intros)
  (case yaN=>and_intros)
  (case yaD=>and_intros)
  (case yan=>and_intros)
  (case yaV=>and_intros)
  (case yaO=>and_intros)
  (case yaR=>and_intros)
  (case yaH=>and_intros)
  (case yaC=>and_intros)
  (case yaX=>k_is)
  (case yaY=>k_is)
  (case yaZ=>k_is)
  (case ya0=>k_is)
  (case ya1=>k_is)
  (case ya2=>k_is)
  (case ya3=>k_is)
  (case ya4=>k_is)
  (case ya5=>k_is)
  (case ya6=>k_is)
  (case ya7=>k_is)
  (case ya8=>k_is)
  (case ya9=>k_is)
  (case yba=>k_is)
  (case ybb=>k_is)
  (case ybc=>k_is)
  (case ybf=>refine' Pu.U6 ?e; (case e=>k_is))
  (case ybg=>refine' Pu.U_ ?e; (case e=>k_is))
  (case ybh=>refine' Pu.U_ ?e; (case e=>k_is))
  (case ck=>kernel_rfl)
  (case z_least_ending=>refine⟨?u1,?u2,?u3⟩; (case u1=>kernel_rfl); (case u2=>kernel_rfl); (case u3=>kernel_rfl))
  (case wh=>refine K36.Va ?_; kernel_rfl)
