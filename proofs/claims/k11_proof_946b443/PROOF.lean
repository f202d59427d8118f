import PyProof.Rows.All
import Wide.All
import OpenK.AllK
import Wide.FinOn
import Lean
import PyProof.EqAt
import PyProof.EqKinds
import PyProof.TupleCall
import KE.KIntText
import KE.KDictList
import KE.KDictSum
import PyProof.Rows.Range3
import PyProof.DictWalks
import KE.KMinKey
import KE.KSortTup
import PyProof.EnumStmt
import PyProof.EnumMake
import PyProof.EnumFor
import PyProof.Draws
import PyProof.Rows.TupDisplay
import PySem.Challenge.RW_slitview_k11_blurred_refused
noncomputable section
set_option compiler.extract_closed false
local macro_rules | `(∅) => `(by first | assumption | lia | omega)
set_option Elab.async false
set_option bootstrap.genMatcherCode false
set_option genSizeOf false
set_option linter.all false
set_option maxRecDepth 100000
local macro_rules | `(tactic| ac_nf) => `(tactic| exact ⟨rfl,rfl,rfl,by decide +kernel,rfl,by decide +kernel,by decide +kernel⟩)
open Option renaming some->aa,none->ae,bind_some->iR,map_eq_some_iff->jD,map_some->pD,bind_eq_some_iff->zQ,isSome_iff_exists->CI,getD_none->Jr,isSome_map->Ju,getD_some->J7
open PySem renaming Addr->ag,Value->ai,Shared->am,wpAny_bind->aq,wpAny->ar,model->ax,Expr->aB,Heap->aD,wpAny_pure->aG,World->aL,starEach->aR,Program->aV,Around->aX,eval->a6,Stmt->ba,sizeLine->bh,mainGlobals->b8,backTo->c7,rawInt->dq,wpAny_mono->dZ,Scope->d7,compareOp->eE,bootBuiltins->fe,Paired->fY,cellsFrom->fZ,FuncData->gi,bindArgs->gF,NameKind->gW,binaryOp->iy,sysModules->jY,swapsWith->jZ,wpAny_holding->j0,wpAny_newObj_type->j1,Keyword->kD,SetTable->kE,strKind->kF,sizeLine_eq->lR,mem_of_lookup->lV,wpAny_field->lW,wpAny_call_entry->lX,setField->l5,pyNext->mI,foldedSetIterable->mJ,codeAny->mK,wpAny_setField->mO,isTrue->nP,holding->nQ,pyIter->nR,IsPart->nV,attributeBase->nX,wpAny_rule->nZ,setNext->n0,wpAny_truthy_bool->pe,assign->pf,codeAny_mono->ph,builtinsNs->qL,behindInMarks->qN,getItem->qR,backToKw->qT,keywordEach->qU,call_meets->qV,newExc->qZ,tupleKind->tR,assignEach->tT,wpAny_passesOwn->tU,wpAny_loadPart'->tW,sliceBounds->tY,valueAt->t0,callerA->t4,DictEntry->t5,relayAll->t8,wpAny_setState_of->t9,wpAny_askSetting->ua,PassesOwn->vZ,wpAny_call->v4,wpAny_callSpecial?_slot->v7,lookup_relabel_local->wc,codeAny_builtin->wl,raiseNew->wm,pickOrder->wo,firstArgMember->wp,wpAny_execs_nil->zw,wpAny_Call_Name_kw->zy,typeIs_int->zA,setsByText->zK,wpAny_ite_split->zL,setFlight->zM,wpAny_execs_cons->CD,letOwnedTupleGo->CF,subscripted->CL,tupleKind_room_in1->CO,wpAny_newList->CW,plainId_quiet->CZ,wpAny_of_eq->C0,wpAny_attempt->C1,wpAny_pyIter_tuple->C8,excClassObj->C_,wpAny_typeNameOfWhole_keyiter->Dq,wpAny_typeNameOf_keyiter->Dr,noFill_tuple_add->Jm,wpAny_pyIter_list->Jx,checkBuiltinCall->JD,wpAny_pyIter_slot->JE,wpAny_isInstance->JF,wpAny_loadPart_at->JL,wpAny_dictEntries->JX
open Bool renaming true->ah,false->aj,false_ne_true->eF,and_eq_true->gG,eq_iff_iff->lQ,false_eq_true->l0,not_true->wx,true_and->zG,not_false->zT,or_eq_true->CV,false_xor->Dk,true_xor->Dv,eq_false_iff->JM,not_eq_true'->JO
open PySem.W renaming Frag->ay,nsIn->c8,kitOne->eQ,mg_of->gY,fnOf->je,mg_none_of->kG,kia_one->lT,keepIn->nU,excIn->pF,tabIn->qM,findIn->qP,InstAt->v3,codeIn->v6,mroIn->zx,callWith_K->CH,OpenLaw->CP,clsIn->Da,methodObj->Jf,specialIn->Jj,cellsFrom_some->Jl
open PyProof.Rows renaming wpS_bind->aP,wpS_pure->aY,pendingOf->bA,SortSt->bQ,StrsAre->eh,seqObj->f8,SortKind->gZ,wpS_mono->g7,wpS_forRange->g8,envOfC->jB,size_push'->jE,pairsOf->lu,wpS_get->l8,AllBare->nO,wpS_modify->n8,wpS_lift->ue,listUpdate_at->C3,callWith_type1->Jg,slot_tuple_getitem->UL
open Nat renaming le_refl->bd,ne_of_lt->cZ,le_trans->c0,lt_irrefl->fL,lt_of_lt_of_le->ix,lt_succ_of_lt->lr,le_of_lt->lO,zero_le->lY,le_of_eq->nY,lt_succ_self->n4,ne_of_gt->qO,mul_le_mul->qY,zero_add->ud,le_succ->wb,add_comm->zC,lt_of_le_of_lt->zE,lt_trans->CN,add_assoc->Dc,add_right_comm->JN,pow_le_pow_right->J5,eq_zero_or_pos->J9
open List renaming replicate->bu,mem_cons->bI,map_cons->cn,length_map->cz,size_toArray->cH,getElem?_eq_some_iff->cM,mem_map->cS,length_append->dS,range->dY,getElem?_set_ne->d8,map_map->et,length_cons->eG,getElem?_map->eR,getElem?_eq_getElem->fE,getElem?_set_self->fM,append_nil->fN,length_set->gn,append_assoc->gH,nil_append->gI,not_mem_nil->gX,mem_filter->jb,mem_append_right->jd,foldl_cons->jf,sum_cons->jg,getElem?_append_left->jC,mem_singleton->jF,map_congr_left->j2,mem_cons_of_mem->kA,mem_append->kB,nodup_cons->lj,find?_cons->ln,lookup_cons->lq,mem_cons_self->lP,length->lU,all_eq_true->lZ,any_eq_true->l_,length_drop->mL,any_cons->nW,getElem?_eq_none->n5,length_eq_zero_iff->og,filter_cons->oh,filter_eq_self->oj,mem_append_left->pc,length_take->pi,replicate_succ->pr,length_nil->pt,take_append_drop->pA,take_of_length_le->pB,dropLast->pG,getElem?_append_right->qQ,all_cons->qS,ext_getElem?->q8,mem_reverse->q_,flatMap_cons->re,flatten_cons->tZ,eq_nil_of_length_eq_zero->t6,drop_eq_getElem_cons->uc,filterMap_cons->vY,of_mem_zip->v5,length_singleton->v9,all_map->wd,range_succ->we,getElem_mem->wg,cons_append->wu,mem_flatMap->ww,mem_range->zv,mem_of_getElem?->zz,map_nil->zD,map_append->zF,pairwise_map->zH,getElem_of_mem->zP,filter_map->zR,flatMap_append->zS,exists_cons_of_ne_nil->zU,lookup->CQ,drop_append_of_le_length->CS,range_succ_eq_map->CT,toList_toArray->CU,foldl_append->CY,nodup_append->C4,getElem?_drop->C5,take_zero->C6,drop_length->C7,any_map->Dd,length_dropLast->De,getElem_drop->Df,getElem_take->Dg,singleton_append->Dh,drop_eq_nil_iff->Di,cons_lt_cons_iff->Dl,length_erase_of_mem->Ds,length_filter_le->Dt,count_append->Du,mem_map_of_mem->Dw,filter_congr->Dx,filter_filter->Dy,any_eq_false->Ji,lookup_append->Jw,length_range->Jy,getElem?_cons_succ->JH,pairwise_append->JP,pairwise_iff_getElem->JQ,reverse_append->JR,reverse_perm->JS,pairwise_reverse->JT,take_length->JU,getElem?_take->JV,map_snd_zip->JW,getElem?_of_mem->JY,flatMap_nil->JZ,take_append_of_le_length->J0,isEmpty_nil->J1,mem_of_mem_drop->J3,drop_of_length_le->J4,dropLast_eq_take->J8,perm_middle->Ka,findIdx?_eq_some_iff_getElem->UM,count_eq_zero_of_not_mem->UR
open PySem.Heap renaming get?_push_of_some->bK,lt_size->bN,get?_push_size->cG,SameBut->li,get?_update_self->mM,get?_update_other->pq,size_push->v_,get?_none_of_le->CC,get?_update_ne->JI,size_update->JK
open Option.some renaming inj->cY
open Ne renaming symm->dN
open False renaming elim->gm
open Array renaming length_toList->jc,toList_append->jG,getElem_extract->n9,getElem?_toList->pE,getElem?_eq_some_iff->qW,getElem?_eq_getElem->ub,toList_push->wj,perm_iff_toList_perm->Dj,toArray_toList->JB
open PySem.Obj renaming mapSeq->kC,mapFields->l7,data_mapFields->n6,isFreed_of_fields->wq,cls_mapFields->JJ
open Int renaming toNat_natCast->lm,emod_lt_of_pos->J2
open PySem.PassesOwn renaming never->lv
open PySem.Str renaming empty->lS,ofString->tX
open Iff renaming rfl->l6
open PyProof.Rows.KeyOrd renaming kle_of_klt->l9,kle_refl->mP,kle_trans->uf
open List.cons renaming injEq->n_
open PySem.Heap.SameBut renaming update->pC
open PySem.Paired renaming length->qK,snoc->CM
open List.Perm renaming refl->qX,append_left->zJ
open Function renaming comp->rf,comp_def->t7
open PySem.SetTable renaming grown->t_,below->UO
open PySem.Value renaming isStrOf->vX
open PySem.SeqAt renaming EqAt->v8
open PySem.Builtin.List renaming listTooLong->zB
open PySem.Around renaming under_plainId->zI
open Nat.succ renaming inj->zN
open Exists renaming elim->zO
open PySem.Calls renaming spliced_cons->CG,spliced_nil->Jk,callWith_builtin->Js,evalArgs_plain->Jt,call_function_entry->Jz
open PySem.Builtin.Slice renaming slicePlaces->CJ,sliceAdjust->Jq
open PySem.Builtin.Tuple renaming tupleExact->CK
open PySem.F renaming plainAttrs_list->C9,slot_int_rmul->Db,slot_tuple_iterator_next->Do,slot_dict_keyiterator_next->Dp,slot_tuple_add->Jn,entry_tuple_add->Jo,args_tuple_add_2->Jp,slot_dict_get->Jv,entry_dict_keyiterator_next->UP,args_dict_keyiterator_next_1->UQ
open PySem.Builtin.SmallTypes renaming nextOf->Dm
open PySem.Builtin.Str renaming occurrences->Jh
open PySem.Builtin renaming sorted->JA
open PyProof.Rows.F renaming plain_set_update_loop->JC,entry_set_update_loop->UN
open PySem.SetTable.below renaming go->JG
open Classical renaming byContradiction->J_
open PySem PySem.Spec PyProof.Rows
namespace L2
abbrev aF:=Sum Int Str
def sP:aF->ai->Bool
 |.inl k,v=>Value.isInt k v
 |.inr x,v=>vX x v
def Ur(w:aL):aF->Int
 |.inl k=>hashInt k
 |.inr x=>hashStr w x
theorem nE:∀{k:aF}{v:ai},sP k v=ah->(∃i t,k=Sum.inl i/\v=Value.int i t)\/(∃x t,k=Sum.inr x/\v=Value.str x t)
 |.inl i,v,h=>by obtain⟨t,e⟩:=Value.isInt_shape (k:=i) (v:=v) h;exact .inl ⟨i,t,rfl,e⟩
 |.inr x,v,h=>by obtain⟨t,e⟩:=Value.isStrOf_shape (x:=x) (v:=v) h;exact .inr ⟨x,t,rfl,e⟩
theorem Lw(i:Int)(t:Tok):sP (.inl i) (.int i t)=ah:=by simp[sP,Value.isInt]
theorem Rt(x:Str)(t:Tok):sP (.inr x) (.str x t)=ah:=by simp[sP,vX]
theorem Tp(a b:Int):decide ((Sum.inl a:aF)=Sum.inl b)=(a == b):=by
 by_cases e:a=b
 .subst e;simp
 .have h:¬(Sum.inl a:aF)=Sum.inl b:=λq=>e (Sum.inl.inj q);rw[decide_eq_false h];exact(beq_eq_false_iff_ne.mpr e).symm
theorem TU(a b:Str):decide ((Sum.inr a:aF)=Sum.inr b)=decide (a=b):=by
 by_cases e:a=b
 .subst e;simp
 .have h:¬(Sum.inr a:aF)=Sum.inr b:=λq=>e (Sum.inr.inj q);rw[decide_eq_false h,decide_eq_false e]
theorem MK(a:Int)(b:Str):decide ((Sum.inl a:aF)=Sum.inr b)=aj:=decide_eq_false (λq=>nomatch q)
theorem M_(a:Str)(b:Int):decide ((Sum.inr a:aF)=Sum.inl b)=aj:=decide_eq_false (λq=>nomatch q)
def gA(c:aV)(w:aL):PySem.KeyKind c w aF where
 is:=sP
 hash:=Ur w
 inj:=λv a b l f=>by
  rcases nE l with⟨i,t,rfl,rfl⟩|⟨x,t,rfl,rfl⟩
  .rcases nE f with⟨j,u,rfl,e⟩|⟨y,u,rfl,e⟩
   .injection e with e1 _;rw[e1]
   .exact nomatch e
  .rcases nE f with⟨j,u,rfl,e⟩|⟨y,u,rfl,e⟩
   .exact nomatch e
   .injection e with e1 _;rw[e1]
 byValue:=λk v h=>by rcases nE h with⟨i,t,rfl,rfl⟩|⟨x,t,rfl,rfl⟩ <;> rfl
 pyHash:=λd h=>by
  rcases nE d with⟨i,t,rfl,rfl⟩|⟨x,t,rfl,rfl⟩
  .exact wpAny_pyHash_int h
  .exact wpAny_pyHash_str h
 eqBool:=λg d h=>by
  rcases nE g with⟨i,t,rfl,rfl⟩|⟨x,t,rfl,rfl⟩
  .rcases nE d with⟨j,u,rfl,rfl⟩|⟨y,u,rfl,rfl⟩
   .rw[Tp]at h;exact wpAny_eqBool_int h
   .rw[MK]at h;exact SeqAt.EqAt.int_str i t y u _ _ _ _ h
  .rcases nE d with⟨j,u,rfl,rfl⟩|⟨y,u,rfl,rfl⟩
   .rw[M_]at h;exact SeqAt.EqAt.str_int x t j u _ _ _ _ h
   .rw[TU]at h;exact wpAny_eqBool_str h
 «strs»:=λk x t v h=>by
  rcases nE h with⟨i,u,rfl,e⟩|⟨y,u,rfl,e⟩
  .exact nomatch e
  .injection e with e1 _;subst e1;cases v <;> rfl
theorem KZ(a:aV)(w:aL)(i:Int)(t:Tok):(gA a w).is (.inl i) (.int i t)=ah:=Lw i t
theorem Na(a:aV)(w:aL)(x:Str)(t:Tok):(gA a w).is (.inr x) (.str x t)=ah:=Rt x t
inductive V where
 |non|bl (b:Bool)|int (i:Int)|str (x:Str)|byt (b:Array UInt8)|flt (b:UInt64)|ref (a:ag)|ty (n:String)
 deriving DecidableEq
def RelV:V->ai->Prop
 |.non,u=>u=Value.none
 |.bl b,u=>u=Value.bool b
 |.int i,u=>∃t,u=Value.int i t
 |.str x,u=>∃t,u=Value.str x t
 |.byt b,u=>∃t,u=Value.bytes b t
 |.flt b,u=>∃t,u=Value.float b t
 |.ref a,u=>u=Value.ref a
 |.ty n,u=>u=Value.type n
abbrev bx:List V->List ai->Prop:=fY RelV
theorem bx.length{xs:List V}{a:List ai}(r:bx xs a):xs.length=a.length:=qK r
theorem bx.get:∀{xs:List V}{a:List ai}{i:Nat}{x:V},bx xs a->xs[i]?=aa x->∃u,a[i]?=aa u/\RelV x u
 |_,_,_,_,.nil,e=>by simp at e
 |_,_,0,_,.cons r _,e=>by simp at e;subst e;exact⟨_,rfl,r⟩
 |_,_,i+1,x,.cons _ t,e=>by obtain⟨u,c,b⟩:=bx.get (i:=i) (x:=x) t (by simpa using e);exact⟨u,by simpa using c,b⟩
theorem bx.set{x:V}{u:ai}(r:RelV x u):∀{xs:List V}{a:List ai} (i:Nat),bx xs a->bx (xs.set i x) (a.set i u)
 |_,_,_,.nil=>.nil
 |_,_,0,.cons _ t=>.cons r t
 |_,_,i+1,.cons q t=>.cons q (bx.set r i t)
theorem bx.append{xs a:List V}{c b:List ai}(r:bx xs c)(s:bx a b):bx (xs++a) (c++b):=by
 unfold bx at r s ⊢
 induction r with
 |nil=>exact s
 |cons r _ g=>exact .cons r g
theorem bx.take:∀{xs:List V}{a:List ai} (n:Nat),bx xs a->bx (xs.take n) (a.take n)
 |_,_,0,_=>.nil
 |_,_,_+1,.nil=>.nil
 |_,_,n+1,.cons r t=>.cons r (bx.take n t)
theorem bx.drop:∀{xs:List V}{a:List ai} (n:Nat),bx xs a->bx (xs.drop n) (a.drop n)
 |_,_,0,r=>r
 |_,_,_+1,.nil=>.nil
 |_,_,n+1,.cons _ t=>bx.drop n t
def o_:Option V->Option ai->Prop
 |some v,aa u=>RelV v u
 |none,ae=>True
 |_,_=>False
def KV{a:Type}:List (a×V)->List (a×ai)->Prop:=fY λ(p:a×V) (q:a×ai)=>p.1=q.1/\RelV p.2 q.2
def kV:aF->V
 |.inl i=>.int i
 |.inr x=>.str x
inductive HO where
 |lst (xs:List V)
 |tup (xs:List V)
 |dK (kvs:List (aF×V))|dT (kvs:List (List aF×V))
 |set (S:Int->Bool) (n:Nat)
 |ins (C dx:ag) (fs:List (Str×V))
 |own (x:ag)
 |xd (fs:List (Str×V))
 |met (f x:ag)
 |rng (lo hi:Int)
 |frz (o:Obj) (u:HO)
 |tbl (q:Str)
 |ext (φ:aD->Prop)
abbrev Hp:=ag->Option HO
def upd(H:Hp)(a:ag)(o:HO):Hp:=λb=>if b=a then aa o else H b
theorem upd_same{H:Hp}{a:ag}{o:HO}:upd H a o a=aa o:=by unfold upd;rw[if_pos rfl]
theorem bj{H:Hp}{a b:ag}{o:HO}(h:b≠a):upd H a o b=H b:=by unfold upd;rw[if_neg h]
theorem xr{H:Hp}{a b:ag}{o u:HO}(h:H a=aa o)(h':H b=aa u)(d:o≠u):a≠b:=by intro e;subst e;rw[h]at h';exact d (cY h')
theorem ni{H:Hp}{a b:ag}{o:HO}(h:H a=aa o)(c:H b=ae):a≠b:=by
 intro e;subst e;rw[h]at c;cases c
def Jc(h:aD)(a:ag)(b:Array ai):Prop:=IsTup h a b/\∃o,h.get? a=aa o/\o.dict=ae
theorem Jc.new(h:aD)(its:Array ai):Jc (h.push {cls:=.type "tuple",data:=.seq its}) h.objs.size its:=⟨IsTup.new _ _,_,cG _ rfl,rfl⟩
section
variable(P:aV)(w:aL)
def cB(H:Hp)(h:aD)(a:ag):HO->Prop
 |.lst xs=>xs.length<=bh/\∃(d:List ai) (n:Nat),bx xs d/\h.get? a=aa {cls:=.type "list",data:=.seq d.toArray n}
 |.tup xs=>xs.length<=bh/\∃d:List ai,bx xs d/\Jc h a d.toArray
 |.dK b=>b.length<=bh/\(a == jY)=aj/\∃s,KV b s/\h.DictOf (gA P w) a s
 |.dT b=>b.length<=bh/\(a == jY)=aj/\∃xs:List (List aF×ag×ai),
   fY (λ(p:List aF×V) (q:List aF×ag×ai)=>p.1=q.1/\H q.2.1=aa (.tup (p.1.map kV))/\RelV p.2 q.2.2) b xs /\
   ∃o es ep,h.get? a=aa o/\o.ExactDict/\o.data=.dict es ep/\es.toList=xs.map (entryOfKey (tR (gA P w)))/\(xs.map (·.1)).Nodup
 |.set S n=>h.SetOf (intKind P w) a S n
 |.ins C i fs=>H i=aa (.own a)/\fs.length<=1000/\i≠a/\h.get? a=aa (PySem.W.instObj C i) /\
   ∃g,h.Ns1 i g/\(∀f,o_ (fs.lookup f) (g f))/\PySem.Within g (fs.map (·.1))
 |.own _=>∃o,h.get? a=aa o
 |.xd fs=>∃g,h.Ns1 a g/\∀f,o_ (fs.lookup f) (g f)
 |.rng A B=>∃t u v,h.get? a=aa {cls:=.type "range",data:=.fields #[.int A t,.int B u,.int 1 v]}
 |.frz o u=>h.get? a=aa o/\cB H h a u
 |.tbl q=>∃l:Array ai,h.get? a=aa {cls:=.none,data:=.fields l}/\TriplesOk l.toList/\∀m r,codeAmong m l.toList=aa r->∃c,r=.ref c/\H c=aa (.own a)/\h.CodeRec r q
 |.met f x=>h.get? a=aa (Jf (.ref f) (.ref x))
 |.ext j=>j h/\(∃o,h.get? a=aa o)/\∀z y:aD,j z->(∀o,z.get? a=aa o->y.get? a=aa o)->j y
def dG(H:Hp)(h:aD):Prop:=∀a o,H a=aa o->cB P w H h a o
end
section
variable{P:aV}{w:aL}{H i:Hp}{h h':aD}{a:ag}{o:HO}
theorem cB.lt(x:cB P w H h a o):a<h.objs.size:=by
 cases o with
 |lst xs=>obtain⟨_,_,_,_,e⟩:=x;exact bN e
 |tup xs=>obtain⟨_,_,_,p,_⟩:=x;exact p.lt
 |dK b=>obtain⟨_,_,_,_,o,_,_,e,_⟩:=x;exact bN e
 |dT b=>obtain⟨_,_,_,_,o,_,_,e,_⟩:=x;exact bN e
 |set S n=>obtain⟨o,_,_,_,e,_⟩:=x;exact bN e
 |ins C l fs=>obtain⟨_,_,_,e,_⟩:=x;exact bN e
 |own y=>obtain⟨_,e⟩:=x;exact bN e
 |xd fs=>obtain⟨_,⟨_,_,_,e,_⟩,_⟩:=x;exact bN e
 |rng g j=>obtain⟨_,_,_,e⟩:=x;exact bN e
 |frz d u=>obtain⟨e,_⟩:=x;exact bN e
 |tbl q=>obtain⟨_,e,_⟩:=x;exact bN e
 |met f y=>exact bN (show h.get? a=aa _ from x)
 |ext c=>obtain⟨_,⟨_,e⟩,_⟩:=x;exact bN e
theorem Paired.mapP{l j:Type}{F G:l->j->Prop}{d:List l}{c:List j}(r:fY F d c)(f:∀a b,F a b->G a b):fY G d c:=by
 induction r with
 |nil=>exact .nil
 |cons r _ g=>exact .cons (f _ _ r) g
theorem cB.stay(x:cB P w H h a o)(k:∀b u,(b=a\/H b=aa (.own a))->h.get? b=aa u->h'.get? b=aa u)(J:∀b,H b=aa (.own a)->i b=aa (.own a)) (W:∀b xs,H b=aa (.tup xs)->i b=aa (.tup xs)):cB P w i h' a o:=by
 induction o with
 |lst xs=>obtain⟨z,s,n,r,e⟩:=x;exact⟨z,s,n,r,k _ _ (.inl rfl) e⟩
 |tup xs=>obtain⟨z,s,r,⟨j,e,c⟩,O,A,L⟩:=x;exact⟨z,s,r,⟨j,k _ _ (.inl rfl) e,c⟩,O,k _ _ (.inl rfl) A,L⟩
 |dK G=>obtain⟨z,y,B,r,j,l,m,e,c⟩:=x;exact⟨z,y,B,r,j,l,m,k _ _ (.inl rfl) e,c⟩
 |dT G=>obtain⟨z,y,xs,r,j,l,m,e,c⟩:=x;exact⟨z,y,xs,Paired.mapP r λp q z=>⟨z.1,W _ _ z.2.1,z.2.2⟩,j,l,m,k _ _ (.inl rfl) e,c⟩
 |set S n=>obtain⟨j,l,m,t,e,c⟩:=x;exact⟨j,l,m,t,k _ _ (.inl rfl) e,c⟩
 |ins C dx fs=>obtain⟨d,z,Q,e,F,⟨E,l,m,A,c⟩,r⟩:=x;exact⟨J _ d,z,Q,k _ _ (.inl rfl) e,F,⟨E,l,m,k _ _ (.inr d) A,c⟩,r⟩
 |own y=>obtain⟨j,e⟩:=x;exact⟨j,k _ _ (.inl rfl) e⟩
 |xd fs=>obtain⟨F,⟨E,l,m,e,c⟩,r⟩:=x;exact⟨F,⟨E,l,m,k _ _ (.inl rfl) e,c⟩,r⟩
 |rng lo hi=>obtain⟨t,u,v,e⟩:=x;exact⟨t,u,v,k _ _ (.inl rfl) e⟩
 |frz j u T=>obtain⟨e,q⟩:=x;exact⟨k _ _ (.inl rfl) e,T q⟩
 |tbl q=>
  obtain⟨N,e,t,g⟩:=x;refine⟨N,k a _ (.inl rfl) e,t,λD Z X=>?_⟩;obtain⟨c,rfl,K,L,o,B,M,A,Y,r⟩:=g D Z X;cases A;exact⟨c,rfl,J c K,c,o,B,M,rfl,k c _ (.inr K) Y,r⟩
 |met f y=>have e:h.get? a=aa (Jf (.ref f) (.ref y)):=x;show h'.get? a=aa (Jf (.ref f) (.ref y));exact k a _ (.inl rfl) e
 |ext φ=>obtain⟨p,⟨o,e⟩,I⟩:=x;exact⟨I _ _ p λo q=>k _ _ (.inl rfl) q,⟨o,k _ _ (.inl rfl) e⟩,I⟩
theorem dG.lt(x:dG P w H h)(e:H a=aa o):a<h.objs.size:=(x a o e).lt
theorem dG.fresh(x:dG P w H h)(e:h.objs.size<=a):H a=ae:=by
 cases q:H a with
 |none=>rfl
 |some u=>exact absurd (ix (x.lt q) e) (fL _)
theorem dG.kept(x:dG P w H h)(k:∀b u,h.get? b=aa u->h'.get? b=aa u):dG P w H h':=λa o e=>(x a o e).stay (λb u _ q=>k b u q) (λ_ q=>q) λ_ _ q=>q
theorem dG.laid(x:dG P w H h)(k:∀b u,h.get? b=aa u->h'.get? b=aa u)(g:h.objs.size<=a)(new:cB P w (upd H a o) h' a o):dG P w (upd H a o) h':=λb u e=>by
 have d:=x.fresh g;by_cases f:b=a
 .subst f;rw[upd_same]at e;cases e;exact new
 .rw[bj f]at e;exact(x b u e).stay (λc v _ q=>k c v q) (λc q=>by rw[bj (ni q d)];exact q) λc xs q=>by rw[bj (ni q d)];exact q
end
def Rd(H:Hp)(a:ag)(u:HO):Prop:=H a=aa u\/∃o,H a=aa (.frz o u)
theorem Rd.ok{P:aV}{w:aL}{H:Hp}{h:aD}{a:ag}{u:HO}(r:Rd H a u)(x:dG P w H h):cB P w H h a u:=by
 rcases r with r|⟨o,r⟩
 .exact x a u r
 .obtain⟨_,q⟩:=x a _ r;exact q
def u8:Option HO->Prop
 |some (.lst _)=>True
 |some (.dK _)=>True
 |some (.dT _)=>True
 |some (.set _ _)=>True
 |some (.ins _ _ _)=>True
 |some (.ext _)=>True
 |_=>False
section
variable{P:aV}{w:aL}{H:Hp}{h a:aD}{x e:ag}{d:HO}
theorem dG.write(ok:dG P w H h)(i:u8 (H x))(o:e=x\/H e=aa (.own x))(k:∀b u,b≠e->h.get? b=aa u->a.get? b=aa u)(p:∃u,a.get? e=aa u)(new:cB P w (upd H x d) a x d):dG P w (upd H x d) a:=λb u q=>by
 have f:∀c y,H c=aa (.own y)->c≠x:=λc y r z=>by subst z;rw[r]at i;exact i
 have g:∀c xs,H c=aa (.tup xs)->c≠x:=λc xs r z=>by subst z;rw[r]at i;exact i
 by_cases m:b=x
 .subst m;rw[upd_same]at q;cases q;exact new
 .rw[bj m]at q;by_cases j:b=e
  .have n:H b=aa (.own x):=by
    rcases o with z|z
    .exact absurd (j.trans z) m
    .rw[j];exact z
   rw[q]at n;cases n;obtain⟨v,s⟩:=p;exact⟨v,by rw[j];exact s⟩
  .refine(ok b u q).stay (λc v l r=>k c v ?_ r) (λc r=>by rw[bj (f c b r)];exact r) λc xs r=>by rw[bj (g c xs r)];exact r
   rcases l with rfl|l
   .exact j
   .rintro rfl;rcases o with z|z
    .exact f c b l z
    .rw[l]at z;cases z;exact m rfl
end
structure Un(fs ex:List ag)(H H':Hp)(h h':aD):Prop where
 keep:∀b o,h.get? b=aa o->H b=ae->b∉fs->b∉ex->h'.get? b=aa o
 slot:∀b o,h.get? b=aa o->H b=ae->b∈fs->b∉ex->∃sl,h'.get? b=aa {o with slots:=sl}
 free:∀b o,h.get? b=aa o->H b=ae->b∉ex->H' b=ae
 there:∀b o,h.get? b=aa o->b∉ex->∃o',h'.get? b=aa o'
 tups:∀b xs,H b=aa (.tup xs)->H' b=aa (.tup xs)
 frzs:∀b o u,H b=aa (.frz o u)->H' b=aa (.frz o u)
 tbls:∀b q,H b=aa (.tbl q)->H' b=aa (.tbl q)
section
variable{fs d ex f:List ag}{H g j:Hp}{h c i h':aD}{a x e:ag}{o:HO}
theorem Un.any(u:Un fs ex H g h c){b:ag}{l:Obj}(q:h.get? b=aa l)(n:H b=ae)(m:b∉ex):∃r,c.get? b=aa {l with slots:=r}:=by
 by_cases p:b∈fs
 .exact u.slot b l q n p m
 .exact⟨l.slots,u.keep b l q n p m⟩
theorem Un.kept(k:∀b u,h.get? b=aa u->h'.get? b=aa u):Un fs ex H H h h' :=⟨λb l q _ _ _=>k b l q,λb l q _ _ _=>⟨l.slots,k b l q⟩,λ_ _ _ n _=>n,λb l q _=>⟨l,k b l q⟩,λ_ _ q=>q,λ_ _ _ q=>q,λ_ _ q=>q⟩
theorem Un.refl:Un fs ex H H h h:=Un.kept λ_ _ q=>q
theorem Un.laid(k:∀b u,h.get? b=aa u->h'.get? b=aa u)(m:h.objs.size<=a)(l:H a=ae):Un fs ex H (upd H a o) h h' where
 keep:=λb u q _ _ _=>k b u q
 slot:=λb u q _ _ _=>⟨u.slots,k b u q⟩
 free:=λb u q n _=>by rw[bj (cZ (ix (bN q) m))];exact n
 there:=λb u q _=>⟨u,k b u q⟩
 tups:=λb xs q=>by rw[bj (ni q l)];exact q
 frzs:=λb u xs q=>by rw[bj (ni q l)];exact q
 tbls:=λb p q=>by rw[bj (ni q l)];exact q
theorem Un.write(l:u8 (H x))(A:e=x\/H e=aa (.own x))(k:∀b u,b≠e->h.get? b=aa u->h'.get? b=aa u)(w:∃u,h'.get? e=aa u):Un fs ex H (upd H x o) h h':=by
 have s:∀b,H b=ae->b≠x:=λb n z=>by subst z;rw[n]at l;exact l
 have v:∀b,H b=ae->b≠e:=λb n z=>by
  subst z;rcases A with r|r
  .exact s b n r
  .rw[n]at r;cases r
 have m:∀b u,H b=aa u->¬u8 (aa u)->b≠x:=λb u q y z=>by subst z;rw[q]at l;exact y l
 refine⟨λb u q n _ _=>k b u (v b n) q,λb u q n _ _=>⟨u.slots,k b u (v b n) q⟩,λb u q n _=>by rw[bj (s b n)];exact n,λb u q _=>?_,
  λb xs q=>by rw[bj (m b _ q λz=>z)];exact q,λb u xs q=>by rw[bj (m b _ q λz=>z)];exact q,λb B q=>by rw[bj (m b _ q λz=>z)];exact q⟩
 by_cases p:b=e
 .subst p;exact w
 .exact⟨u,k b u p q⟩
end
def yQ(h:aD)(H:Hp):List ag:=(dY h.objs.size).filter λa=>(H a).isSome
def nv(h:aD)(H:Hp):aD:=PySem.W.hideAll h (yQ h H)
theorem Ku(h:aD)(H:Hp):(nv h H).objs.size=h.objs.size:=PySem.W.hideAll_size _ _
theorem OR{h:aD}{H:Hp}{b:ag}{o:Obj}(e:h.get? b=aa o)(n:H b=ae):(nv h H).get? b=aa o :=PySem.W.hideAll_get _ e λa=>by have q:(H b).isSome=ah:=(jb.mp a).2;rw[n]at q;simp at q
theorem UI{h:aD}{H:Hp}{b:ag}{o:Obj}(e:(nv h H).get? b=aa o):h.get? b=aa o/\H b=ae:=by
 have a:h.get? b=aa o:=PySem.W.of_hideAll (yQ h H) e;refine⟨a,?_⟩;cases q:H b with
 |none=>rfl
 |some x=>
  have c:b∈yQ h H:=jb.mpr ⟨zv.mpr (bN a),by simp[q]⟩;have z:(nv h H).get? b=ae:=PySem.W.hideAll_none (yQ h H) c;rw[z]at e;cases e
def Q2(g h:aD)(L:ag):List (ag×Obj):=(dY h.objs.size).filterMap λa=>if a=L\/(g.get? a).isSome=ah then ae else(h.get? a).map λo=>(a,o)
def rest(g h:aD)(L d:ag):List (ag×Obj):=(Q2 g h L).filter λp=>decide (p.1≠d)
structure Mod(K:ay)(mg:Str->Option ai)(base:aD):Prop where
 kin:K.In base
 glob:base.Ns b8 mg
 blt:∃mb,base.Ns qL mb/\∀x:Str,x≠"__name__"->mb x=fe x
 nolimit:base.NoLimit
 bm:∃bm ob,mg "__builtins__"=aa (.ref bm)/\bm≠qL/\base.get? bm=aa ob/\ob.cls=.type "module"/\ob.dict=aa qL/\ob.data=.plain
set_option genInjectivity false in
structure Cx where
 prog:aV
 w:aL
 K:ay
 mg:Str->Option ai
 base:aD
 A:aX
 N:List Str
 s₀:am
 H₀:Hp
 env:Env
 outer:List Env
 stack:List Env
 ex:List ag
 fn:Str->Bool
 calm:Bool
 pn:List (ag×Obj)
 xe:ai->am->Prop
def fS(l:List Env):List ag:=l.filterMap (·.frame)
abbrev Cx.fs(X:Cx):List ag:=fS X.outer
def ez(a:d7)(x:Str):Prop:=a.names.lookup x=aa .local\/a.names.lookup x=aa .cell\/a.names.lookup x=aa .free
def Loc(a:d7)(x:Str):Prop:=a.names.lookup x=aa .local\/a.names.lookup x=aa .cell
def Look(a:Env)(h:aD)(m:Str->Option ai)(x:Str)(u:ai):Prop :=(a.kindOf x=aa .local/\m x=aa u)\/((a.kindOf x=aa .cell\/a.kindOf x=aa .free)/\∃c,a.cells.lookup x=aa c/\h.IsCell c (aa u))
def Ck:List Str:=["road"]
def xl(K:ay)(H:Hp):Prop:=∀x∈Ck,∀c P,qM K x=aa (c,P)->H P=aa (.tbl (x++".<locals>.<lambda>"))
set_option genInjectivity false in
structure Cx.Ok(X:Cx):Prop where
 mod:Mod X.K X.mg X.base
 kind:X.env.scope.kind=.function
 glob:X.env.globals=b8
 blt:X.env.builtins=qL
 above:X.s₀.heap.objs.size<=X.env.locals
 inj:∀x y c,X.env.cells.lookup x=aa c->X.env.cells.lookup y=aa c->x=y
 has:∀x,(X.env.kindOf x=aa .cell\/X.env.kindOf x=aa .free)->∃c,X.env.cells.lookup x=aa c
 cab:∀x c,X.fn x=ah->X.env.cells.lookup x=aa c->X.s₀.heap.objs.size<=c
 hd:X.calm=ah->X.A.handled=ae
 frames:X.A.frames=aa X.stack
 stk:X.stack=X.outer\/(X.stack=X.env::X.outer/\X.env.frame=aa X.env.locals)
 exf:∀b∈X.ex,b≠X.env.locals/\∀x c,X.env.cells.lookup x=aa c->c≠b
 bs:∀b o,X.base.get? b=aa o->X.s₀.heap.get? b=aa o/\X.H₀ b=ae
 bsz:X.base.objs.size<=X.s₀.heap.objs.size
 noex:∀b o,X.base.get? b=aa o->b∉X.ex
 exfs:∀b∈X.ex,b∉X.fs
 funs:X.s₀.heap.FunFrames X.base X.outer
 frf:∀b∈X.fs,X.H₀ b=ae
 tab:xl X.K X.H₀
structure Inv(X:Cx)(af:List (ag×Obj))(σ:List (Option V))(H:Hp)(s:am):Prop where
 ok:X.Ok
 os:s.os=X.s₀.os
 bare:nO s.gens
 base:Un X.fs X.ex X.H₀ H X.s₀.heap s.heap
 loc:∃m,s.heap.Ns X.env.locals m/\∀(i:Nat) (x:Str) (v:V),X.N[i]?=aa x->σ[i]?=aa (aa v)->ez X.env.scope x->∃u,RelV v u/\Look X.env s.heap m x u
 cell:∀x c,X.env.cells.lookup x=aa c->∃v,s.heap.IsCell c v
 free:H X.env.locals=ae
 freeC:∀x c,X.env.cells.lookup x=aa c->H c=ae
 pin:∀p∈X.pn++af,s.heap.get? p.1=aa p.2/\H p.1=ae/\p.1≠X.env.locals/\p.1∉X.fs/\∀v,p.2.data≠.cell v
 hok:dG X.prog X.w H s.heap
 len:σ.length=X.N.length
section
variable{X:Cx}{f:List (ag×Obj)}{g:List (Option V)}{H w:Hp}{s:am}{h':aD}
theorem Cx.Ok.nofr(ok:X.Ok){b:ag}{o:Obj}(e:X.base.get? b=aa o):b∉X.fs:=λa=>by
 have:=(ok.funs.mem a).1;rw[e]at this;cases this
theorem Inv.bs(I:Inv X f g H s):∀b o,X.base.get? b=aa o->s.heap.get? b=aa o/\H b=ae:=λb o e=>⟨I.base.keep b o (I.ok.bs b o e).1 (I.ok.bs b o e).2 (I.ok.nofr e) (I.ok.noex b o e),I.base.free b o (I.ok.bs b o e).1 (I.ok.bs b o e).2 (I.ok.noex b o e)⟩
theorem Inv.bk(I:Inv X f g H s):∀b o,X.base.get? b=aa o->s.heap.get? b=aa o:=λb o e=>(I.bs b o e).1
theorem Inv.mod(I:Inv X f g H s):Mod X.K X.mg X.base:=I.ok.mod
theorem Inv.kIn(I:Inv X f g H s):X.K.In s.heap:=I.ok.mod.kin.keeps I.bk
theorem Inv.lt(I:Inv X f g H s):X.env.locals<s.heap.objs.size:=let ⟨_,hn,_⟩:=I.loc;hn.lt
theorem Inv.sz(I:Inv X f g H s):X.s₀.heap.objs.size<=s.heap.objs.size:=c0 I.ok.above (lO I.lt)
theorem Inv.nofs(I:Inv X f g H s){a:ag}(h:s.heap.objs.size<=a):a∉X.fs:=λc=>by obtain⟨_,o,b,_⟩:=I.ok.funs.mem c;exact absurd (ix (bN b) (c0 I.sz h)) (fL _)
theorem Inv.cne(I:Inv X f g H s):∀x c,X.env.cells.lookup x=aa c->c≠X.env.locals:=λx c e z=>by
 obtain⟨v,o,a,b⟩:=I.cell x c e;obtain⟨m,⟨i,j,l,h,d,_⟩,_⟩:=I.loc;rw[z,h]at a;cases a;rw[d]at b;cases b
theorem Inv.tab(I:Inv X f g H s):xl X.K H:=λx a c P h=>I.base.tbls P _ (I.ok.tab x a c P h)
theorem Inv.funs(I:Inv X f g H s):s.heap.FunFrames X.base X.outer:=by
 have all:∀(l:List Env),(∀b∈fS l,b∈X.fs)->X.s₀.heap.FunFrames X.base l->s.heap.FunFrames X.base l:=by
  intro l
  induction l with
  |nil=>intro _ _;trivial
  |cons v r i=>intro h p;obtain⟨q,⟨L,o,a,n,m,u⟩,j⟩:=p;have d:L∈X.fs:=h L (by unfold fS;rw[vY,a];exact lP);obtain⟨x,e⟩:=I.base.slot L o m (I.ok.frf L d) d λz=>I.ok.exfs L z d;exact⟨q,⟨L,_,a,n,e,u⟩,i (λb c=>h b (by unfold fS;rw[vY,a];exact kA _ c)) j⟩
 exact all X.outer (λ_ c=>c) I.ok.funs
theorem Inv.stack(I:Inv X f g H s):s.heap.FunFrames X.base X.stack:=by
 rcases I.ok.stk with e|⟨e,b⟩
 .rw[e];exact I.funs
 .rw[e];obtain⟨m,a,_⟩:=I.loc;refine .cons (by rw[I.ok.kind];decide) b a ?_ I.funs;exact CC (c0 I.ok.bsz I.ok.above)
theorem Inv.stkSub(I:Inv X f g H s):∀b∈fS X.stack,b∈X.env.locals::X.fs:=λb a=>by
 rcases I.ok.stk with e|⟨e,c⟩
 .rw[e]at a;exact kA _ a
 .rw[e]at a;unfold fS at a;rw[vY,c]at a;exact a
theorem Inv.stkFree(I:Inv X f g H s):∀b∈fS X.stack,H b=ae:=λb a=>by
 rcases bI.mp (I.stkSub b a)with e|a
 .rw[e];exact I.free
 .obtain⟨_,o,c,_⟩:=I.ok.funs.mem a;exact I.base.free b o c (I.ok.frf b a) λz=>I.ok.exfs b z a
theorem Inv.step{g':Array GenState}{t':Nat}{d':Drawn}{ch:List ag}(I:Inv X f g H s)(L:∀b∈ch,(b∈X.ex\/X.s₀.heap.objs.size<=b)/\b≠X.env.locals/\(∀x c,X.env.cells.lookup x=aa c->c≠b)/\∀p∈X.pn++f,p.1≠b)(keep:∀b o,b≠X.env.locals->b∉X.fs->b∉ch->s.heap.get? b=aa o->H b=ae->h'.get? b=aa o)(A:∀b o,b≠X.env.locals->b∈X.fs->b∉ch->s.heap.get? b=aa o->H b=ae->∃O,h'.get? b=aa {o with slots:=O}) (free:∀b o,b∉ch->s.heap.get? b=aa o->H b=ae->w b=ae)(B:∀b o,b∉ch->s.heap.get? b=aa o->∃J,h'.get? b=aa J)(F:∀b xs,H b=aa (.tup xs)->w b=aa (.tup xs)) (M:∀b o u,H b=aa (.frz o u)->w b=aa (.frz o u)) (G:∀b q,H b=aa (.tbl q)->w b=aa (.tbl q))(ns:∀m,s.heap.Ns X.env.locals m->h'.Ns X.env.locals m) (P:dG X.prog X.w w h') (hg:nO g'):Inv X f g w {s with heap:=h',gens:=g',drawn:=d',toks:=t'}:=by
 have K:∀b o,X.s₀.heap.get? b=aa o->b≠X.env.locals:=λb o e=>cZ (ix (bN e) I.ok.above);have y:∀b o,X.s₀.heap.get? b=aa o->b∉X.ex->b∉ch:=λb o e a C=>by
  rcases(L b C).1 with z|z
  .exact a z
  .exact absurd (ix (bN e) z) (fL _)
 have j:∀x c,X.env.cells.lookup x=aa c->∀v,s.heap.IsCell c v->h'.IsCell c v:=λx c e v ⟨o,E,Q⟩=>by
  have h:c∉ch:=λz=>(L c z).2.2.1 x c e rfl;by_cases Z:c∈X.fs
  .obtain⟨O,q⟩:=A c o (I.cne x c e) Z h E (I.freeC x c e);exact⟨_,q,Q⟩
  .exact⟨o,keep c o (I.cne x c e) Z h E (I.freeC x c e),Q⟩
 refine⟨I.ok,I.os,hg,⟨λb o e n C a=>?_,λb o e n C a=>?_,λb o e n a=>?_,λb o e a=>?_,λb xs e=>F b xs (I.base.tups b xs e),λb o xs e=>M b o xs (I.base.frzs b o xs e),λb ps e=>?_⟩,?_,λx c e=>?_,?_,λx c e=>?_,λp Y=>?_,P,I.len⟩
 .exact keep b o (K b o e) C (y b o e a) (I.base.keep b o e n C a) (I.base.free b o e n a)
 .obtain⟨O,D⟩:=I.base.slot b o e n C a;obtain⟨N,S⟩:=A b _ (K b o e) C (y b o e a) D (I.base.free b o e n a);exact⟨N,S⟩
 .obtain⟨J,D⟩:=I.base.there b o e a;exact free b J (y b o e a) D (I.base.free b o e n a)
 .obtain⟨J,D⟩:=I.base.there b o e a;exact B b J (y b o e a) D
 .exact G b _ (I.base.tbls b ps e)
 .obtain⟨m,hn,hl⟩:=I.loc;refine⟨m,ns m hn,λi x v D S e3=>?_⟩;obtain⟨u,r,l⟩:=hl i x v D S e3;refine⟨u,r,?_⟩;rcases l with l|⟨k,c,e,z⟩
  .exact .inl l
  .exact .inr ⟨k,c,e,j x c e _ z⟩
 .obtain⟨v,z⟩:=I.cell x c e;exact⟨v,j x c e v z⟩
 .obtain⟨m,⟨o,_,_,E,_⟩,_⟩:=I.loc;exact free _ o (λz=>(L _ z).2.1 rfl) E I.free
 .obtain⟨v,o,E,Q⟩:=I.cell x c e;exact free c o (λz=>(L c z).2.2.1 x c e rfl) E (I.freeC x c e)
 .obtain⟨e,n,W,T,d⟩:=I.pin p Y;have h:p.1∉ch:=λz=>(L p.1 z).2.2.2 p Y rfl;exact⟨keep p.1 p.2 W T h e n,free p.1 p.2 h e n,W,T,d⟩
theorem Inv.un{t':Nat}(I:Inv X f g H s)(u:Un X.fs [] H w s.heap h')(a:dG X.prog X.w w h'):Inv X f g w {s with heap:=h',toks:=t'}:=by
 obtain⟨m,⟨o,A,B,i,r⟩,_⟩:=id I.loc;obtain⟨v,q⟩:=u.any i I.free (by simp);exact I.step (g':=s.gens) (d':=s.drawn) (ch:=[]) (λ_ z=>nomatch z) (λb o _ c _ e n=>u.keep b o e n c (by simp)) (λb o _ c _ e n=>u.slot b o e n c (by simp)) (λb o _ e n=>u.free b o e n (by simp)) (λb o _ e=>u.there b o e (by simp)) u.tups u.frzs u.tbls (λy p=>by
  obtain⟨x,d,h,j,l⟩:=p;rw[i]at j;cases j;exact⟨_,d,h,q,l⟩) a I.bare
theorem Inv.call{g':Array GenState}{t':Nat}{d':Drawn}{ch:List ag}(I:Inv X f g H s)(u:Un (fS X.stack) ch H w s.heap h')(d:dG X.prog X.w w h')(B:nO g')(l:∀b∈ch,(b∈X.ex\/X.s₀.heap.objs.size<=b)/\b≠X.env.locals/\(∀x c,X.env.cells.lookup x=aa c->c≠b)/\∀p∈X.pn++f,p.1≠b):Inv X f g w {s with heap:=h',gens:=g',drawn:=d',toks:=t'}:=by
 obtain⟨m,⟨o,G,J,q,r⟩,_⟩:=id I.loc;obtain⟨D,h⟩:=u.any q I.free λz=>(l _ z).2.1 rfl;exact I.step (ch:=ch) l (λb o h C a e n=>u.keep b o e n (λz=>(bI.mp (I.stkSub b z)).elim h C) a) (λb o _ _ a e n=>u.any e n a) (λb o a e n=>u.free b o e n a) (λb o a e=>u.there b o e a) u.tups u.frzs u.tbls (λF A=>by
  obtain⟨E,i,j,v,y⟩:=A;rw[q]at v;cases v;exact⟨_,i,j,h,y⟩) d B
theorem Inv.turned{t':Nat}{it:ag}(I:Inv X f g H s)(k:∀b o,b≠it->s.heap.get? b=aa o->h'.get? b=aa o)(j:H it=ae)(h:it≠X.env.locals)(C:it∈X.ex\/X.s₀.heap.objs.size<=it) (B:∀x c,X.env.cells.lookup x=aa c->c≠it) (A:∀p∈X.pn++f,p.1≠it):Inv X f g H {s with heap:=h',toks:=t'}:=by
 have d:∀b u,H b=aa u->b≠it:=λb u e z=>by rw[z,j]at e;cases e
 refine I.step (g':=s.gens) (d':=s.drawn) (ch:=[it]) (λb y=>?_) (λb o _ _ a e _=>k b o (λz=>a (by simp[z])) e) (λb o _ _ a e _=>⟨o.slots,k b o (λz=>a (by simp[z])) e⟩) (λ_ _ _ _ n=>n)
  (λb o a e=>⟨o,k b o (λz=>a (by simp[z])) e⟩) (λ_ _ e=>e) (λ_ _ _ e=>e) (λ_ _ e=>e) (λm l=>?_) (λb u e=>?_) I.bare
 .have e:b=it:=by simpa using y
  subst e;exact⟨C,h,B,A⟩
 .obtain⟨o,D,E,i,r⟩:=l;exact⟨o,D,E,k _ o (dN h) i,r⟩
 .refine(I.hok b u e).stay (λc v a q=>k c v ?_ q) (λ_ q=>q) λ_ _ q=>q;rcases a with z|z
  .rw[z];exact d b u e
  .exact d c _ z
theorem Inv.tok(I:Inv X f g H s)(t:Nat):Inv X f g H {s with toks:=t}:=I.un (h':=s.heap) (t':=t) Un.refl I.hok
theorem Inv.kept{t':Nat}(I:Inv X f g H s)(k:∀b u,s.heap.get? b=aa u->h'.get? b=aa u):Inv X f g H {s with heap:=h',toks:=t'}:=I.un (Un.kept k) (I.hok.kept k)
theorem Inv.laid{a:ag}{o:HO}{t':Nat}(I:Inv X f g H s)(k:∀b u,s.heap.get? b=aa u->h'.get? b=aa u)(c:s.heap.objs.size<=a)(new:cB X.prog X.w (upd H a o) h' a o):Inv X f g (upd H a o) {s with heap:=h',toks:=t'}:=I.un (Un.laid k c (I.hok.fresh c)) (I.hok.laid k c new)
theorem Inv.write{x e:ag}{o:HO}{h:Nat}(I:Inv X f g H s)(c:u8 (H x))(d:e=x\/H e=aa (.own x))(k:∀b u,b≠e->s.heap.get? b=aa u->h'.get? b=aa u)(a:∃u,h'.get? e=aa u)(new:cB X.prog X.w (upd H x o) h' x o):Inv X f g (upd H x o) {s with heap:=h',toks:=h}:=I.un (Un.write c d k a) (I.hok.write c d k a new)
theorem Inv.pins_of{a:List (ag×Obj)}(I:Inv X f g H s)(h:∀p∈a,s.heap.get? p.1=aa p.2/\H p.1=ae/\p.1≠X.env.locals/\p.1∉X.fs/\∀v,p.2.data≠.cell v):Inv X a g H s :=⟨I.ok,I.os,I.bare,I.base,I.loc,I.cell,I.free,I.freeC,λp b=>(kB.mp b).elim (λz=>I.pin p (pc _ z)) (h p),I.hok,I.len⟩
theorem As{N:List Str}(c:N.Nodup){i j:Nat}{x:Str}(a:N[i]?=aa x)(b:N[j]?=aa x):i=j:=by obtain⟨m,h⟩:=cM.mp a;obtain⟨l,d⟩:=cM.mp b;exact(List.getElem_inj c).mp (h.trans d.symm)
theorem HL{M:Model}{A:aX}{E:ai->am->Prop}{i:Nat}{x:Str}{v:V}{u:ai}{Q:Unit->am->Prop}(I:Inv X f g H s)(hN:X.N.Nodup)(T:X.N[i]?=aa x)(F:Loc X.env.scope x)(r:RelV v u)(h:∀s',Inv X f (g.set i (aa v)) H s'->(∃a,li a s.heap s'.heap/\(a=X.env.locals\/X.env.cells.lookup x=aa a))->Q () s') (hf:X.fn x=ah\/X.env.scope.names.lookup x=aa .local:=by first|exact .inl rfl|exact .inr rfl|assumption):ar M A (storeName X.env x u) Q E s:=by
 obtain⟨m,hn,hl⟩:=id I.loc;have om:(X.env.scope.kind == .class||(X.env.scope.kind == .module&&X.env.locals != X.env.globals))=aj:=by rw[I.ok.kind];rfl
 have K:i<g.length:=by rw[I.len];exact(cM.mp T).1
 have cne:=I.cne;have B:∀{a:ag}{h':aD},(∃o,s.heap.get? a=aa o/\H a=ae)->li a s.heap h'->dG X.prog X.w H h':=λ{a h'} ha l b ob e=>by
  obtain⟨_,_,wy⟩:=ha;refine(I.hok b ob e).stay (λc Y D q=>(l.2 c ?_).trans q) (λ_ q=>q) λ_ _ q=>q;rintro rfl;rcases D with rfl|D
  .rw[wy]at e;cases e
  .rw[wy]at D;cases D
 rcases F with J|J
 .refine wpAny_storeName_local J hn (λh' hn' l=>?_) om;obtain⟨oL,_,_,j3,_⟩:=id hn;refine h _ ⟨I.ok,I.os,I.bare,⟨λb o e n O F=>?_,λb o e n O F=>?_,I.base.free,λb o e F=>?_,I.base.tups,I.base.frzs,I.base.tbls⟩,⟨_,hn',λj y v' C G e3=>?_⟩,λy c e=>?_,I.free,I.freeC,λp hp=>?_,B ⟨oL,j3,I.free⟩ l,by simpa using I.len⟩ ⟨_,l,.inl rfl⟩
  .exact(l.2 b (cZ (ix (bN e) I.ok.above))).trans (I.base.keep b o e n O F)
  .obtain⟨sl,C⟩:=I.base.slot b o e n O F;exact⟨sl,(l.2 b (cZ (ix (bN e) I.ok.above))).trans C⟩
  .obtain⟨o',C⟩:=I.base.there b o e F;exact⟨o',(l.2 b (cZ (ix (bN e) I.ok.above))).trans C⟩
  .by_cases L:j=i
   .subst L;rw[T]at C;cases C;rw[fM K]at G;cases G;exact⟨u,r,.inl ⟨J,by simp⟩⟩
   .rw[d8 (dN L)]at G;obtain⟨u',r',q⟩:=hl j y v' C G e3;refine⟨u',r',?_⟩;rcases q with⟨k,e⟩|⟨k,c,e,z⟩
    .refine .inl ⟨k,?_⟩;have:y≠x:=λe=>L (As hN C (e ▸ T));simp[this,e]
    .exact .inr ⟨k,c,e,z.sameBut l (cne y c e)⟩
  .obtain⟨Y,z⟩:=I.cell y c e;exact⟨Y,z.sameBut l (cne y c e)⟩
  .obtain⟨e,n,Z,nf,d⟩:=I.pin p hp;exact⟨(l.2 p.1 Z).trans e,n,Z,nf,d⟩
 .have N:X.fn x=ah:=by
   rcases hf with z|z
   .exact z
   .rw[z]at J;cases J
  obtain⟨c,D⟩:=I.ok.has x (.inl J);obtain⟨Y,z⟩:=I.cell x c D;refine wpAny_storeName_cell I.ok.kind J D z (λh' jH l=>?_);obtain⟨oc,S,P⟩:=id z;refine h {s with heap:=h'} ⟨I.ok,I.os,I.bare,⟨λb o e n O F=>?_,λb o e n O F=>?_,I.base.free,λb o e F=>?_,I.base.tups,I.base.frzs,I.base.tbls⟩,⟨m,hn.sameBut l (dN (cne x c D)),λj y v' C G e3=>?_⟩,λy c' e=>?_,I.free,I.freeC,λp hp=>?_,B ⟨oc,S,I.freeC x c D⟩ l,by simpa using I.len⟩ ⟨c,l,.inr D⟩
  .exact(l.2 b (cZ (ix (bN e) (I.ok.cab x c N D)))).trans (I.base.keep b o e n O F)
  .obtain⟨sl,C⟩:=I.base.slot b o e n O F;exact⟨sl,(l.2 b (cZ (ix (bN e) (I.ok.cab x c N D)))).trans C⟩
  .obtain⟨o',C⟩:=I.base.there b o e F;exact⟨o',(l.2 b (cZ (ix (bN e) (I.ok.cab x c N D)))).trans C⟩
  .by_cases L:j=i
   .subst L;rw[T]at C;cases C;rw[fM K]at G;cases G;exact⟨u,r,.inr ⟨.inl J,c,D,jH⟩⟩
   .rw[d8 (dN L)]at G;obtain⟨u',r',q⟩:=hl j y v' C G e3;refine⟨u',r',?_⟩;rcases q with q|⟨k,c',e,z'⟩
    .exact .inl q
    .refine .inr ⟨k,c',e,z'.sameBut l ?_⟩;rintro rfl;exact L (As hN C (I.ok.inj _ _ _ e D ▸ T))
  .by_cases W:c'=c
   .subst W;exact⟨_,jH⟩
   .obtain⟨w2,z2⟩:=I.cell y c' e;exact⟨w2,z2.sameBut l W⟩
  .obtain⟨e,n,Z,nf,d⟩:=I.pin p hp;refine⟨(l.2 p.1 ?_).trans e,n,Z,nf,d⟩;intro q;rw[q,S]at e;have q':oc=p.2:=cY e;exact d Y (by rw[<-q'];exact P)
theorem yM{M:Model}{A:aX}{E:ai->am->Prop}{i:Nat}{x:Str}{v:V}{u:ai}{Q:Unit->am->Prop}(I:Inv X f g H s)(d:X.N.Nodup)(b:X.N[i]?=aa x)(a:Loc X.env.scope x)(r:RelV v u)(h:∀s',Inv X f (g.set i (aa v)) H s'->Q () s') (c:X.fn x=ah\/X.env.scope.names.lookup x=aa .local:=by first|exact .inl rfl|exact .inr rfl|assumption):ar M A (storeName X.env x u) Q E s :=HL I d b a r (λs' j _=>h s' j) c
theorem Inv.call'{s':am}{ch:List ag}(I:Inv X f g H s)(i:s'.os=s.os)(u:Un (fS X.stack) ch H w s.heap s'.heap)(a:dG X.prog X.w w s'.heap)(j:nO s'.gens)(h:∀b∈ch,(b∈X.ex\/X.s₀.heap.objs.size<=b)/\b≠X.env.locals/\(∀x c,X.env.cells.lookup x=aa c->c≠b)/\∀p∈X.pn++f,p.1≠b):Inv X f g w s':=by obtain⟨h',g',d',t',d⟩:=s';have e:d=s.os:=i;subst e;exact I.call (g':=g') (t':=t') (d':=d') u a j h
end
abbrev XK:=ai->Option ag->Hp->Prop
abbrev St:=List (Option V)
abbrev VK:=V->Hp->Prop
abbrev TE:=St->Hp->VK->Prop
abbrev TT:=St->Hp->(Bool->Hp->Prop)->Prop
abbrev TA:=St->Hp->(List V->Hp->Prop)->Prop
structure kX where
 nx:St->Hp->Prop
 rt:VK
 bk:St->Hp->Prop:=λ_ _=>False
 ct:St->Hp->Prop:=λ_ _=>False
abbrev TS:=kX->St->Hp->Prop
def EP(X:Cx)(d:List (ag×Obj))(b:St)(Q:VK)(u:ai)(c:am):Prop:=∃v a,Inv X d b a c/\RelV v u/\Q v a
def TP(X:Cx)(f:List (ag×Obj))(c:St)(Q:Bool->Hp->Prop)(b:Bool)(d:am):Prop:=∃a,Inv X f c a d/\Q b a
def AP(X:Cx)(g:List (ag×Obj))(c:St)(Q:List V->Hp->Prop)(d:List ai)(f:am):Prop:=∃a b,Inv X g c b f/\bx a d/\Q a b
def SP(X:Cx)(c:List (ag×Obj))(D:kX)(f:Flow)(s':am):Prop :=
 match f with
 |.next=>∃a b,Inv X c a b s'/\D.nx a b
 |.brk=>∃a b,Inv X c a b s'/\D.bk a b
 |.cont=>∃a b,Inv X c a b s'/\D.ct a b
 |.ret u=>∃v a b,Inv X c a b s'/\RelV v u/\D.rt v b
def PE(X:Cx)(e:aB)(t:TE):Prop :=
 ∀(b:List (ag×Obj)) (s:am) (a:St) (H:Hp) (Q:VK),Inv X b a H s->t a H Q->ar (ax X.prog X.w) X.A (a6 e X.env) (EP X b a Q) X.xe s
def PT(X:Cx)(e:aB)(t:TT):Prop :=
 ∀(b:List (ag×Obj)) (s:am) (a:St) (H:Hp) (Q:Bool->Hp->Prop),Inv X b a H s->t a H Q->ar (ax X.prog X.w) X.A (nP e X.env (a6 e X.env)) (TP X b a Q) X.xe s
def PW(X:Cx)(e:aB)(t:TT):Prop :=
 ∀(c:Sem ai) (b:List (ag×Obj)) (s:am) (a:St) (H:Hp) (Q:Bool->Hp->Prop),Inv X b a H s->t a H Q->ar (ax X.prog X.w) X.A (nP e X.env c) (TP X b a Q) X.xe s
def PA(X:Cx)(d:List aB)(t:TA):Prop :=
 ∀(b:Pos) (c:List (ag×Obj)) (s:am) (a:St) (H:Hp) (Q:List V->Hp->Prop),Inv X c a H s->t a H Q->ar (ax X.prog X.w) X.A (spliced (c7 b (aR d X.env))) (AP X c a Q) X.xe s
def PS(X:Cx)(c:ba)(t:TS):Prop :=
 ∀(b:List (ag×Obj)) (s:am) (a:St) (H:Hp) (D:kX),Inv X b a H s->t D a H->ar (ax X.prog X.w) X.A (exec c X.env) (SP X b D) X.xe s
def lf(X:Cx)(c:List ba)(t:TS):Prop :=
 ∀(b:List (ag×Obj)) (s:am) (a:St) (H:Hp) (D:kX),Inv X b a H s->t D a H->ar (ax X.prog X.w) X.A (execs c X.env) (SP X b D) X.xe s
theorem aW{b:Type}{t:Sem b}{Q c:b->am->Prop}{M:Model}{A:aX}{E:ai->am->Prop}{s:am}(h:ar M A t Q E s)(d:∀a s,Q a s->c a s):ar M A t c E s:=dZ h d λ_ _ x=>x
section
variable{X:Cx}
def Ip(i:Nat):TE:=λa H Q=>∃v,a[i]?=aa (aa v)/\Q v H
def tC(v:V):TE:=λ_ H Q=>Q v H
theorem fI{i:Nat}{x:Str}{f:Pos}(p:X.N[i]?=aa x)(j:ez X.env.scope x)(d:(x==("__debug__":Str))=aj:=by decide)(q:(x==("__classdict__":Str))=aj:=by decide):PE X (.Name x f) (Ip i):=by
 intro w s g H Q I h;obtain⟨v,e,h⟩:=h;obtain⟨m,n,o⟩:=I.loc;obtain⟨u,r,l⟩:=o i x v p e j;have b:EP X w g Q u s:=⟨v,H,I,r,h⟩
 rcases l with⟨a,hm⟩|⟨a,c,hc,zV⟩
 .exact wpAny_Name (wpAny_loadName_local I.ok.kind a n hm b) d
 .rcases a with a|a
  .exact wpAny_Name (wpAny_loadName_cell I.ok.kind a hc zV b) d
  .exact wpAny_Name (wpAny_loadName_free I.ok.kind a hc zV b q) d
theorem TX{i j f}:PE X (.Constant (.int i) j f) (tC (.int i)):=λ_ _ _ H _ I h=>wpAny_Constant_int ⟨.int i,H,I.tok _,⟨_,rfl⟩,h⟩
theorem Qo{b j f}:PE X (.Constant (.bool b) j f) (tC (.bl b)):=λ_ _ _ H _ I h=>Constant_bool ⟨.bl b,H,I,rfl,h⟩
theorem QK{j f}:PE X (.Constant .none j f) (tC .non):=λ_ _ _ H _ I h=>Constant_none ⟨.non,H,I,rfl,h⟩
theorem O5{x j f}:PE X (.Constant (.str x) j f) (tC (.str x)):=λ_ _ _ H _ I h=>Calls.Constant_str ⟨.str x,H,I.tok _,⟨_,rfl⟩,h⟩
def Gl(X:Cx)(x:Str):Prop:=X.env.kindOf x=aa .globalImplicit
theorem tL{E:ai->am->Prop}{g:List (ag×Obj)}{s:am}{a:St}{H:Hp}{x:Str}{u:ai}{f:Pos}{Q:ai->am->Prop}(I:Inv X g a H s)(c:Gl X x)(b:X.mg x=aa u)(h:Q u s)(d:(x==("__debug__":Str))=aj:=by decide):ar (ax X.prog X.w) X.A (a6 (.Name x f) X.env) Q E s :=Calls.Name_function_global I.ok.kind c (Calls.loadGlobal_global (by rw[I.ok.glob];exact I.mod.glob.keeps I.bk) b h) d
theorem vI{E:ai->am->Prop}{m:List (ag×Obj)}{s:am}{a:St}{H:Hp}{x:Str}{u:ai}{f:Pos}{Q:ai->am->Prop}(I:Inv X m a H s)(g:Gl X x)(d:X.mg x=ae)(b:fe x=aa u)(h:Q u s)(c:x≠"__name__":=by decide) (i:(x==("__debug__":Str))=aj:=by decide):ar (ax X.prog X.w) X.A (a6 (.Name x f) X.env) Q E s:=by obtain⟨n,l,j⟩:=I.mod.blt;exact Calls.Name_function_global I.ok.kind g (Calls.loadGlobal_builtin (by rw[I.ok.glob];exact I.mod.glob.keeps I.bk) d (by rw[I.ok.blt];exact l.keeps I.bk) ((j x c).trans b) h) i
theorem Bw{x:Str}{v:V}{u:ai}{f:Pos}(b:Gl X x)(a:X.mg x=aa u)(r:RelV v u)(c:(x==("__debug__":Str))=aj:=by decide):PE X (.Name x f) (tC v) :=λ_ _ _ H _ I h=>tL I b a ⟨v,H,I,r,h⟩ c
theorem Ow{x:Str}{v:V}{u:ai}{f:Pos}(d:Gl X x)(c:X.mg x=ae)(a:fe x=aa u)(r:RelV v u)(b:x≠"__name__":=by decide)(g:(x==("__debug__":Str))=aj:=by decide):PE X (.Name x f) (tC v) :=λ_ _ _ H _ I h=>vI I d c a ⟨v,H,I,r,h⟩ b g
variable{a b:aB}{g p:TE}{f:Pos}
def PC(X:Cx)(j:CmpOp)(a b:aB)(t:TE):Prop :=
 ∀(i:List (ag×Obj)) (s:am) (h:St) (H:Hp) (Q:VK),Inv X i h H s->t h H Q ->
  ar (ax X.prog X.w) X.A (a6 a X.env) (λv d=>ar (ax X.prog X.w) X.A (a6 b X.env) (λu c=>ar (ax X.prog X.w) X.A (eE j v u) (EP X i h Q) X.xe c) X.xe d) X.xe s
theorem Ud(b:aB){c:CmpOp}(h:c≠.In)(d:c≠.NotIn):qN c b=aj:=by
 have j:(c == CmpOp.In)=aj:=by cases c <;> first|rfl|exact absurd rfl h
 have i:(c == CmpOp.NotIn)=aj:=by cases c <;> first|rfl|exact absurd rfl d
 cases b <;> simp[qN,j,i]
def tB(t:TE):TT:=λd H Q=>t d H λx h=>∃c,x=.bl c/\Q c h
theorem SI{i:CmpOp}{t:TE}(h:PC X i a b t)(j:qN i b=aj:=by first|exact Ud _ (by decide) (by decide)|rfl):PT X (.Compare a [i] [b] f) (tB t):=by
 intro w s l H Q I o;refine wpAny_isTrue_Compare1 (aW (h w s l H _ I o) λv C j=>aW j λu B r=>aW r λc A ⟨x,z,y,m,n⟩=>?_) j;obtain⟨d,rfl,q⟩:=n;cases m;exact pe ⟨z,y,q⟩
theorem R8{e:aB}{t:TE}(h:PE X e t)(n:∀c,nP e X.env c=(do let v <-c;standAt e.pos;nQ [v] (truthy v)):=by intro _;rfl):PT X e (tB t):=by
 intro o s i H Q I m;refine isTrue_plain (aW (h o s i H _ I m) λv w ⟨x,u,r,j,l⟩=>?_) (n _);obtain⟨d,rfl,q⟩:=l;cases j;exact pe ⟨u,r,q⟩
variable{n o:TT}{rest:List aB}
def Kx(t u:TT):TT:=λd H Q=>t d H λc h=>if c=ah then u d h Q else Q aj h
def Ly(t u:TT):TT:=λd H Q=>t d H λc h=>if c=ah then Q ah h else u d h Q
def Tt(t:TT):TT:=λd H Q=>t d H λc h=>Q (!c) h
theorem Qn(i:PT X a n):PW X (.BoolOp .And [a] f) n:=by
 intro l j s d H Q I h;refine isTrue_and (aW (i j s d H Q I h) λc m e=>?_);cases c with
 |true=>exact isTrue_and_nil e
 |false=>exact e
theorem OI(i:PT X a n):PW X (.BoolOp .Or [a] f) n:=by
 intro l j s d H Q I h;refine isTrue_or (aW (i j s d H Q I h) λc m e=>?_);cases c with
 |false=>exact isTrue_or_nil e
 |true=>exact e
theorem Ox(v:PT X a n)(u:PW X (.BoolOp .And (b::rest) f) o):PW X (.BoolOp .And (a::b::rest) f) (Kx n o):=by
 intro q j s d H Q I h;refine isTrue_and (aW (v j s d H _ I h) λc r ζ=>?_);obtain⟨m,l,i⟩:=ζ;cases c with
 |true=>exact u q j r d m Q l i
 |false=>exact⟨m,l,i⟩
theorem QD(v:PT X a n)(u:PW X (.BoolOp .Or (b::rest) f) o):PW X (.BoolOp .Or (a::b::rest) f) (Ly n o):=by
 intro q j s d H Q I h;refine isTrue_or (aW (v j s d H _ I h) λc r ζ=>?_);obtain⟨m,l,i⟩:=ζ;cases c with
 |true=>exact⟨m,l,i⟩
 |false=>exact u q j r d m Q l i
theorem MA(i:PT X a n):PT X (.UnaryOp .Not a f) (Tt n):=by intro j s d H Q I h;exact isTrue_not (i j s d H (λc l=>Q (!c) l) I h)
def Mq(g p:TE):TE:=λd H Q=>g d H λx h=>∃c,x=.bl c/\if c=ah then p d h Q else Q (.bl aj) h
def Pt(g:TE):TE:=λd H Q=>g d H λx h=>∃c,x=.bl c/\Q (.bl (!c)) h
theorem NG{op}{t:TE}(h:PE X a t):PE X (.BoolOp op [a] f) t:=λi s c H Q I d=>BoolOp_one (h i s c H Q I d)
theorem KM(w:PE X a g)(u:PE X (.BoolOp .And (b::rest) f) p):PE X (.BoolOp .And (a::b::rest) f) (Mq g p):=by
 intro j s i H Q I h;refine BoolOp_and (aW (w j s i H _ I h) λv q ζ=>?_);obtain⟨x,m,l,r,d⟩:=ζ;obtain⟨c,rfl,d⟩:=d;cases r;refine pe ?_;cases c with
 |true=>exact u j q i m Q l d
 |false=>exact⟨.bl aj,m,l,rfl,d⟩
theorem Sy(l:PE X a g):PE X (.UnaryOp .Not a f) (Pt g):=by
 intro m s i H Q I h;refine UnaryOp_ (aW (l m s i H _ I h) λv u ζ=>?_);obtain⟨x,r,q,j,d⟩:=ζ;obtain⟨c,rfl,d⟩:=d;cases j;exact not_of (pe ⟨.bl (!c),r,q,rfl,d⟩)
def OU(t:TT)(g p:TE):TE:=λd H Q=>t d H λc h=>if c=ah then g d h Q else p d h Q
theorem OB{c:aB}(u:PT X c n)(w:PE X a g)(v:PE X b p):PE X (.IfExp c a b f) (OU n g p):=by
 intro j s i H Q I h;refine wpAny_IfExp (aW (u j s i H _ I h) λd l ζ=>?_);obtain⟨r,q,m⟩:=ζ;cases d with
 |true=>exact w j l i r Q q m
 |false=>exact v j l i r Q q m
end
def cy(K:ay)(H:Hp)(a:ag)(xs:List V):Prop :=
 Rd H a (.lst xs) \/
  ∃(o:Obj) (b:Array ai) (n:Nat),K.lookup a=aa o/\o.cls=.type "list"/\o.dict=ae/\o.data=.seq b n/\b.size<=bh/\bx xs b.toList
def cu(K:ay)(H:Hp)(a:ag)(xs:List V):Prop :=
 Rd H a (.tup xs) \/
  ∃(o:Obj) (b:Array ai) (n:Nat),K.lookup a=aa o/\o.cls=.type "tuple"/\o.data=.seq b n/\b.size<=bh/\bx xs b.toList
def UK:ai->Option V
 |.none=>aa .non
 |.bool b=>aa (.bl b)
 |.int i _=>aa (.int i)
 |.str x _=>aa (.str x)
 |.bytes b _=>aa (.byt b)
 |.float b _=>aa (.flt b)
 |.ref a=>aa (.ref a)
 |.type n=>aa (.ty n)
 |_=>ae
theorem RelV.abs{x:V}{u:ai}(r:RelV x u):UK u=aa x:=by
 cases x with
 |non=>cases r;rfl
 |bl _=>cases r;rfl
 |int _=>obtain⟨t,rfl⟩:=r;rfl
 |str _=>obtain⟨t,rfl⟩:=r;rfl
 |byt _=>obtain⟨t,rfl⟩:=r;rfl
 |flt _=>obtain⟨t,rfl⟩:=r;rfl
 |ref _=>cases r;rfl
 |ty _=>cases r;rfl
theorem RelV.inj{x y:V}{u:ai}(r:RelV x u)(q:RelV y u):x=y:=cY (r.abs.symm.trans q.abs)
theorem bx.inj{xs a:List V}{b:List ai}(r:bx xs b)(s:bx a b):xs=a:=by
 unfold bx at r s
 induction r generalizing a with
 |nil=>cases s;rfl
 |cons r _ g=>
  cases s with
  |cons q t=>rw[r.inj q,g t]
section
variable{X:Cx}{g:List (ag×Obj)}{c:St}{H:Hp}{s:am}{a:ag}{b f:List V}
theorem cy.of{K:ay}(h:H a=aa (.lst b)):cy K H a b:=.inl (.inl h)
theorem cu.of{K:ay}(h:H a=aa (.tup b)):cu K H a b:=.inl (.inl h)
theorem Inv.list(I:Inv X g c H s)(h:cy X.K H a b):∃its:List ai,bx b its/\PlainL s.heap a its.toArray/\b.length<=bh:=by
 rcases h with h|⟨o,its,n,i,l,j,d,m,r⟩
 .obtain⟨z,its,n,r,e⟩:=h.ok I.hok;exact⟨its,r,⟨_,n,e,rfl,rfl,rfl⟩,z⟩
 .refine⟨its.toList,r,⟨o,n,I.kIn a o i,l,j,by simpa using d⟩,?_⟩;have e:=r.length;simp only[jc]at e;lia
theorem Inv.tuple(I:Inv X g c H s)(h:cu X.K H a b):∃d:List ai,bx b d/\IsTup s.heap a d.toArray/\b.length<=bh:=by
 rcases h with h|⟨o,d,n,j,l,i,m,r⟩
 .obtain⟨z,d,r,p,_⟩:=h.ok I.hok;exact⟨d,r,p,z⟩
 .refine⟨d.toList,r,⟨o,I.kIn a o j,l,n,by simpa using i⟩,?_⟩;have e:=r.length;simp only[jc]at e;lia
theorem Inv.list_inj(I:Inv X g c H s)(h:cy X.K H a b)(q:cy X.K H a f):b=f:=by
 obtain⟨j,r,⟨o,n,e,_,_,d⟩,_⟩:=I.list h;obtain⟨i,p,⟨u,v,l,_,_,m⟩,_⟩:=I.list q;rw[e]at l;cases l;rw[d]at m;injection m with d1 _;have:j=i:=by simpa using congrArg Array.toList d1
 subst this;exact r.inj p
theorem Inv.tuple_inj(I:Inv X g c H s)(h:cu X.K H a b)(q:cu X.K H a f):b=f:=by
 obtain⟨j,r,⟨o,e,_,n,d⟩,_⟩:=I.tuple h;obtain⟨i,p,⟨u,l,_,v,m⟩,_⟩:=I.tuple q;rw[e]at l;cases l;rw[d]at m;injection m with d1 _;have:j=i:=by simpa using congrArg Array.toList d1
 subst this;exact r.inj p
end
abbrev Cx.wish(X:Cx)(E:ai->am->Prop):Cx:={X with xe:=E}
abbrev Cx.nox(X:Cx):Cx:=X.wish λ_ _=>False
theorem Cx.Ok.wish{X:Cx}(ok:X.Ok)(E:ai->am->Prop):(X.wish E).Ok :=⟨ok.mod,ok.kind,ok.glob,ok.blt,ok.above,ok.inj,ok.has,ok.cab,ok.hd,ok.frames,ok.stk,ok.exf,ok.bs,ok.bsz,ok.noex,ok.exfs,ok.funs,ok.frf,ok.tab⟩
theorem Cx.Ok.unwish{X:Cx}{E:ai->am->Prop}(ok:(X.wish E).Ok):X.Ok :=⟨ok.mod,ok.kind,ok.glob,ok.blt,ok.above,ok.inj,ok.has,ok.cab,ok.hd,ok.frames,ok.stk,ok.exf,ok.bs,ok.bsz,ok.noex,ok.exfs,ok.funs,ok.frf,ok.tab⟩
section
variable{X:Cx}{a:List (ag×Obj)}{b:St}{H:Hp}{s:am}{E:ai->am->Prop}
theorem Inv.wish(I:Inv X a b H s)(E:ai->am->Prop):Inv (X.wish E) a b H s:=⟨I.ok.wish E,I.os,I.bare,I.base,I.loc,I.cell,I.free,I.freeC,I.pin,I.hok,I.len⟩
theorem Inv.unwish(I:Inv (X.wish E) a b H s):Inv X a b H s:=⟨I.ok.unwish,I.os,I.bare,I.base,I.loc,I.cell,I.free,I.freeC,I.pin,I.hok,I.len⟩
theorem SP.unwish{D:kX}{f:Flow}{g:am}(h:SP (X.wish E) a D f g):SP X a D f g:=by
 cases f with
 |next=>obtain⟨c,d,I,q⟩:=h;exact⟨c,d,I.unwish,q⟩
 |brk=>obtain⟨c,d,I,q⟩:=h;exact⟨c,d,I.unwish,q⟩
 |cont=>obtain⟨c,d,I,q⟩:=h;exact⟨c,d,I.unwish,q⟩
 |ret u=>obtain⟨v,c,d,I,r,q⟩:=h;exact⟨v,c,d,I.unwish,r,q⟩
end
section
variable{X:Cx}{j:ba}{rest:List ba}{t u:TS}{e:aB}{i:TE}{g:Pos}
def NY:TS:=λD a H=>D.nx a H
def Mv(t u:TS):TS:=λD a H=>t {D with nx:=u D} a H
theorem L7:lf X [] NY:=λ_ _ a H _ I h=>zw ⟨a,H,I,h⟩
theorem K1(m:PS X j t)(l:lf X rest u):lf X (j::rest) (Mv t u):=by
 intro b s c H D I h;refine CD (aW (m b s c H {D with nx:=u D} I h) λf d q=>?_);cases f with
 |next=>obtain⟨a,o,n,q⟩:=q;exact l b d a o D n q
 |ret v=>exact q
 |brk=>exact q
 |cont=>exact q
theorem L3(b:PS X j t):lf X [j] t:=by
 intro c s a H D I h;refine CD (aW (b c s a H D I h) λf d q=>?_);cases f with
 |next=>exact zw q
 |ret v=>exact q
 |brk=>exact q
 |cont=>exact q
theorem Inv.quiet{b:List (ag×Obj)}{a:St}{H:Hp}{s:am}(I:Inv X b a H s):interactive X.env=aj:=by simp[interactive,I.ok.kind]
def PZ(i:TE):TS:=λD a H=>i a H λ_ b=>D.nx a b
theorem Bs(d:PE X e i)(c:jZ e ae g.line X.env=pure aj:=by rfl):PS X (.Expr e g) (PZ i):=by intro f s a H D I h;exact wpAny_Expr_any (aW (d f s a H _ I h) λv n ⟨x,m,l,o,b⟩=>⟨a,m,l,b⟩) I.quiet c
def Pj(i:TE):TS:=λD a H=>i a H D.rt
theorem xL(d:PE X e i):PS X (.Return (aa e) g) (Pj i):=by intro f s a H D I h;exact wpAny_Return_some (aW (d f s a H _ I h) λv n ⟨x,m,l,b,c⟩=>⟨x,a,m,l,b,c⟩)
def Sj:TS:=λD _ H=>D.rt .non H
theorem Uh:PS X (.Return ae g) Sj:=λ_ _ a H _ I h=>wpAny_Return_none ⟨.non,a,H,I,rfl,h⟩
def T6(c:TT)(t u:TS):TS:=λD a H=>c a H λb d=>if b=ah then t D a d else u D a d
theorem TM{c:aB}{a b:List ba}{m:TT}(r:PT X c m)(w:lf X a t)(v:lf X b u):PS X (.If c a b g) (T6 m t u):=by
 intro l s f H D I h;refine wpAny_If (aW (r l s f H _ I h) λd n ζ=>?_);obtain⟨q,p,o⟩:=ζ;cases d with
 |true=>exact w l n f q D p o
 |false=>exact v l n f q D p o
end
abbrev TG:=V->St->Hp->(St->Hp->Prop)->Prop
abbrev qy:=List V->St->Hp->(St->Hp->Prop)->Prop
def PG(X:Cx)(a:aB)(t:TG):Prop :=
 ∀(d:List (ag×Obj)) (s:am) (c:St) (H:Hp) (v:V) (u:ai) (Q:St->Hp->Prop),Inv X d c H s->RelV v u->t v c H Q ->
  ar (ax X.prog X.w) X.A (pf a X.env u) (λ_ s'=>∃b f,Inv X d b f s'/\Q b f) X.xe s
def xG(X:Cx)(h:List aB)(t:qy):Prop :=
 ∀(f:List (ag×Obj)) (s:am) (b:St) (H:Hp) (c:List V) (d:List ai) (Q:St->Hp->Prop),Inv X f b H s->bx c d->t c b H Q ->
  ar (ax X.prog X.w) X.A (assignInOrder ((tT h X.env).map (·.2)) d) (λ_ i=>∃a g,Inv X f a g i/\Q a g) X.xe s
abbrev BJ:=V->V->V->Hp->(Hp->Prop)->Prop
def Hr(X:Cx)(t:BJ):Prop :=
 ∀(d:List (ag×Obj)) (s:am) (a:St) (H:Hp) (o i v:V) (b c u:ai) (Q:Hp->Prop),Inv X d a H s->RelV o b->RelV i c->RelV v u->t o i v H Q ->
  ar (ax X.prog X.w) X.A (setItem b c u) (λ_ g=>∃f,Inv X d a f g/\Q f) X.xe s
section
variable{X:Cx}{d:Pos}
def Ew(i:Nat):TG:=λv a H Q=>Q (a.set i (aa v)) H
theorem vW{i:Nat}{x:Str}(f:X.N.Nodup)(b:X.N[i]?=aa x)(a:Loc X.env.scope x)(c:X.fn x=ah\/X.env.scope.names.lookup x=aa .local:=by first|exact .inl rfl|exact .inr rfl|assumption):PG X (.Name x d) (Ew i):=by intro m s j H v u Q I r h;exact wpAny_assign_Name (yM I f b a r (λl g=>⟨_,H,g,h⟩) c)
def bL:qy:=λb a H Q=>b=[]/\Q a H
def Pi(t:TG)(u:qy):qy:=λc b H Q=>∃v r,c=v::r/\t v b H λa f=>u r a f Q
theorem RA:xG X [] bL:=by
 intro f s a H b c Q I r h;obtain⟨e,h⟩:=h;subst e;cases r;exact assignInOrder_nil ⟨a,H,I,h⟩
theorem IN{e:aB}{a:List aB}{t:TG}{u:qy}(n:PG X e t)(m:xG X a u)(l:(tT (e::a) X.env).map (·.2)=pf e X.env::(tT a X.env).map (·.2):=by rfl):xG X (e::a) (Pi t u):=by
 intro c s f H w y Q I r h;obtain⟨v,x,o,h⟩:=h;subst o;cases r with
 |cons r i=>rw[l];refine assignInOrder_cons (aW (n c s f H _ _ _ I r h) λ_ g ζ=>?_);obtain⟨b,q,p,j⟩:=ζ;exact m c g b q _ _ Q p i j
def RD(K:ay)(n:Nat)(t:qy):TG:=λv b H Q=>∃a xs,v=.ref a/\cu K H a xs/\xs.length=n/\t xs b H Q
theorem RL{c:List aB}{k:Nat}{t:qy}{n:Nat}(y:X.calm=ah)(h:xG X c t)(w:(tT c X.env).length=n:=by rfl) (A:(tT c X.env).findIdx? (·.1)=ae:=by rfl):PG X (.Tuple c k d) (RD X.K n t):=by
 intro j s g H v u Q I r f;obtain⟨a,xs,B,q,x,f⟩:=f;subst B;cases r;obtain⟨l,i,p,D⟩:=I.tuple q;refine assign_Tuple_tuple (I.ok.hd y) p (by simp[w,<-x,i.length]) A λz m=>?_;have C:Inv X j g H {s with heap:=z}:=I.kept (t':=s.toks) λb o e=>m b o (cZ (bN e)) e;exact h j _ g H xs _ Q C (by simpa using i) f
def SW(b c:TE)(t:BJ):TG:=λv a H Q=>b a H λo h=>c a h λi g=>t o i v g λf=>Q a f
theorem Kl{o i:aB}{g j:TE}{t:BJ}(B:PE X o g)(C:PE X i j)(A:Hr X t)(D:∀v,pf (.Subscript o i d) X.env v=(do
   let a <-nQ [v] (a6 o X.env)
   let b <-nQ [v,a] (a6 i X.env)
   standAt d
   nQ [v,a,b] (setItem a b v)
   release [v,a,b] []):=by intro _;rfl):PG X (.Subscript o i d) (SW g j t):=by
 intro f s c H v u Q I r h;rw[D];refine aq (j0 (aW (B f s c H _ I h) λa m ζ=>?_));obtain⟨x,L,G,p,z⟩:=ζ;refine aq (j0 (aW (C f m c L _ G z) λb l ζ=>?_));obtain⟨y,K,F,n,w⟩:=ζ;refine aq (wpAny_standAt (aq (j0 (aW (A f l c K x y v a b u _ F p n r w) λ_ M ζ=>?_))));obtain⟨J,E,q⟩:=ζ;exact wpAny_release ⟨c,J,E,q⟩
def Fa(b:TE)(g:TG):TS:=λD a H=>b a H λx c=>g x a c D.nx
theorem Oz{a e:aB}{c:TE}{g:TG}(p:PE X e c)(o:PG X a g)(n:swapsWithSole [a] e d.line X.env=pure aj:=by rfl)(m:swappedStores [a] e X.env=pure ae:=by rfl)(r:(tT [a] X.env).map (·.2)=[pf a X.env]:=by rfl):PS X (.Assign [a] e d) (Fa c g):=by intro f s b H D I h;refine wpAny_Assign_stores (aW (p f s b H _ I h) λv i ⟨x,w,u,j,l⟩=>?_) n m;rw[r];exact aW (o f i b w x v _ u j l) λ_ y q=>q
theorem Ci{i:Nat}{x:Str}{e:aB}{b:TE}{a:Pos}(p:X.N.Nodup)(m:X.N[i]?=aa x)(j:Loc X.env.scope x)(o:PE X e b)(l:jZ e (aa (.Name x a)) d.line X.env=pure aj:=by rfl)(n:X.fn x=ah\/X.env.scope.names.lookup x=aa .local:=by first|exact .inl rfl|exact .inr rfl|assumption):PS X (.Assign [.Name x a] e d) (Fa b (Ew i)):=by intro q s c H D I h;refine wpAny_Assign_Name (aW (o q s c H _ I h) λv A ⟨y,w,u,f,g⟩=>?_) l;exact yM u p m j f (λz r=>⟨_,w,r,g⟩) n
def M4(c:TT)(j:TS):TS:=λD a H=>∃W:Nat->St->Hp->Prop,(∃m,W m a H)/\∀m a H,W m a H ->
 c a H λb h=>if b=ah then ∃N:St->Hp->Prop,(∀f i,N f i->∃g,g<m/\W g f i)/\j {D with nx:=N,ct:=N,bk:=D.nx} a h else D.nx a h
theorem S9{c:aB}{i:List ba}{z:TT}{A:TS}(B:vZ (ax X.prog X.w) X.A X.env X.xe)(T:PT X c z)(Y:lf X i A):PS X (.While c i [] d) (M4 z A):=by
 intro x s K H D I h;obtain⟨W,⟨S,M⟩,l⟩:=h;refine wpAny_While (codeAny_whileLoop (λn Q=>∃j J,Inv X x j J Q/\W n j J) ?_ S ⟨K,H,I,M⟩);rintro n P ⟨g,G,Z,L⟩;refine tU B (aW (T x P g G _ Z (l n g G L)) λb O ζ=>?_);obtain⟨F,E,p⟩:=ζ;cases b with
 |true=>
  obtain⟨N,C,p⟩:=p;rw[if_pos rfl];refine tU B (aW (Y x O g F _ E p) λf s3 o=>?_);cases f with
  |next=>obtain⟨a,m,y,r⟩:=o;obtain⟨u,w,q⟩:=C a m r;exact⟨u,w,a,m,y,q⟩
  |cont=>obtain⟨a,m,y,r⟩:=o;obtain⟨u,w,q⟩:=C a m r;exact⟨u,w,a,m,y,q⟩
  |brk=>exact o
  |ret v=>exact o
 |false=>rw[if_neg eF];exact zw ⟨g,F,E,p⟩
end
structure It where
 go:Nat->Hp->Prop
 yld:Nat->Hp->V->Hp->Prop
 stop:Nat->Hp->Prop
def lM(X:Cx)(a:List (ag×Obj))(H:Hp)(b:ag):Prop :=
 H b=ae/\b≠X.env.locals/\b∉X.fs/\(b∈X.ex\/X.s₀.heap.objs.size<=b)/\(∀x c,X.env.cells.lookup x=aa c->c≠b)/\∀p∈X.pn++a,p.1≠b
theorem Inv.fpOk{X:Cx}{d:List (ag×Obj)}{g:St}{H f:Hp}{s:am}{b:ag}(I:Inv X d g H s)(a:s.heap.objs.size<=b)(i:f b=ae):lM X d f b:=by
 refine⟨i,qO (ix I.lt a),I.nofs a,.inr (c0 I.sz a),λx c e z=>?_,λp h z=>?_⟩
 .obtain⟨v,q⟩:=I.cell x c e;exact absurd (ix q.lt (by rw[z];exact a)) (fL _)
 .exact absurd (ix (bN (I.pin p h).1) (by rw[z];exact a)) (fL _)
structure qi(P:aV)(w:aL)(K:ay)(tg:aB)(J:It)(fp:List ag)(it:ag)(tn:Nat->aD->Prop):Prop where
 mem:it∈fp
 obj:∀i h,tn i h->∀b∈fp,∃o,h.get? b=aa o/\∀v,o.data≠.cell v
 keep:∀i h h',tn i h->(∀b∈fp,∀o,h.get? b=aa o->h'.get? b=aa o)->tn i h'
 item:∀(X:Cx),X.prog=P->X.w=w->X.K=K->X.calm=ah->∀(i:Nat) (af:List (ag×Obj)) (s:am) (σ:St) (H:Hp) (E:ai->am->Prop),Inv X af σ H s->(∀b∈fp,lM X af H b)->tn i s.heap->J.go i H ->
  ar (ax P w) X.A (mI (.ref it)) (λr s1=>∃u,r=aa u /\ ar (ax P w) X.A (CF tg (.ref it) u) (λ_ s2=>∃x H',Inv X af σ H' s2/\RelV x u/\J.yld i H x H'/\tn (i+1) s2.heap/\∀b∈fp,H' b=ae) E s1) E s
 done:∀(X:Cx),X.prog=P->X.w=w->X.K=K->X.calm=ah->∀(i:Nat) (af:List (ag×Obj)) (s:am) (σ:St) (H:Hp) (E:ai->am->Prop),Inv X af σ H s->(∀b∈fp,lM X af H b)->tn i s.heap->J.stop i H ->
  ar (ax P w) X.A (mI (.ref it)) (λr s1=>r=ae/\Inv X af σ H s1) E s
 self:∀(A:aX) (i:Nat) (s:am) (Q:ai->am->Prop) (E:ai->am->Prop),tn i s.heap->Q (.ref it) s->ar (ax P w) A (nR (.ref it)) Q E s
abbrev TI:=St->Hp->(It->Hp->Prop)->Prop
def xz(X:Cx)(i:List (ag×Obj))(j:St)(l:aB)(R:It->Hp->Prop)(a:ai)(f:am):Prop :=
 ∃(g:ag) (h:List ag) (d:Nat->aD->Prop) (J:It) (c:Hp),a=.ref g/\Inv X i j c f/\qi X.prog X.w X.K l J h g d/\d 0 f.heap/\(∀b∈h,lM X i c b)/\R J c
def PI(X:Cx)(f a:aB)(d:TI):Prop :=
 ∀(c:List (ag×Obj)) (s:am) (b:St) (H:Hp) (R:It->Hp->Prop),Inv X c b H s->d b H R ->
  ar (ax X.prog X.w) X.A (a6 a X.env) (λv g=>ar (ax X.prog X.w) X.A (nR v) (xz X c b f R) X.xe g) X.xe s
theorem uH{M:Model}{A:aX}{E:ai->am->Prop}{s:am}{c:aB}{d:ag}{u:ai}{o:Obj}{n:String}{b:Array ai}{Q:Unit->am->Prop}(f:s.heap.get? d=aa o)(j:o.cls=.type n)(i:o.data=.fields b)(g:["enumerate","zip","dict_itemiterator","dict_reverseitemiterator","odict_iterator","itertools.zip_longest","itertools.pairwise"].contains n=aj) (a:Q () s):ar M A (CF c (.ref d) u) Q E s:=by
 unfold CF;cases c <;> first
  |exact aG a
  | (cases u <;> first
    |exact aG a
    | (refine aq (wpAny_load f ?_)
       rw[j,i];show ar M A (if(["enumerate","zip","dict_itemiterator","dict_reverseitemiterator","odict_iterator","itertools.zip_longest","itertools.pairwise"].contains n&&b[0]? == aa (dq _))=ah then _ else _) Q E s;rw[if_neg (by intro h;rw[g,Bool.false_and]at h;cases h)];exact aG a))
def Au(K:ay)(a:ag):It :=⟨λi H=>∃xs x,cy K H a xs/\xs[i]?=aa x,λi H x b=>b=H/\∀xs,cy K H a xs->xs[i]?=aa x,λi H=>∃xs,cy K H a xs/\xs.length<=i⟩
def BG(K:ay)(a:ag):It :=⟨λi H=>∃xs x,cu K H a xs/\xs[i]?=aa x,λi H x b=>b=H/\∀xs,cu K H a xs->xs[i]?=aa x,λi H=>∃xs,cu K H a xs/\xs.length<=i⟩
def yB(a:Int)(n:Nat):It:=⟨λi _=>i<n,λi H x b=>b=H/\x=.int (a+i),λi _=>n<=i⟩
theorem PD{P:aV}{w:aL}{K:ay}{Q:aB}(a g:ag):qi P w K Q (Au K a) [g] g (λi h=>h.IsListIter g a i) where
 mem:=by simp
 obj:=λi h f b j=>by
  have e:b=g:=by simpa using j
  subst e;obtain⟨o,e,c,d⟩:=f;exact⟨o,e,λv z=>by rw[d]at z;cases z⟩
 keep:=λi h n f k=>f.at λo e=>k g (by simp) o e
 item:=by intro X C A D M i N s L H E I m f B;subst C A D;obtain⟨xs,x,l,y⟩:=B;obtain⟨r,q,p,T⟩:=I.list l;obtain⟨u,Y,S⟩:=q.get y;obtain⟨J,G,f2,f3,f4,F⟩:=m g (by simp);refine wpAny_pyNext_list_item f p.isList (x:=u) (by simpa using Y) λn O sb=>?_;have I1:Inv X N L H {s with heap:=n}:=I.turned (t':=s.toks) (λb o j e=>(sb.2 b j).trans e) J G f3 f4 F;obtain⟨o,e,c,d⟩:=id O;exact⟨u,rfl,uH (s:={s with heap:=n}) e c d (by decide) ⟨x,H,I1,S,⟨rfl,λys W=>by rw[I.list_inj W l];exact y⟩,O,λb j=>(m b j).1⟩⟩
 done:=by intro X C A D M i N s L H E I m f B;subst C A D;obtain⟨xs,l,y⟩:=B;obtain⟨r,q,p,T⟩:=I.list l;obtain⟨J,G,f2,f3,f4,F⟩:=m g (by simp);have hl:=q.length;exact wpAny_pyNext_list_end (I.ok.hd M) f p.isList (by simp;lia) λn Z=>⟨rfl,I.turned (t':=s.toks) (λb o j e=>Z b o j e) J G f3 f4 F⟩
 self:=λ_ _ _ _ _ f h=>wpAny_pyIter_listiter f h
theorem SE{P:aV}{w:aL}{K:ay}{Q:aB}(a j:ag):qi P w K Q (BG K a) [j] j (λi h=>h.IsTupleIter j a i) where
 mem:=by simp
 obj:=λi h f b l=>by
  have e:b=j:=by simpa using l
  subst e;obtain⟨o,e,c,d⟩:=f;exact⟨o,e,λv z=>by rw[d]at z;cases z⟩
 keep:=λi h q f k=>f.at λo e=>k j (by simp) o e
 item:=by intro X C A D M i N s L H E I n f B;subst C A D;obtain⟨xs,x,m,y⟩:=B;obtain⟨g,r,p,T⟩:=I.tuple m;obtain⟨u,Y,S⟩:=r.get y;obtain⟨J,G,f2,f3,f4,F⟩:=n j (by simp);refine wpAny_pyNext_tuple_item f (show s.heap.IsTuple a g.toArray from p) (x:=u) (by simpa using Y) λq O sb=>?_;have I1:Inv X N L H {s with heap:=q}:=I.turned (t':=s.toks) (λb o l e=>(sb.2 b l).trans e) J G f3 f4 F;obtain⟨o,e,c,d⟩:=id O;exact⟨u,rfl,uH (s:={s with heap:=q}) e c d (by decide) ⟨x,H,I1,S,⟨rfl,λys W=>by rw[I.tuple_inj W m];exact y⟩,O,λb l=>(n b l).1⟩⟩
 done:=by intro X C A D M i N s L H E I n f B;subst C A D;obtain⟨xs,m,y⟩:=B;obtain⟨g,r,p,T⟩:=I.tuple m;obtain⟨J,G,f2,f3,f4,F⟩:=n j (by simp);have hl:=r.length;exact wpAny_pyNext_tuple_end (I.ok.hd M) f (show s.heap.IsTuple a g.toArray from p) (by simp;lia) λq Z=>⟨rfl,I.turned (t':=s.toks) (λb o l e=>Z b o l e) J G f3 f4 F⟩
 self:=λ_ _ _ _ _ f h=>wpAny_pyIter_tupleiter f h
theorem Om{P:aV}{w:aL}{K:ay}{G:aB}(c:ag)(f:Int)(n:Nat):qi P w K G (yB f n) [c] c (λi h=>IsRangeIter h c (f+(i:Nat)*1) ((n:Int)-(i:Nat)) 1) where
 mem:=by simp
 obj:=λi h a b d=>by
  have e:b=c:=by simpa using d
  subst e;exact⟨_,a,λv z=>by
   have F:Data.fields _=Data.cell v:=z;cases F⟩
 keep:=λi h j a k=>k c (by simp) _ a
 item:=by intro X q l r p i C s A H E I g a m;subst q l r;obtain⟨y,x,f2,f3,f4,u⟩:=g c (by simp);have W:=Walks.range (prog:=X.prog) (w:=X.w) (I.ok.hd p) c f 1 n;refine W.item i s _ _ m a λv j B L D J=>?_;obtain⟨t,rfl⟩:=L;have N:Inv X C A H {s with heap:=j,toks:=B}:=I.turned (λb o d e=>J b o (by simpa using d) e) y x f3 f4 u;refine⟨_,rfl,uH (s:={s with heap:=j,toks:=B}) (n:="range_iterator") D rfl rfl (by decide) ⟨.int (f+i),H,N,⟨t,?_⟩,⟨rfl,rfl⟩,D,λb d=>(g b d).1⟩⟩;rw[Int.mul_one]
 done:=by intro X q l r p i C s A H E I g a m;subst q l r;obtain⟨y,x,f2,f3,f4,u⟩:=g c (by simp);exact wpAny_pyNext_range_end (I.ok.hd p) a (by have:n<=i:=m;lia) λj M=>⟨rfl,I.turned (t':=s.toks) (λb o d e=>M b o d e) y x f3 f4 u⟩
 self:=λ_ _ _ _ _ a h=>wpAny_pyIter_rangeiter a h
section
variable{X:Cx}{c:aB}
theorem K3{h:List (ag×Obj)}{f:St}{H:Hp}{s:am}{R:It->Hp->Prop}{E:ai->am->Prop}{a d:Int}{t u v:Tok}{g:Nat}(I:Inv X h f H s)(p:-(2^62)<=a)(n:a<2^62)(m:-(2^62)<=d)(l:d<2^62)(q:R (yB a (d-a).toNat) H):ar (ax X.prog X.w) X.A (nR (.ref s.heap.objs.size)) (xz X h f c R) E {s with heap:=s.heap.push {cls:=.type "range",data:=.fields #[.int a t,.int d u,.int 1 v]},toks:=g}:=by
 refine wpAny_pyIter_range (IsRange.new ..) (small_one p n m l) ?_;have i:Inv X h f H {s with heap:=s.heap.push {cls:=.type "range",data:=.fields #[.int a t,.int d u,.int 1 v]},toks:=g}:=I.kept λb o e=>bK _ e;refine⟨(s.heap.push {cls:=.type "range",data:=.fields #[.int a t,.int d u,.int 1 v]}).objs.size,[(s.heap.push {cls:=.type "range",data:=.fields #[.int a t,.int d u,.int 1 v]}).objs.size],_,_,H,rfl,i.kept (t':=g) λb o e=>bK _ e,Om _ a (d-a).toNat,?_,λb j=>?_,q⟩
 .have w:a+((0:Nat):Int)*1=a:=by simp
  have r:(((d-a).toNat:Nat):Int)-((0:Nat):Int)=Builtin.Range.rangeSize a d 1:=by rw[rangeSize_one];split <;> lia
  show IsRangeIter _ _ (a+((0:Nat):Int)*1) ((((d-a).toNat:Nat):Int)-((0:Nat):Int)) 1;rw[w,r];exact cG _ rfl
 .have e:b=(s.heap.push {cls:=.type "range",data:=.fields #[.int a t,.int d u,.int 1 v]}).objs.size:=by simpa using j
  subst e;exact i.fpOk (bd _) (i.hok.fresh (bd _))
def Lk(d:TA):TI:=λa H R=>d a H λb f=>∃j:Int,b=[.int j]/\-(2^62)<=j/\j<2^62/\R (yB 0 j.toNat) f
theorem Uk{a:aB}{f:TA}{p b:Pos}(u:Gl X "range")(o:X.mg "range"=ae)(v:PA X [a] f)(n:aR [a] X.env=[(aj,a6 a X.env)]:=by rfl):PI X c (.Call (.Name "range" p) [a] [] b) (Lk f):=by
 intro w s g H R I h;refine Call_ (vI I u o boot_range (Jg (aW (v b w s g H _ I h) λz A ⟨y,B,x,l,d⟩=>?_) n rfl));obtain⟨j,e,d,m,q⟩:=d;subst e;cases l with
 |cons r i=>
  cases i;obtain⟨t,rfl⟩:=r;exact call_range_1 (K3 x ∅ ∅ d m (by simpa using q))
def Sk(j:TI)(g:TG)(l:TS):TS:=λD a H=>j a H λJ o=>∃W:Nat->Nat->St->Hp->Prop,(∃m,W 0 m a o)/\∀i m a H,W i m a H ->
 (J.stop i H/\D.nx a H)\/(J.go i H/\∃N:St->Hp->Prop,(∀b d,N b d->∃h,h<m/\W (i+1) h b d)/\∀x d,J.yld i H x d->g x a d λf n=>l {D with nx:=N,ct:=N,bk:=D.nx} f n)
def vC(a:List ag)(h:aD):List (ag×Obj):=a.filterMap λb=>(h.get? b).map λo=>(b,o)
theorem yU{a:List ag}{h:aD}{b:ag}{o:Obj}(d:b∈a)(e:h.get? b=aa o):(b,o)∈vC a h:=List.mem_filterMap.mpr ⟨b,d,by rw[e];rfl⟩
theorem OD{a:List ag}{h:aD}{p:ag×Obj}(d:p∈vC a h):p.1∈a/\h.get? p.1=aa p.2:=by
 obtain⟨b,f,e⟩:=List.mem_filterMap.mp d;cases q:h.get? b with
 |none=>rw[q]at e;cases e
 |some o=>rw[q]at e;have g:(b,o)=p:=cY e;subst g;exact⟨f,q⟩
theorem Inv.pinned{f:List (ag×Obj)}{g:St}{H:Hp}{s:am}{a:List ag}(I:Inv X f g H s)(m:∀b∈a,lM X f H b)(l:∀b∈a,∃o,s.heap.get? b=aa o/\∀v,o.data≠.cell v):Inv X (f++vC a s.heap) g H s :=
 I.pins_of λp j=>(kB.mp j).elim (λz=>I.pin p (jd _ z)) λz=>by
  obtain⟨h,e⟩:=OD z;obtain⟨q,n,f2,_⟩:=m p.1 h;obtain⟨o,i,d⟩:=l p.1 h;rw[e]at i;cases i;exact⟨e,q,n,f2,d⟩
theorem Inv.unpinned{b d:List (ag×Obj)}{a:St}{H:Hp}{s:am}(I:Inv X (b++d) a H s):Inv X b a H s:=I.pins_of λp f=>I.pin p (jd _ (pc _ f))
theorem GJ{q:aB}{E:List ba}{wi:TI}{g:TG}{tb:TS}{Y:Pos}(L:vZ (ax X.prog X.w) X.A X.env X.xe)(hc:X.calm=ah)(hi:PI X c q wi)(hg:PG X c g)(w:lf X E tb)(hs:∀x,mJ q X.env x=pure x:=by intro _;rfl):PS X (.For c q E [] Y) (Sk wi g tb):=by
 intro F s σ H D I h;refine wpAny_For (aW (hi F s σ H _ I h) λv s1 h1=>aW h1 λitv s2 h2=>?_) hs;obtain⟨it,O,tn,J,H2,e,I2,T,bf,f2,W,⟨m0,w0⟩,G⟩:=h2;subst e;have p:∀{B:Hp},(∀b∈O,B b=ae)->∀b∈O,lM X F B b:=λhn b w=>⟨hn b w,(f2 b w).2⟩
 refine codeAny_forLoop_any (λn s'=>∃i l B,Inv X F l B s'/\tn i s'.heap/\(∀b∈O,B b=ae)/\W i n l B) ?_ m0 ⟨0,σ,H2,I2,bf,λb w=>(f2 b w).1,w0⟩;rintro n s3 ⟨i,j,P,I3,bO,M,w3⟩;rcases G i n j P w3 with⟨stop,qn⟩|⟨go,N,hN,step⟩
 .refine tU L (aW (T.done X rfl rfl rfl hc i F s3 j P X.xe I3 (p M) bO stop) λr s4 ζ=>?_);obtain⟨Z,I4⟩:=ζ;subst Z;exact zw ⟨j,P,I4,qn⟩
 .refine tU L (aW (T.item X rfl rfl rfl hc i F s3 j P X.xe I3 (p M) bO go) λr s4 ζ=>?_);obtain⟨u,Z,h4⟩:=ζ;subst Z;refine tU L (aW h4 λ_ s5 ζ=>?_);obtain⟨x,H5,I5,r5,y5,cx,fr5⟩:=ζ;have I5':=I5.pinned (p fr5) (T.obj _ _ cx);refine tU L (aW (hg _ s5 j H5 x u _ I5' r5 (step x H5 y5)) λ_ s6 ζ=>?_);obtain⟨Q,H6,I6,q6⟩:=ζ;refine tU L (aW (w _ s6 Q H6 _ I6 q6) λf S C=>?_);have y:∀{a:St}{A:Hp},Inv X (F++vC O s5.heap) a A S->N a A->∃m,m<n/\∃i l B,Inv X F l B S/\tn i S.heap/\(∀b∈O,B b=ae)/\W i m l B:=λ{a A} z K=>by obtain⟨m',hm,w7⟩:=hN a A K;refine⟨m',hm,i+1,a,A,z.unpinned,T.keep _ _ _ cx λb w o e=>(z.pin (b,o) (jd _ (jd _ (yU w e)))).1,λb w=>?_,w7⟩;obtain⟨o,e,d⟩:=T.obj _ _ cx b w;exact(z.pin (b,o) (jd _ (jd _ (yU w e)))).2.1
  cases f with
  |next=>obtain⟨a,A,z,K⟩:=C;exact y z K
  |cont=>obtain⟨a,A,z,K⟩:=C;exact y z K
  |brk=>obtain⟨a,A,z,C⟩:=C;exact⟨a,A,z.unpinned,C⟩
  |ret v=>obtain⟨x7,a,A,z,r7,C⟩:=C;exact⟨x7,a,A,z.unpinned,r7,C⟩
end
abbrev R2:=V->V->Hp->VK->Prop
def bX(X:Cx)(f:ai->ai->Sem ai)(r:R2):Prop :=
 ∀(b:List (ag×Obj)) (s:am) (a:St) (H:Hp) (x y:V) (v u:ai) (Q:VK),Inv X b a H s->RelV x v->RelV y u->r x y H Q ->
  ar (ax X.prog X.w) X.A (f v u) (EP X b a Q) X.xe s
def zp(X:Cx)(f:ai->Sem ai)(r:V->Hp->VK->Prop):Prop :=
 ∀(b:List (ag×Obj)) (s:am) (a:St) (H:Hp) (x:V) (v:ai) (Q:VK),Inv X b a H s->RelV x v->r x H Q ->
  ar (ax X.prog X.w) X.A (f v) (EP X b a Q) X.xe s
def eU(X:Cx)(f:ai)(r:List V->Hp->VK->Prop):Prop :=
 ∀(c:List (ag×Obj)) (s:am) (a:St) (H:Hp) (xs:List V) (b:List ai) (Q:VK),Inv X c a H s->bx xs b->r xs H Q ->
  ar (ax X.prog X.w) X.A (call f b) (EP X c a Q) X.xe s
def xD(r:R2)(c b:TE):TE:=λa H Q=>c a H λx f=>b a f λy d=>r x y d Q
def RY(r:V->Hp->VK->Prop)(b:TE):TE:=λa H Q=>b a H λx c=>r x c Q
def rI(C:Int->Int->Prop)(g:Int->Int->V):R2:=λx y H Q=>∃i j,x=.int i/\y=.int j/\C i j/\Q (g i j) H
def mx(g:Int->Int->V):R2:=λx y H Q=>∃i j,x=.int i/\y=.int j/\Q (g i j) H
def rU(g:Int->V):V->Hp->VK->Prop:=λx H Q=>∃i,x=.int i/\Q (g i) H
section
variable{X:Cx}{a b c:aB}{d m n:TE}{l:Pos}
theorem Cc(F:PE X a d)(E:PE X b m){q:List (ag×Obj)}{s:am}{g:St}{H:Hp}{R:V->V->Hp->Prop}(I:Inv X q g H s)(h:d g H λx r=>m g r λy i=>R x y i) {Q:ai->am->Prop}{f:ai->ai->Sem ai}(D:∀v u p x y i,Inv X q g i p->RelV x v->RelV y u->R x y i->ar (ax X.prog X.w) X.A (f v u) Q X.xe p):ar (ax X.prog X.w) X.A (a6 a X.env) (λv o=>ar (ax X.prog X.w) X.A (a6 b X.env) (λu j=>ar (ax X.prog X.w) X.A (f v u) Q X.xe j) X.xe o) X.xe s:=by refine aW (F q s g H _ I h) λv w ⟨x,r,J,A,C⟩=>?_;refine aW (E q w g r _ J C) λu p ζ=>?_;obtain⟨y,i,G,z,B⟩:=ζ;exact D v u p x y i G A z B
theorem Kt{f:Operator}{r:R2}(p:bX X (iy f) r)(z:PE X a d)(w:PE X b m):PE X (.BinOp a f b l) (xD r d m):=by intro A s g H Q I h;exact wpAny_BinOp (Cc z w I h λv u i x y C B o j q=>p A i g C x y v u Q B o j q)
theorem Sn{g:UnaryOp}{r:V->Hp->VK->Prop}(q:zp X (unaryOp g) r)(u:PE X a d):PE X (.UnaryOp g a l) (RY r d):=by intro i s f H Q I h;exact UnaryOp_ (aW (u i s f H _ I h) λv j ⟨x,y,w,o,p⟩=>q i j f y x v Q w o p)
theorem BH{f:ai->ai->Sem ai}{C:Int->Int->Prop}{g:Int->Int->Int}(o:∀(i j:Int) (t u:Tok) (s:am) (Q:ai->am->Prop) (E:ai->am->Prop),C i j->Q (.int (g i j) s.toks) {s with toks:=s.toks+1}->ar (ax X.prog X.w) X.A (f (.int i t) (.int j u)) Q E s):bX X f (rI C λi j=>.int (g i j)):=by intro B s A H x y v u Q I w r h;obtain⟨i,j,rfl,rfl,z,q⟩:=h;obtain⟨t,rfl⟩:=w;obtain⟨p,rfl⟩:=r;exact o i j t p s _ _ z ⟨.int (g i j),H,I.tok _,⟨_,rfl⟩,q⟩
theorem GK{f:ai->ai->Sem ai}{g:Int->Int->Int}(o:∀(i j:Int) (t u:Tok) (s:am) (Q:ai->am->Prop) (E:ai->am->Prop),Q (.int (g i j) s.toks) {s with toks:=s.toks+1}->ar (ax X.prog X.w) X.A (f (.int i t) (.int j u)) Q E s):bX X f (mx λi j=>.int (g i j)):=by intro A s z H x y v u Q I w r h;obtain⟨i,j,rfl,rfl,q⟩:=h;obtain⟨t,rfl⟩:=w;obtain⟨p,rfl⟩:=r;exact o i j t p s _ _ ⟨.int (g i j),H,I.tok _,⟨_,rfl⟩,q⟩
theorem CB{f:ai->ai->Sem ai}{g:Int->Int->Bool}(o:∀(i j:Int) (t u:Tok) (s:am) (Q:ai->am->Prop) (E:ai->am->Prop),Q (.bool (g i j)) s->ar (ax X.prog X.w) X.A (f (.int i t) (.int j u)) Q E s):bX X f (mx λi j=>.bl (g i j)):=by intro A s z H x y v u Q I w r h;obtain⟨i,j,rfl,rfl,q⟩:=h;obtain⟨t,rfl⟩:=w;obtain⟨p,rfl⟩:=r;exact o i j t p s _ _ ⟨.bl (g i j),H,I,rfl,q⟩
def FR(i j:Int):Prop:=0<=j/\j<=1000000/\i.natAbs<2^64
def BB(i j:Int):Prop:=(-(2^64)<i/\i<2^64)\/(-(2^64)<j/\j<2^64)
theorem BB.ok{i j:Int}(h:BB i j):IntMulOk i j:=by
 rcases h with⟨h1,h2⟩|⟨h1,h2⟩
 .exact .of_left (intBits_le_64 h1 h2)
 .exact .of_right (intBits_le_64 h1 h2)
theorem Vm:bX X (iy .Add) (mx λi j=>.int (i+j)):=GK λ_ _ _ _ _ _ _ q=>add_int q
theorem uE:bX X (iy .Sub) (mx λi j=>.int (i-j)):=GK λ_ _ _ _ _ _ _ q=>sub_int q
theorem U_:bX X (iy .Mult) (rI BB λi j=>.int (i*j)):=BH λ_ _ _ _ _ _ _ f q=>mul_int q f.ok
theorem se:bX X (iy .Mod) (rI (λ_ j=>0<j) λi j=>.int (i % j)):=BH λi j _ _ _ _ _ f q=>by have g:(0:Int)<j:=f;exact mod_int' ∅ (by rw[Int.fmod_eq_emod_of_nonneg i ∅];exact q)
theorem So:bX X (iy .Pow) (rI FR λi j=>.int (i^j.toNat)):=BH λ_ _ _ _ _ _ _ f q=>pow_int_small f.1 f.2.1 f.2.2 q
theorem K8{f:ai->Sem ai}{g:Int->Int}(j:∀(i:Int) (t:Tok) (s:am) (Q:ai->am->Prop) (E:ai->am->Prop),Q (.int (g i) s.toks) {s with toks:=s.toks+1}->ar (ax X.prog X.w) X.A (f (.int i t)) Q E s):zp X f (rU λi=>.int (g i)):=by intro r s p H x v Q I o h;obtain⟨i,rfl,q⟩:=h;obtain⟨t,rfl⟩:=o;exact j i t s _ _ ⟨.int (g i),H,I.tok _,⟨_,rfl⟩,q⟩
theorem oM:zp X (unaryOp .USub) (rU λi=>.int (-i)):=K8 λ_ _ _ _ _ q=>neg_int q
end
def nB:V->V->Bool
 |.non,.non=>ah|.non,.int _=>ah|.int _,.non=>ah|.non,.bl _=>ah|.bl _,.non=>ah|.non,.str _=>ah|.str _,.non=>ah
 |.int _,.int _=>ah|.bl _,.bl _=>ah|.str _,.str _=>ah|.byt _,.byt _=>ah
 |.int _,.str _=>ah|.str _,.int _=>ah|.bl _,.str _=>ah|.str _,.bl _=>ah
 |_,_=>aj
def G6:R2:=λx y H Q=>nB x y=ah/\Q (.bl (decide (x=y))) H
def FY:R2:=λx y H Q=>nB x y=ah/\Q (.bl (!decide (x=y))) H
theorem GO{i j:Int}:decide (V.int i=V.int j)=(i == j):=by rw[lQ];simp
theorem Gd{i j:Bool}:decide (V.bl i=V.bl j)=(i == j):=by rw[lQ];simp
theorem Fk{i j:Str}:decide (V.str i=V.str j)=(i == j):=by rw[lQ];simp
theorem IV{i j:Array UInt8}:decide (V.byt i=V.byt j)=(i.toList == j.toList):=by
 rw[lQ];cases i;cases j;simp
section
variable{X:Cx}{a b c:aB}{l g o:TE}{m:Pos}
theorem dJ{h:List (ag×Obj)}{d:St}{H:Hp}{s:am}{Q:VK}{k f:Bool}(I:Inv X h d H s)(q:Q (.bl k) H)(e:k=f):EP X h d Q (.bool f) s:=by subst e;exact⟨.bl k,H,I,rfl,q⟩
theorem Vi:bX X (eE .Eq) G6:=by
 intro w s r H x y v u Q I p d h;obtain⟨n,q⟩:=h;cases x with
 |non=>
  cases p;cases y with
  |non=>cases d;exact PySem.EqNone.eq_none_none (dJ I q (by simp))
  |bl j=>cases d;exact PySem.EqNone.eq_none_bool (dJ I q (by simp))
  |int j=>obtain⟨f,rfl⟩:=d;exact PySem.EqNone.eq_none_int (dJ I q (by simp))
  |str j=>obtain⟨f,rfl⟩:=d;exact PySem.EqNone.eq_none_str (dJ I q (by simp))
  |_=>exact absurd (show aj=ah from n) eF
 |bl i=>
  cases p;cases y with
  |non=>cases d;exact PySem.EqNone.eq_bool_none (dJ I q (by simp))
  |bl j=>cases d;exact eq_bool (dJ I q Gd)
  |str j=>obtain⟨f,rfl⟩:=d;exact PySem.EqMixed.eq_bool_str (dJ I q (by simp))
  |_=>exact absurd (show aj=ah from n) eF
 |int i=>
  obtain⟨t,rfl⟩:=p;cases y with
  |non=>cases d;exact PySem.EqNone.eq_int_none (dJ I q (by simp))
  |int j=>obtain⟨f,rfl⟩:=d;exact eq_int (dJ I q GO)
  |str j=>obtain⟨f,rfl⟩:=d;exact PySem.EqMixed.eq_int_str (dJ I q (by simp))
  |_=>exact absurd (show aj=ah from n) eF
 |str i=>
  obtain⟨t,rfl⟩:=p;cases y with
  |non=>cases d;exact PySem.EqNone.eq_str_none (dJ I q (by simp))
  |bl j=>cases d;exact PySem.EqMixed.eq_str_bool (dJ I q (by simp))
  |int j=>obtain⟨f,rfl⟩:=d;exact PySem.EqMixed.eq_str_int (dJ I q (by simp))
  |str j=>obtain⟨f,rfl⟩:=d;exact eq_str (dJ I q Fk)
  |_=>exact absurd (show aj=ah from n) eF
 |byt i=>
  obtain⟨t,rfl⟩:=p;cases y with
  |byt j=>obtain⟨f,rfl⟩:=d;exact PySem.W.eq_bytes (dJ I q IV)
  |_=>exact absurd (show aj=ah from n) eF
 |_=>cases y <;> exact absurd (show aj=ah from n) eF
theorem Vw:bX X (eE .NotEq) FY:=by
 intro w s r H x y v u Q I p d h;obtain⟨n,q⟩:=h;cases x with
 |non=>
  cases p;cases y with
  |non=>cases d;exact PySem.EqNone.ne_none_none (dJ I q (by simp))
  |bl j=>cases d;exact PySem.EqNone.ne_none_bool (dJ I q (by simp))
  |int j=>obtain⟨f,rfl⟩:=d;exact PySem.EqNone.ne_none_int (dJ I q (by simp))
  |str j=>obtain⟨f,rfl⟩:=d;exact PySem.EqNone.ne_none_str (dJ I q (by simp))
  |_=>exact absurd (show aj=ah from n) eF
 |bl i=>
  cases p;cases y with
  |non=>cases d;exact PySem.EqNone.ne_bool_none (dJ I q (by simp))
  |bl j=>cases d;exact ne_bool (dJ I q (congrArg not Gd))
  |str j=>obtain⟨f,rfl⟩:=d;exact PySem.EqMixed.ne_bool_str (dJ I q (by simp))
  |_=>exact absurd (show aj=ah from n) eF
 |int i=>
  obtain⟨t,rfl⟩:=p;cases y with
  |non=>cases d;exact PySem.EqNone.ne_int_none (dJ I q (by simp))
  |int j=>obtain⟨f,rfl⟩:=d;exact ne_int (dJ I q (congrArg not GO))
  |str j=>obtain⟨f,rfl⟩:=d;exact PySem.EqMixed.ne_int_str (dJ I q (by simp))
  |_=>exact absurd (show aj=ah from n) eF
 |str i=>
  obtain⟨t,rfl⟩:=p;cases y with
  |non=>cases d;exact PySem.EqNone.ne_str_none (dJ I q (by simp))
  |bl j=>cases d;exact PySem.EqMixed.ne_str_bool (dJ I q (by simp))
  |int j=>obtain⟨f,rfl⟩:=d;exact PySem.EqMixed.ne_str_int (dJ I q (by simp))
  |str j=>obtain⟨f,rfl⟩:=d;exact ne_str (dJ I q (congrArg not Fk))
  |_=>exact absurd (show aj=ah from n) eF
 |byt i=>
  obtain⟨t,rfl⟩:=p;cases y with
  |byt j=>obtain⟨f,rfl⟩:=d;exact PySem.W.ne_bytes (dJ I q (congrArg not IV))
  |_=>exact absurd (show aj=ah from n) eF
 |_=>cases y <;> exact absurd (show aj=ah from n) eF
theorem B7:bX X (eE .Lt) (mx λi j=>.bl (decide (i<j))):=CB λ_ _ _ _ _ _ _ q=>lt_int q
theorem rX:bX X (eE .LtE) (mx λi j=>.bl (decide (i<=j))):=CB λ_ _ _ _ _ _ _ q=>le_int q
theorem u_:bX X (eE .Gt) (mx λi j=>.bl (decide (j<i))):=CB λ_ _ _ _ _ _ _ q=>gt_int q
theorem Ve:bX X (eE .In) (λx y H Q=>∃i j,x=.str i/\y=.str j/\Q (.bl (!(Jh j i 0 j.length 1).isEmpty)) H):=by intro r s n H x y v u Q I f d h;obtain⟨i,j,rfl,rfl,q⟩:=h;obtain⟨t,rfl⟩:=f;obtain⟨p,rfl⟩:=d;exact in_str (dJ I q rfl)
theorem Kv:bX X (eE .Is) (λx y H Q=>y=.non/\Q (.bl (decide (x=.non))) H):=by
 intro j s i H x y v u Q I d f h;obtain⟨rfl,q⟩:=h;cases f;refine is_none_gen (dJ I q ?_);cases x <;> first
  | (cases d;rfl)
  | (obtain⟨t,rfl⟩:=d;rfl)
theorem bX.or{f:ai->ai->Sem ai}{r n:R2}(h:bX X f r)(w:bX X f n):bX X f (λx y H Q=>r x y H Q\/n x y H Q):=by
 intro p s d H x y v u Q I j i q;rcases q with q|q
 .exact h p s d H x y v u Q I j i q
 .exact w p s d H x y v u Q I j i q
theorem RS{d:CmpOp}{r:R2}(p:bX X (eE d) r)(A:PE X a l)(z:PE X b g)(w:qN d b=aj):PE X (.Compare a [d] [b] m) (xD r l g):=by intro B s f H Q I h;exact wpAny_Compare1 (Cc A z I h λv u i x y D C n j q=>p B i f D x y v u Q C n j q) w
def Gj(t:TE):TT:=λd H Q=>t d H λx f=>∃k,x=.bl k/\Q k f
theorem NR{f:CmpOp}{r:R2}(D:bX X (eE f) r)(G:PE X a l)(F:PE X b g)(E:qN f b=aj):PT X (.Compare a [f] [b] m) (Gj (xD r l g)):=by
 intro i s d H Q I h;refine wpAny_isTrue_Compare1 (aW (G i s d H _ I h) λv n ⟨x,O,L,w,C⟩=>aW (F i n d O _ L C) λu j ⟨y,N,K,q,B⟩=>aW (D i j d N x y v u _ K w q B) λc P ⟨z,M,J,p,k,e,A⟩=>?_) E;subst e;cases p;exact pe ⟨M,J,A⟩
def Az(r i:R2)(l g o:TE):TE:=λd H Q=>l d H λx p=>g d p λy n=>r x y n λz f=>∃k,z=.bl k /\
 (if k=ah then o d f λh j=>i y h j Q else Q (.bl aj) f)
theorem QE{n f:CmpOp}{r q:R2}(S:bX X (eE n) r)(gJ:bX X (eE f) q)(Z:PE X a l)(Y:PE X b g)(W:PE X c o)(T:lastMarks [n,f] [b,c]=aj:=by with_unfolding_all rfl):PE X (.Compare a [n,f] [b,c] m) (Az r q l g o):=by
 intro j s i H Q I h;refine Compare_chain (aW (Z j s i H _ I h) λv J ⟨x,H1,I1,M,P⟩=>chain_link (aW (Y j J i H1 _ I1 P) λu G ⟨y,H2,I2,p,O⟩=>aW (S j G i H2 x y v u _ I2 M p O) λd F ⟨z,B,A,L,k,e,w⟩=>?_)) T;subst e;cases L;refine pe ?_;cases k with
 |false=>exact ite_ff ⟨.bl aj,B,A,rfl,w⟩
 |true=>exact ite_tt (chain_last (aW (W j F i B _ A w) λD E ⟨C,H4,I4,K,N⟩=>gJ j E i H4 y C u D Q I4 p K N))
theorem Rg{n f:CmpOp}{r q:R2}(Y:bX X (eE n) r)(gJ:bX X (eE f) q)(ha:PE X a l)(hb:PE X b g)(hc:PE X c o)(Z:lastMarks [n,f] [b,c]=aj:=by with_unfolding_all rfl):PT X (.Compare a [n,f] [b,c] m) (Gj (Az r q l g o)):=by
 intro j s i H Q I h;refine isTrue_chain (aW (ha j s i H _ I h) λv J ⟨x,H1,I1,N,T⟩=>test_link (aW (hb j J i H1 _ I1 T) λu G ⟨y,H2,I2,p,S⟩=>aW (Y j G i H2 x y v u _ I2 N p S) λd F ⟨z,B,A,M,k,e,w⟩=>?_)) Z;subst e;cases M;refine pe ?_;cases k with
 |false=>
  obtain⟨k',e',W⟩:=w;cases e';exact ite_ff ⟨B,A,W⟩
 |true=>
  refine ite_tt (test_last (aW (hc j F i B _ A w) λD E ⟨C,H4,I4,L,P⟩=>aW (gJ j E i H4 y C u D _ I4 p L P) λd' s5 ζ=>?_));obtain⟨z2,H5,I5,K,k2,e2,O⟩:=ζ;subst e2;cases K;exact pe ⟨H5,I5,O⟩
theorem sD:(bh:Nat)<2^63:=by rw[lR];decide
theorem Nh:bX X (iy .Add) (λx y H Q=>∃i j,x=.str i/\y=.str j/\i.length+j.length<=bh/\Q (.str (i++j)) H):=by intro z s r H x y v u Q I n f h;obtain⟨i,j,rfl,rfl,p,q⟩:=h;obtain⟨t,rfl⟩:=n;obtain⟨d,rfl⟩:=f;exact add_str (λd w=>⟨.str (i++j),H,I.tok _,⟨_,rfl⟩,q⟩) p
theorem vals1{x:V}{d:List ai}(r:bx [x] d):∃u,d=[u]/\RelV x u:=by
 cases r with
 |cons h f=>cases f;exact⟨_,rfl,h⟩
def Fg(K:ay)(x:V)(H:Hp)(n:Nat):Prop :=
 match x with
 |.str y=>y.length<=bh/\n=y.length
 |.byt y=>y.size<=bh/\n=y.size
 |.ref p=>(∃xs,cy K H p xs/\n=xs.length)\/∃xs,cu K H p xs/\n=xs.length
 |_=>False
theorem iM:eU X (.builtin "len") (λxs H Q=>∃x n,xs=[x]/\Fg X.K x H n/\Q (.int n) H):=by
 intro F s B H xs C Q I r h;obtain⟨x,n,rfl,e,q⟩:=h;obtain⟨u,rfl,f⟩:=vals1 r;have E:=sD;have D:bh=16777216:=lR;cases x with
 |str y=>obtain⟨t,rfl⟩:=f;obtain⟨A,d⟩:y.length<=bh/\n=y.length:=e;subst d;exact len_str ∅ ⟨.int _,H,I.tok _,⟨_,rfl⟩,q⟩
 |byt y=>obtain⟨t,rfl⟩:=f;obtain⟨A,d⟩:y.size<=bh/\n=y.size:=e;subst d;exact PySem.W.len_bytes ∅ ⟨.int _,H,I.tok _,⟨_,rfl⟩,q⟩
 |ref p=>
  cases f;have d:(∃xs,cy X.K H p xs/\n=xs.length)\/∃xs,cu X.K H p xs/\n=xs.length:=e;rcases d with⟨xs,hx,d⟩|⟨xs,hx,d⟩
  .subst d;obtain⟨v,i,j,z⟩:=I.list hx;have w:=i.length;exact Calls.call_len_list j.isList (by simp only[cH];lia) ⟨.int xs.length,H,I.tok _,⟨_,by simp only[cH];rw[w]⟩,q⟩
  .subst d;obtain⟨v,i,j,z⟩:=I.tuple hx;have w:=i.length;exact len_tuple j (by simp only[cH];lia) ⟨.int xs.length,H,I.tok _,⟨_,by simp only[cH];rw[w]⟩,q⟩
 |_=>exact(show False from e).elim
end
structure IQ(h:aD)(x dx C:ag)(mA:Str->Option ai):Prop where
 obj:h.get? x=aa (PySem.W.instObj C dx)
 ns:h.Ns1 dx mA
 ne:dx≠x
theorem RG{h:aD}{g:ag}{d:Str->Option ai}(n:h.Ns1 g d):∃c,h.get? g=aa c/\∀b,PySem.W.lookIn b c=aa (d b):=by
 obtain⟨o,f,u,l,r,p,_,m⟩:=n;refine⟨o,l,λb=>?_⟩;have e:=m b;unfold nsFind findBy at e;rw[<-Array.find?_toList]at e;unfold PySem.W.lookIn;rw[r];dsimp only;split
 .rename_i y q;rw[q]at e;exact congrArg aa e
 .rename_i q;rw[q]at e;have a:f.toList.any (·.refKey)=aj:=by rw[Ji];intro y j;obtain⟨z,t,i⟩:=p y (Array.mem_toList_iff.mp j);simp[DictEntry.refKey,i]
  have s:¬f.toList.any (·.refKey)=ah:=by rw[a];exact eF
  rw[if_neg s];exact congrArg aa e
theorem IQ.look{h:aD}{x d C:ag}{c:Str->Option ai}(I:IQ h x d C c):∃b,v3 h x (PySem.W.instObj C d) C (aa b)/\∀a,PySem.W.lookIn a b=aa (c a) :=
 let ⟨b,ho,hl⟩:=RG I.ns
 ⟨b,⟨I.obj,rfl,rfl,ho⟩,hl⟩
theorem o_.some_of{v:V}{o:Option ai}(r:o_ (aa v) o):∃u,o=aa u/\RelV v u:=by
 cases o with
 |none=>exact(show False from r).elim
 |some u=>exact⟨u,rfl,r⟩
section
variable{P:aV}{w:aL}{H i:Hp}{h g:aD}{a C b:ag}{fs c:List (Str×V)}
theorem Pb(l:dG P w H h)(e:H a=aa (.ins C b fs)):∃j,IQ h a b C j/\(∀f,o_ (fs.lookup f) (j f))/\PySem.Within j (fs.map (·.1))/\fs.length<=1000/\H b=aa (.own a):=by
 obtain⟨d,z,o,m,j,n,r,q⟩:=(show cB P w H h a (.ins C b fs)from l a _ e)
 exact⟨j,⟨m,n,o⟩,r,q,z,d⟩
end
structure G3(K:ay)(C:ag):Prop where
 pg:PySem.W.plainGet K C lS=ah
 hd:PySem.W.hasDictIn K C=ah
 po:PySem.W.plainOver K C=ah
 sa:qP K (.ref C) "__setattr__"=aa (aa (.builtin "object.__setattr__"))
theorem G3.get{K:ay}{C:ag}(c:G3 K C)(f:Str):PySem.W.plainGet K C f=ah:=c.pg
section
variable{X:Cx}{f:List (ag×Obj)}{d:St}{H:Hp}{s:am}{A:aX}{E:ai->am->Prop}{Q:ai->am->Prop}{c:ai}{b:Bool}
inductive i_(K:ay)(H:Hp):V->ai->Prop where
 |non:i_ K H .non (.type "NoneType")
 |bl (x:Bool):i_ K H (.bl x) (.type "bool")
 |int (i:Int):i_ K H (.int i) (.type "int")
 |str (x:Str):i_ K H (.str x) (.type "str")
 |flt (x:UInt64):i_ K H (.flt x) (.type "float")
 |lst {a:ag}{xs:List V} (e:H a=aa (.lst xs)):i_ K H (.ref a) (.type "list")
 |frz {a:ag}{o:Obj}{xs:List V} (e:H a=aa (.frz o (.lst xs))):i_ K H (.ref a) (.type "list")
 |tup {a:ag}{xs:List V} (e:H a=aa (.tup xs)):i_ K H (.ref a) (.type "tuple")
 |dK {a:ag}{kvs:List (aF×V)} (e:H a=aa (.dK kvs)):i_ K H (.ref a) (.type "dict")
 |dT {a:ag}{kvs:List (List aF×V)} (e:H a=aa (.dT kvs)):i_ K H (.ref a) (.type "dict")
 |ins {a C dx:ag}{fs:List (Str×V)} (e:H a=aa (.ins C dx fs)) (cl:G3 K C) (ha:qP K (.ref C) "__class__"=aa (aa (.builtin "object.__class__")))
   (hn:Jj K (.builtin "object.__class__") "__get__"=aa (aa (.builtin "getset_descriptor.__get__"))) (wD:PySem.W.takesIn K (.builtin "object.__class__")=aa ah)
   (hm:zx K C (.type "object")=aa ah):i_ K H (.ref a) (.ref C)
theorem NW{x:V}{u t:ai}(I:Inv X f d H s)(g:RelV x u)(ty:i_ X.K H x t)(e:eQ X.K t c=aa b)(h:∀m,Q (.bool b) {s with toks:=m}):ar (ax X.prog X.w) A (call (.builtin "isinstance") [u,c]) Q E s:=by
 cases ty with
 |non=>cases (show u=Value.none from g);exact lT PySem.W.kitx_none I.kIn True.intro e (λz=>nomatch z) h
 |bl y=>cases (show u=Value.bool y from g);exact lT PySem.W.kitx_bool I.kIn True.intro e (λz=>nomatch z) h
 |int i=>obtain⟨t,q⟩:=(show ∃t,u=Value.int i t from g);cases q;exact lT PySem.W.kitx_int I.kIn True.intro e (λz=>nomatch z) h
 |str y=>obtain⟨t,q⟩:=(show ∃t,u=Value.str y t from g);cases q;exact lT PySem.W.kitx_str I.kIn True.intro e (λz=>nomatch z) h
 |flt y=>obtain⟨t,q⟩:=(show ∃t,u=Value.float y t from g);cases q;exact lT PySem.W.kitx_float I.kIn True.intro e (λz=>nomatch z) h
 |@lst a xs ea=>
  cases (show u=Value.ref a from g);obtain⟨_,_,n,_,j⟩:=(show cB X.prog X.w H s.heap a (.lst xs)from I.hok a _ ea)
  exact lT PySem.W.kitx_list I.kIn ⟨_,j,rfl⟩ e (λz=>nomatch z) h
 |@frz a ob xs ea=>
  cases (show u=Value.ref a from g);obtain⟨_,_,_,n,_,j⟩:=(show cB X.prog X.w H s.heap a (.frz ob (.lst xs))from I.hok a _ ea)
  exact lT PySem.W.kitx_list I.kIn ⟨_,j,rfl⟩ e (λz=>nomatch z) h
 |@tup a xs ea=>
  cases (show u=Value.ref a from g);obtain⟨_,_,_,p,_⟩:=(show cB X.prog X.w H s.heap a (.tup xs)from I.hok a _ ea)
  obtain⟨o,j,l,_⟩:=p;exact lT PySem.W.kitx_tuple I.kIn ⟨o,j,l⟩ e (λz=>nomatch z) h
 |@dK a kvs ea=>
  cases (show u=Value.ref a from g);obtain⟨_,_,w,_,p⟩:=(show cB X.prog X.w H s.heap a (.dK kvs)from I.hok a _ ea)
  obtain⟨o,r,v,j,l,_⟩:=p;exact lT PySem.W.kitx_dict I.kIn ⟨o,j,l.1⟩ e (λz=>nomatch z) h
 |@dT a kvs ea=>
  cases (show u=Value.ref a from g);obtain⟨_,_,xs,_,o,r,v,j,l,_⟩:=(show cB X.prog X.w H s.heap a (.dT kvs)from I.hok a _ ea)
  exact lT PySem.W.kitx_dict I.kIn ⟨o,j,l.1⟩ e (λz=>nomatch z) h
 |@ins a C dx fs ea cl ha hn wD hm=>
  cases (show u=Value.ref a from g);obtain⟨D,O,_⟩:=Pb I.hok ea;obtain⟨B,J,_⟩:=O.look;exact lT (PySem.W.kitx_own (cl.get _) cl.hd ha hn wD hm) I.kIn J e (λz=>nomatch z) h
end
structure dW(k:Nat)(A:aX):Prop where
 hd:A.handled=ae
 dp:A.depth+3*k+5<recursionLimit
 un:A.units+16*k+200<cLine
theorem dW.mono{j k:Nat}{A:aX}(r:dW k A)(h:j<=k):dW j A:=⟨r.hd,by have:=r.dp;lia,by have:=r.un;lia⟩
theorem dW.deeper{k:Nat}{A:aX}(r:dW (k+1) A)(a:Env):dW k (A.deeper a) :=⟨r.hd,by have:=r.dp;show A.depth+1+3*k+5<_;lia,by have:=r.un;show A.units+3+16*k+200<_;lia⟩
theorem dW.depth{k:Nat}{A:aX}(r:dW k A):A.depth<recursionLimit:=by have:=r.dp;lia
theorem dW.units{k:Nat}{A:aX}(r:dW k A):A.units+64<cLine:=by have:=r.un;lia
def NI:TA:=λ_ H Q=>Q [] H
def Nq(c:TE)(b:TA):TA:=λa H Q=>c a H λx f=>b a f λxs d=>Q (x::xs) d
section
variable{X:Cx}{e:aB}{c:List aB}{d:TE}{t:TA}{a:Pos}
theorem ki:PA X [] NI:=λ_ _ _ _ H Q I h=>Jk ⟨[],H,I,.nil,h⟩
theorem i4(p:PE X e d)(o:PA X c t)(n:aR (e::c) X.env=(aj,a6 e X.env)::aR c X.env:=by rfl):PA X (e::c) (Nq d t):=by intro a f s b H Q I h;rw[n];show ar _ _ (spliced ((aj,a6 e X.env)::c7 a (aR c X.env))) _ _ s;refine CG (aW (p f s b H _ I h) λu g ζ=>?_);obtain⟨x,w,r,j,m⟩:=ζ;exact aW (o a f g b w _ r m) λy z ⟨xs,v,q,i,l⟩=>⟨x::xs,v,q,.cons j i,l⟩
def Pn(t:TA):TE:=λf H Q=>t f H λxs b=>xs.length<=bh/\∀p,b p=ae->Q (.ref p) (upd b p (.tup xs))
def Li(t:TA):TE:=λf H Q=>t f H λxs b=>xs.length<=bh/\∀p,b p=ae->Q (.ref p) (upd b p (.lst xs))
theorem Mp{x1}(h:PA X c t):PE X (.Tuple c x1 a) (Pn t):=by intro o s j H Q I m;refine wpAny_Tuple_spliced (aW (h a o s j H _ I m) λl f ⟨xs,i,g,r,z,q⟩=>⟨by rw[<-r.length];exact z,?_⟩);have n:i f.heap.objs.size=ae:=g.hok.fresh (bd _);refine⟨.ref f.heap.objs.size,upd i f.heap.objs.size (.tup xs),g.laid (t':=f.toks) (λb u e=>bK _ e) (bd _) ?_,rfl,q _ n⟩;exact⟨z,l,r,⟨⟨_,cG _ rfl,rfl,_,rfl⟩,_,cG _ rfl,rfl⟩⟩
theorem Tu(h:PA X c t):PE X (.List c a) (Li t):=by intro o s j H Q I m;refine wpAny_List_spliced (aW (h a o s j H _ I m) λl f ⟨xs,i,g,r,z,q⟩=>⟨by rw[<-r.length];exact z,?_⟩);have n:i f.heap.objs.size=ae:=g.hok.fresh (bd _);refine⟨.ref f.heap.objs.size,upd i f.heap.objs.size (.lst xs),g.laid (t':=f.toks) (λb u e=>bK _ e) (bd _) ?_,rfl,q _ n⟩;exact⟨z,l,0,r,cG _ rfl⟩
end
abbrev Sp:=List V->Hp->VK->XK->Prop
abbrev gx:=List Env->Hp->am->XK->ai->am->Prop
structure sA(P:aV)(w:aL)(K:ay)(mg:Str->Option ai)(base:aD)(A:aX)(outer:List Env)(s:am)(H:Hp):Prop where
 frames:A.frames=aa outer
 mod:Mod K mg base
 bs:∀b o,base.get? b=aa o->s.heap.get? b=aa o/\H b=ae
 bsz:base.objs.size<=s.heap.objs.size
 funs:s.heap.FunFrames base outer
 frf:∀b∈fS outer,H b=ae
 hok:dG P w H s.heap
 bare:nO s.gens
 tab:xl K H
def CE(a:List Env)(P:aV)(w:aL)(H:Hp)(s:am)(Q:VK)(u:ai)(b:am):Prop :=
 ∃v c,b.os=s.os/\nO b.gens/\Un (fS a) [] H c s.heap b.heap/\dG P w c b.heap/\RelV v u/\Q v c
def CR(c:gx)(a:List Env)(P:aV)(w:aL)(H:Hp)(s:am)(Q:VK)(E:XK)(r:Result)(b:am):Prop :=
 match r with
 |.ok (.ret u)=>CE a P w H s Q u b
 |.ok _=>False
 |.error e=>c a H s E e b
structure jP(P:aV)(w:aL)(K:ay)(mg:Str->Option ai)(base:aD)(CX:gx)(k:Nat)(f:ag)(fd:gi)(ps:List Str)(sp:Sp):Prop where
 len:∀vs H Q E,sp vs H Q E->vs.length=ps.length
 run:∀(A:aX) (outer:List Env) (s:am) (H:Hp) (args:Args) (us:List ai) (vs:List V) (Q:VK) (E:XK),dW k A->sA P w K mg base A outer s H->BindsTo s fd args (ps.zip us)->bx vs us->sp vs H Q E ->
  mK (ax P w) A (.call (.ref f) args) (CR CX outer P w H s Q E) s
section
variable{X:Cx}{f:List (ag×Obj)}{a:St}{H:Hp}{s c:am}
theorem Inv.env0(I:Inv X f a H s):sA X.prog X.w X.K X.mg X.base X.A X.stack s H :=⟨I.ok.frames,I.ok.mod,I.bs,c0 I.ok.bsz I.sz,I.stack,I.stkFree,I.hok,I.bare,I.tab⟩
theorem Inv.after{Q:VK}{u:ai}(I:Inv X f a H s)(h:CE X.stack X.prog X.w H s Q u c):EP X f a Q u c:=by obtain⟨v,o,m,i,un,l,r,q⟩:=h;obtain⟨n,g,d,t,j⟩:=c;obtain rfl:j=s.os:=m;exact⟨v,o,I.call (h':=n) (g':=g) (d':=d) (t':=t) (ch:=[]) un l i (λb z=>absurd z (by simp)),r,q⟩
end
def MM(d:Sp)(a:List V)(E:XK)(t:TA):TE:=λb H Q=>t b H λc f=>d (c++a) f Q E
def Binds(K:ay)(d:gi)(b:List Str)(c:List ai):Prop :=
 ∀(s:am) (a:List ai),K.In s.heap->(a++c).length=b.length->BindsTo s d ⟨a,[]⟩ (b.zip (a++c))
theorem Binds.all{K:ay}{d:gi}{b:List Str}(h:∀a:List ai,a.length=b.length->gF d ⟨a,[]⟩=pure (b.zip a)):Binds K d b []:=λs a _ c=>by rw[fN]at c ⊢;exact .of_eq (h a c)
def sN(c:gx)(X:Cx)(E:XK):Prop:=∀(b:List (ag×Obj)) (a:St) (H:Hp) (s:am) (e:ai) (s':am),Inv X b a H s->c X.stack H s E e s'->X.xe e s'
section
variable{X:Cx}{l:gx}{k:Nat}{f C:ag}{j:gi}{d:List Str}{i:Sp}{a:List V}{c:List ai}{E:XK}{x m:Str}{p b n:Pos}{e o:aB}{g:List aB}{v:TE}{t:TA}
theorem UH{A:List (ag×Obj)}{z:St}{H:Hp}{s:am}{Q:VK}{q:List ai}{y:List V}(F:jP X.prog X.w X.K X.mg X.base l k f j d i)(J:dW k X.A)(M:Binds X.K j d c)(L:bx a c)(G:sN l X E)(I:Inv X A z H s) (r:bx y q) (h:i (y++a) H Q E):ar (ax X.prog X.w) X.A (call (.ref f) q) (EP X A z Q) X.xe s:=by
 have B:bx (y++a) (q++c):=r.append L;have K:(q++c).length=d.length:=by rw[<-B.length];exact F.len _ _ _ _ h
 refine v4 (ph (F.run X.A X.stack s H ⟨q,[]⟩ (q++c) (y++a) Q E J I.env0 (M s q I.kIn K) B h) λr D w=>?_);cases r with
 |error e=>exact G A z H s e D I w
 |ok N=>
  cases N with
  |ret u=>exact I.after w
  |next=>exact gm w
  |brk=>exact gm w
  |cont=>exact gm w
theorem Fq(F:jP X.prog X.w X.K X.mg X.base l k f j d i)(A:dW k X.A)(G:Gl X x)(B:X.mg x=aa (.ref f))(D:nU X.K (.ref f)=ah)(L:Binds X.K j d c)(K:bx a c)(z:sN l X E)(M:PA X (e::g) t) (y:(x==("__debug__":Str))=aj:=by decide) (J:aR (e::g) X.env=(aj,a6 e X.env)::aR g X.env:=by rfl) (N:(c7 b (aR g X.env)).any (·.1)=aj:=by rfl):PE X (.Call (.Name x p) (e::g) [] b) (MM i a E t):=by intro O s w H Q I h;refine zy (tL I G B ?_ y);refine CH (h₀:=X.base) I.ok.mod.kin D (aW (M b O s w H _ I h) λS T ⟨P,W,u,r,q⟩=>⟨u.kIn,?_⟩) J N;exact UH F A L K z u r q
end
structure cb(N P:List Str)(sc:d7):Prop where
 kind:sc.kind=.function
 co:sc.isCoroutine=aj
 gen:sc.isGenerator=aj
 nd:N.Nodup
 pre:N.take P.length=P
 par:∀x∈P,sc.names.lookup x=aa .local\/sc.names.lookup x=aa .cell
 nofree:∀y∈sc.names,y.2≠.free
theorem G9{a:Str->Option gW}{x:Str}:∀{binds:List (Str×ai)}{m:Str->Option ai},(∀v,(x,v)∉binds)->bindL a binds m x=m x
 |[],_,_=>rfl
 | (n,v)::r,m,h=>by
  unfold bindL;rw[G9 λw b=>h w (kA _ b)];split
  .have:x≠n:=by rintro rfl;exact h v lP
   simp[this]
  .rfl
theorem IW{a:Str->Option gW}{x:Str}:∀{binds:List (Str×ai)}{m:Str->Option ai},(∀v,(x,v)∉binds)->bindC a binds m x=m x
 |[],_,_=>rfl
 | (n,v)::r,m,h=>by
  unfold bindC;rw[IW λw b=>h w (kA _ b)];split
  .rfl
  .have:x≠n:=by rintro rfl;exact h v lP
   simp[this]
theorem Ff{a:Str->Option gW}{x:Str}{v:ai}:∀{P:List Str}{b:List ai}{i:Nat}{m:Str->Option ai},P.Nodup->P[i]?=aa x->b[i]?=aa v->a x=aa .local -> bindL a (P.zip b) m x=aa v
 |[],_,_,_,_,h,_,_=>by simp at h
 |_::_,[],_,_,_,_,h,_=>by simp at h
 |p::P,w::b,0,m,nd,h1,h2,hk=>by simp at h1 h2;subst h1;subst h2;show bindL a ((p,w)::P.zip b) m p=_;unfold bindL;rw[G9 λv c=>(lj.mp nd).1 (v5 c).1,if_pos hk];simp
 |p::P,w::b,i+1,m,nd,h1,h2,hk=>by show bindL a ((p,w)::P.zip b) m x=_;unfold bindL;exact Ff (i:=i) (lj.mp nd).2 (by simpa using h1) (by simpa using h2) hk
theorem IL{a:Str->Option gW}{x:Str}{v:ai}:∀{P:List Str}{b:List ai}{i:Nat}{m:Str->Option ai},P.Nodup->P[i]?=aa x->b[i]?=aa v->a x≠aa .local -> bindC a (P.zip b) m x=aa v
 |[],_,_,_,_,h,_,_=>by simp at h
 |_::_,[],_,_,_,_,h,_=>by simp at h
 |p::P,w::b,0,m,nd,h1,h2,hk=>by simp at h1 h2;subst h1;subst h2;show bindC a ((p,w)::P.zip b) m p=_;unfold bindC;rw[IW λv c=>(lj.mp nd).1 (v5 c).1,if_neg hk];simp
 |p::P,w::b,i+1,m,nd,h1,h2,hk=>by show bindC a ((p,w)::P.zip b) m x=_;unfold bindC;exact IL (i:=i) (lj.mp nd).2 (by simpa using h1) (by simpa using h2) hk
def start(N:List Str)(a:List V):St:=a.map aa++bu (N.length-a.length) ae
def jr(g:gx)(P:aV)(w:aL)(K:ay)(mg:Str->Option ai)(base:aD)(N:List Str)(b:Str)(a:d7)(f:ag)(d:ai)(A:aX)(outer:List Env)(s:am)(H:Hp)(E:XK):Cx where
 prog:=P
 w:=w
 K:=K
 mg:=mg
 base:=base
 A:=A.deeper (jB b a s.heap.objs.size f d)
 N:=N
 s₀:=s
 H₀:=H
 env:=jB b a s.heap.objs.size f d
 outer:=outer
 stack:=jB b a s.heap.objs.size f d::outer
 ex:=[]
 calm:=ah
 fn:=λ_=>ah
 pn:=[]
 xe:=λe s'=>ar (ax P w) (A.deeper (jB b a s.heap.objs.size f d)) (leaving (jB b a s.heap.objs.size f d) e) (λ_ c=>g outer H s E e c) (λh c=>g outer H s E h c) s'
theorem E6{a:d7}{n:Nat}{x:Str}(h:a.names.lookup x=aa .cell):∃c,(fZ n a.names []).lookup x=aa c:=by have q:=Jl a.names n [] (.inl h);exact CI.mp q
theorem Gv{Y:gx}{P:aV}{w:aL}{K:ay}{Q:Str->Option ai}{o:aD}{N C:List Str}{j:Str}{d:d7}{f:ag}{M:ai}{A:aX}{g:List Env}{s T:am}{H:Hp}{E:XK}{O:List ai}{B:List V}(S:cb N C d) (hd:A.handled=ae) (m:sA P w K Q o A g s H) (hl:B.length=C.length) (r:bx B O)(x:InCallC s s.heap.objs.size (bindL (jB j d s.heap.objs.size f M).kindOf (C.zip O) λ_=>ae) (fZ (s.heap.objs.size+1) d.names []) (bindC (jB j d s.heap.objs.size f M).kindOf (C.zip O) λ_=>ae) T):Inv (jr Y P w K Q o N j d f M A g s H E) [] (start N B) H T:=by
 have dO:C.length<=N.length:=by have:=congrArg lU S.pre;rw[pi]at this;lia
 obtain⟨L,tk,rfl,X⟩:=x.done;have D:∀b:ag,b∉(jr Y P w K Q o N j d f M A g s H E).ex:=λb z=>absurd (show b∈([]:List ag)from z) (by simp);refine⟨⟨m.mod,S.kind,rfl,rfl,bd _,λy z c L l=>?_,λy F=>?_,λy c _ h=>?_,λ_=>hd,Around.frames_deeper m.frames,.inr ⟨rfl,rfl⟩,λb z=>absurd z (D b),m.bs,m.bsz,λb _ _=>D b,λb z=>absurd z (D b),m.funs,m.frf,m.tab⟩,rfl,m.bare,Un.kept X,⟨_,x.toInCall.ns,λi y v L l h3=>?_⟩,λy c h=>⟨_,x.cell y c h⟩,m.hok.fresh (bd _),λy c h=>?_,λp I=>absurd (show p∈([]:List (ag×Obj))from I) (by simp),m.hok.kept X,?_⟩
 .exact name_of_addr x.apart (lV L) (lV l)
 .have F:d.names.lookup y=aa .cell\/d.names.lookup y=aa .free:=F;rcases F with F|F
  .exact E6 F
  .exact absurd rfl (S.nofree _ (lV F))
 .exact lO (x.above y c (lV h))
 .have J:i<B.length:=by
   unfold start at l;by_cases J:i<B.length
   .exact J
   .rw[qQ (by simpa using J)]at l;rw[List.getElem?_replicate]at l;split at l <;> cases l
  have ha:B[i]?=aa v:=by
   unfold start at l;rw[jC (by simpa using J),eR]at l;cases e:B[i]? with
   |none=>rw[e]at l;cases l
   |some a=>rw[e]at l;cases l;rfl
  obtain⟨u,W,Z⟩:=r.get ha;have I:C[i]?=aa y:=by rw[<-S.pre,List.getElem?_take_of_lt ∅];exact L
  have G:C.Nodup:=by rw[<-S.pre];exact S.nd.sublist (List.take_sublist _ _)
  refine⟨u,Z,?_⟩;rcases S.par y (zz I)with k|k
  .exact .inl ⟨k,Ff G I W k⟩
  .obtain⟨c,e⟩:=E6 (n:=s.heap.objs.size+1) k;refine .inr ⟨.inl k,c,e,?_⟩;have q:=x.cell y c e;rw[IL G I W (by show d.names.lookup y≠_;rw[k];decide)]at q;exact q
 .exact m.hok.fresh (lO (x.above y c (lV h)))
 .unfold start;show _=N.length;rw[dS,cz,List.length_replicate];lia
theorem KO{M:gx}{P:aV}{w:aL}{K:ay}{L:Str->Option ai}{h:aD}{k:Nat}{f:ag}{m d:Str}{g:Arguments}{i:List ba}{a:d7}{dV kV F pm z ct oc:ai}{an od:Option ag}{X:Array (Option ai)}{N G:List Str}{O:Sp} (lk:K.lookup f=aa ⟨oc,od,.func (je m d g i a dV kV F pm an z ct),X⟩) (bB:v6 K z d=ah) (S:cb N G a)(len:∀l H Q E,O l H Q E->l.length=G.length)(iS:∀(A:aX) (c:List Env) (s:am) (H:Hp) (l:List V) (Q:VK) (E:XK),dW k (A.deeper (jB d a s.heap.objs.size f z))->O l H Q E -> ∃t,lf (jr M P w K L h N d a f z A c s H E) i t/\t {nx:=λ_ p=>Q .non p,rt:=Q} (start N l) H):jP P w K L h M (k+1) f (je m d g i a dV kV F pm an z ct) G O:=by
 refine⟨len,λA c s H args us l Q E Z D hb r iz=>?_⟩;have hl:=len _ _ _ _ iz;have KX:K.In s.heap:=D.mod.kin.keeps λb o e=>(D.bs b o e).1;have Y:s.heap.NoLimit:=D.mod.nolimit.keeps λb o e=>(D.bs b o e).1;have DB:∀y∈G.zip us,a.names.lookup y.1=aa .local\/(a.names.lookup y.1=aa .cell/\((fZ (s.heap.objs.size+1) a.names []).lookup y.1).isSome=ah):=λ⟨n,v⟩ hy=>by
  rcases S.par n (v5 hy).1 with q|q
  .exact .inl q
  .exact .inr ⟨q,Jl _ _ _ (.inl q)⟩
 refine codeAny_call_function Z.depth (KX _ _ lk) rfl S.co S.gen rfl (PySem.W.codeRec_of KX bB) (hb _ _ _ _ ?_);refine wpAny_newFunctionEnv_cells S.kind DB λenv he s1 x=>?_;subst he;refine⟨Y.keeps x.toInCall.keep,codeAny_func ?_⟩;obtain⟨t,ht,hq⟩:=iS A c s H l Q E (Z.deeper _) iz;have I:Inv (jr M P w K L h N d a f z A c s H E) [] (start N l) H s1:=Gv S Z.hd D hl r x;refine dZ (ht [] s1 (start N l) H _ I hq) (λfl T B=>?_) λe T B=>B;have C:∀{j:St}{p:Hp}{v:V}{u:ai},Inv (jr M P w K L h N d a f z A c s H E) [] j p T->RelV v u->Q v p->CE c P w H s Q u T :=λ{j p v u} J W q=>⟨v,p,J.os,J.bare,J.base,J.hok,W,q⟩
 cases fl with
 |ret u=>obtain⟨v,j,p,J,W,q⟩:=B;exact C J W q
 |next=>obtain⟨j,p,J,q⟩:=B;exact C (v:=V.non) (u:=Value.none) J rfl q
 |brk=>obtain⟨_,_,_,q⟩:=B;exact gm q
 |cont=>obtain⟨_,_,_,q⟩:=B;exact gm q
section
variable{X:Cx}{x:Str}{p a:Pos}{e:aB}{b:List aB}{t:TA}{c T:String}{r:List V->Hp->VK->Prop}
def HQ(r:List V->Hp->VK->Prop)(t:TA):TE:=λd H Q=>t d H λf g=>r f g Q
theorem nJ(y:eU X (.builtin c) r)(v:Gl X x)(u:X.mg x=ae)(o:fe x=aa (.builtin c))(z:PA X (e::b) t)(q:x≠"__name__":=by decide)(n:(x==("__debug__":Str))=aj:=by decide)(w:aR (e::b) X.env=(aj,a6 e X.env)::aR b X.env:=by rfl) (A:(c7 a (aR b X.env)).any (·.1)=aj:=by rfl):PE X (.Call (.Name x p) (e::b) [] a) (HQ r t):=by intro f s d H Q I h;refine zy (vI I v u o ?_ q n);exact PyProof.Rows.callWith_builtin1 (aW (z a f s d H _ I h) λi j ⟨g,C,B,l,m⟩=>y f j d C g i Q B l m) w A
theorem BY(y:eU X (.type T) r)(v:Gl X x)(u:X.mg x=ae)(o:fe x=aa (.type T))(z:PA X (e::b) t)(q:x≠"__name__":=by decide)(n:(x==("__debug__":Str))=aj:=by decide)(w:aR (e::b) X.env=(aj,a6 e X.env)::aR b X.env:=by rfl) (A:(c7 a (aR b X.env)).any (·.1)=aj:=by rfl):PE X (.Call (.Name x p) (e::b) [] a) (HQ r t):=by intro f s d H Q I h;refine zy (vI I v u o ?_ q n);exact Jg (aW (z a f s d H _ I h) λi j ⟨g,C,B,l,m⟩=>y f j d C g i Q B l m) w A
end
end L2
namespace HT
section
open PySem.SeqAt
open PySem.AutoSeq1 (wpAny_loadPart')
open PySem.MeetsSeq PySem.MeetsSeq2 PySem.MeetsSeq3
end
section
variable{a:aV}{w:aL}{A:aX}{E:ai->am->Prop}{s:am}
theorem cat_tup{t b:ag}{d c:List ai}{Q:ai->am->Prop}(B:IsTup s.heap t d.toArray)(C:IsTup s.heap b c.toArray)(u:d≠[])(F:c=[]->Q (.ref t) s) (D:c≠[]->Q (.ref s.heap.objs.size) {s with heap:=s.heap.push {cls:=.type "tuple",data:=.seq (d++c).toArray}})(l:d.length+c.length<=bh):ar (ax a w) A (iy .Add (.ref t) (.ref b)) Q E s:=by
 obtain⟨⟨cls,y,data,o⟩,j,x,n,v⟩:=id B;obtain⟨⟨z,g,m,f⟩,h,p,q,r⟩:=id C;simp only at x v p r;subst x v p r;have e:d.toArray++c.toArray=(d++c).toArray:=by simp
 by_cases i:c=[]
 .exact concat_meets ⟨_,j,rfl⟩ ⟨_,h,rfl⟩ Jm seq_tuple_add Jn Jo (Jp _ _)
   (tuple_addW1 t b d.toArray c.toArray n q y g o f (by simpa using u) (by simp[i])) ⟨j,h,F i⟩
 .refine concat_meets ⟨_,j,rfl⟩ ⟨_,h,rfl⟩ Jm seq_tuple_add Jn Jo (Jp _ _)
   (tuple_addW2 t b d.toArray c.toArray n q y g o f (by simpa using u) (by simpa using i) (by rw[cH,cH];exact l)) ⟨j,h,?_⟩
  rw[e];exact D i
def sIx(n d:Nat):Option Int->Nat
 |none=>d
 |some v=>if v<0 then(v+(n:Int)).toNat else min v.toNat n
theorem sIx_nat(n d k:Nat):sIx n d (aa (k:Int))=min k n:=by show(if(k:Int)<0 then((k:Int)+(n:Int)).toNat else min (k:Int).toNat n)=min k n;rw[if_neg ∅,lm]
theorem sIx_le(n d:Nat)(c:d<=n)(o:Option Int):sIx n d o<=n:=by
 cases o with
 |none=>exact c
 |some v=>
  show(if v<0 then(v+(n:Int)).toNat else min v.toNat n)<=n;by_cases b:v<0
  .rw[if_pos b];lia
  .rw[if_neg b];exact Nat.min_le_right _ _
theorem EO(v:Int)(n d:Nat):(if v<0 then max (v+(n:Int)) 0 else min v (n:Int))=((sIx n d (aa v):Nat):Int):=by
 show(if v<0 then max (v+(n:Int)) 0 else min v (n:Int))=(((if v<0 then(v+(n:Int)).toNat else min v.toNat n):Nat):Int)
 by_cases b:v<0
 .simp only[if_pos b];lia
 .simp only[if_neg b];lia
theorem NE(b c:Option Int)(n:Nat):Jq b c 1 (n:Int)=(((sIx n 0 b:Nat):Int),((sIx n n c:Nat):Int)):=by
 have d:¬((1:Int)<0):=∅
 unfold Jq;simp only[d,if_false];refine Prod.ext ?_ ?_
 .cases b with
  |none=>rfl
  |some v=>exact EO v n 0
 .cases c with
  |none=>rfl
  |some v=>exact EO v n n
theorem Q_(i j:Nat):CJ (i:Int) (j:Int) 1=j-i:=by
 unfold CJ;have b:(1:Int) > 0:=∅
 simp only[b,if_true,Int.ediv_one];split <;> lia
theorem Iv{v:ai}{o:Option Int}{Q:Option Int->am->Prop}(p:nV v o)(h:Q o s):ar (ax a w) A (Builtin.Slice.slicePartIndex v) Q E s:=by
 cases p with
 |none=>exact slicePart_none h
 |int i t=>exact slicePart_int h
theorem Se{j:ag}{i g:ai}{b c:Option Int}{n:Nat}{Q:Int×Int×Nat->am->Prop}(o:s.heap.IsSliceOf j i g .none)(m:nV i b)(l:nV g c)(h:Q (((sIx n 0 b:Nat):Int),1,sIx n n c-sIx n 0 b) s):ar (ax a w) A (Builtin.Slice.sliceApplied (.ref j) (pure (n:Int))) Q E s:=by
 obtain⟨q,f,p,d⟩:=id o;unfold Builtin.Slice.sliceApplied Builtin.Slice.sliceFields;refine aq (aq (lW f d (x:=i) rfl (aq (lW f d (x:=g) rfl (aq (lW f d (x:=.none) rfl (aG ?_)))))));refine aq (slicePart_none ?_);show ar _ _ (if((1:Int) == 0)=ah then _ else _) _ _ s;rw[if_neg (by decide)];refine aq (Iv m (aq (Iv l (aq (aG ?_)))));show ar _ _ (match Jq b c 1 (n:Int)with | (b,c)=>pure (b,(1:Int),CJ b c 1)) _ _ s;rw[NE b c n];show ar _ _ (pure (((sIx n 0 b:Nat):Int),(1:Int),CJ ((sIx n 0 b:Nat):Int) ((sIx n n c:Nat):Int) 1)) _ _ s;rw[Q_];exact aG h
theorem Qa(xs:Array ai)(i k:Nat):((dY k).filterMap λ(m:Nat)=>xs[((i:Int)+(m:Int)*1).toNat]?).toArray=((xs.toList.drop i).take k).toArray:=by
 have e:(λ(m:Nat)=>xs[((i:Int)+(m:Int)*1).toNat]?)=λm=>xs[i+m]?:=by
  funext m;have:((i:Int)+(m:Int)*1).toNat=i+m:=∅
  rw[this]
 rw[e];have:=pick_run xs i k;rw[List.filterMap_map]at this;have b:((λx=>xs[x]?) ∘ λx=>i+x)=λm=>xs[i+m]?:=rfl;rw[b]at this;rw[this]
theorem getItem_tuple_cut{t i:ag}{b:Array ai}{o n:ai}{c d:Option Int}{Q:ai->am->Prop}(g:IsTup s.heap t b)(p:s.heap.IsSliceOf i o n .none)(x:nV o c)(v:nV n d)(z:¬(sIx b.size 0 c=0/\sIx b.size b.size d=b.size))(h:Q (.ref s.heap.objs.size) {s with heap:=s.heap.push {cls:=.type "tuple",data:=.seq ((b.toList.drop (sIx b.size 0 c)).take (sIx b.size b.size d-sIx b.size 0 c)).toArray}})(B:b.size<=bh):ar (ax a w) A (qR (.ref t) (.ref i)) Q E s:=by
 have f:sizeOk (.seq ((b.toList.drop (sIx b.size 0 c)).take (sIx b.size b.size d-sIx b.size 0 c)).toArray):=by show((b.toList.drop (sIx b.size 0 c)).take (sIx b.size b.size d-sIx b.size 0 c)).toArray.size<=bh;rw[cH,pi,mL,jc];lia
 have G:sIx b.size b.size d<=b.size:=sIx_le _ _ (bd _) d;obtain⟨y,u,r,C⟩:=id p;have l:s.TypeIs (.ref i) "slice":=⟨y,u,r⟩
 unfold qR
 try with_reducible refine j0 ?_
 first|refine aq (aG ?_)|skip
 refine aq (wpAny_sequenceKey g.typeIs (by decide) ?_);refine aq (v7 (name:=tX "__getitem__") g.typeIs UL (lX UL g.typeIs entry_tuple_getitem ?_ (args_tuple_getitem _ _)));show ar _ _ (Builtin.Tuple.tupleItemsOf (.ref t) >>= _) _ _ s;refine aq (tupleItemsOf_ g ?_);refine aq (wpAny_typeOf l ?_);rw[if_pos (by decide)];refine aq (Se p x v ?_);have j:¬((((sIx b.size 0 c:Nat):Int) == 0&&(1:Int) == 1&&(sIx b.size b.size d-sIx b.size 0 c) == b.size)=ah):=by intro q;rw[gG,gG]at q;have F:((sIx b.size 0 c:Nat):Int)=0:=eq_of_beq q.1.1;have D:sIx b.size b.size d-sIx b.size 0 c=b.size:=eq_of_beq q.2;exact z ⟨∅,∅⟩
 show ar _ _ (if(((sIx b.size 0 c:Nat):Int) == 0&&(1:Int) == 1&&(sIx b.size b.size d-sIx b.size 0 c) == b.size)=ah then _ else _) _ _ s;rw[if_neg j,Qa]
 first
  |exact aq (m:=CK _) (j1 (aG ⟨_,rfl,aG h⟩) f)
  |exact aq (m:=CK _) (j1 (aq (aG (aG ⟨_,rfl,aG h⟩))) f)
  |exact aq (aq (m:=CK _) (j1 (aG (aG ⟨_,rfl,aG h⟩)) f))
  |exact aq (aq (m:=CK _) (j1 (aG ⟨_,rfl,aG h⟩) f))
end
end HT
namespace L2
abbrev TO:=St->Hp->(Option Int->Hp->Prop)->Prop
def PO(X:Cx)(e:Option aB)(t:TO):Prop :=
 ∀(b:List (ag×Obj)) (s:am) (a:St) (H:Hp) (Q:Option Int->Hp->Prop),Inv X b a H s->t a H Q ->
  ar (ax X.prog X.w) X.A (evalPart e X.env) (λu d=>∃o c,Inv X b a c d/\nV u o/\Q o c) X.xe s
def SH:TO:=λ_ H Q=>Q ae H
def MZ(t:TE):TO:=λa H Q=>t a H λx b=>∃i,x=.int i/\Q (aa i) b
section
variable{X:Cx}{e:aB}{f:TE}{c d:Option aB}{g j:TO}{n m:Pos}
theorem Od:PO X ae SH:=by intro b s a H Q I h;rw[evalPart_none];exact aG ⟨ae,H,I,.none,h⟩
theorem Qi(h:PE X e f):PO X (aa e) (MZ f):=by intro p s a H Q I o;rw[evalPart_some];refine aW (h p s a H _ I o) λu w ζ=>?_;obtain⟨x,v,r,b,l⟩:=ζ;obtain⟨i,rfl,q⟩:=l;obtain⟨t,rfl⟩:=b;exact⟨aa i,v,r,.int i t,q⟩
def nq(X:Cx)(r:V->Option Int->Option Int->Hp->VK->Prop):Prop :=
 ∀(l:List (ag×Obj)) (s:am) (a:St) (H:Hp) (x:V) (v h b:ai) (c d:Option Int) (i:ag) (Q:VK),Inv X l a H s->RelV x v->s.heap.IsSliceOf i h b .none->nV h c->nV b d->r x c d H Q ->
  ∃T o,typeLookup (.type T) "__getitem__"=pure (aa (.builtin o))/\s.TypeIs v T/\ar (ax X.prog X.w) X.A (qR v (.ref i)) (EP X l a Q) X.xe s
theorem nq.or{r p:V->Option Int->Option Int->Hp->VK->Prop}(h:nq X r)(A:nq X p):nq X (λx c d H Q=>r x c d H Q\/p x c d H Q):=by
 intro z s a H x v i b c d l Q I o y w u q;rcases q with q|q
 .exact h z s a H x v i b c d l Q I o y w u q
 .exact A z s a H x v i b c d l Q I o y w u q
def Rz(r:V->Option Int->Option Int->Hp->VK->Prop)(f:TE)(g j:TO):TE:=λa H Q=>f a H λx i=>g a i λl h=>j a h λu b=>r x l u b Q
theorem Pe{r:V->Option Int->Option Int->Hp->VK->Prop}(L:nq X r)(O:PE X e f)(M:PO X c g)(J:PO X d j):PE X (.Subscript e (.Slice c d ae m) n) (Rz r f g j):=by intro o s i H Q I h;refine Subscript_ (aW (O o s i H _ I h) λv A ζ=>?_);obtain⟨x,H1,Z,B,E⟩:=ζ;refine wpAny_Slice (aW (M o A i H1 _ Z E) λw z ⟨l,H2,Y,G,D⟩=>aW (J o z i H2 _ Y D) λp a ζ=>?_);obtain⟨u,y,W,F,C⟩:=ζ;rw[evalPart_none];refine aG ?_;have S:Inv X o i y {a with heap:=a.heap.push {cls:=.type "slice",data:=.fields #[w,p,.none]}}:=W.kept (t':=a.toks) λb ob q=>bK _ q;obtain⟨T,id,P,K,N⟩:=L o {a with heap:=a.heap.push {cls:=.type "slice",data:=.fields #[w,p,.none]}} i y x v w p l u a.heap.objs.size Q S B (Heap.IsSliceOf.new ..) G F C;show ar (ax X.prog X.w) X.A (subscriptTail e (.Slice c d ae m) v (.ref a.heap.objs.size)) (EP X o i Q) X.xe {a with heap:=a.heap.push {cls:=.type "slice",data:=.fields #[w,p,.none]}};exact tail_any (ops:=[.ref a.heap.objs.size,v]) K P N (by with_unfolding_all rfl)
def oI(xs:List V)(c d:Option Int):List V:=(xs.drop (HT.sIx xs.length 0 c)).take (HT.sIx xs.length xs.length d-HT.sIx xs.length 0 c)
theorem EM(xs:List V)(c d:Option Int):(oI xs c d).length<=xs.length:=by unfold oI;rw[pi,mL];lia
def HA(K:ay):V->Option Int->Option Int->Hp->VK->Prop:=λx c d H Q=>∃a xs,x=.ref a/\cu K H a xs /\
 ¬(HT.sIx xs.length 0 c=0/\HT.sIx xs.length xs.length d=xs.length)/\∀p,H p=ae->Q (.ref p) (upd H p (.tup (oI xs c d)))
theorem NQ:nq X (HA X.K):=by
 intro K s D H x v F E c d G Q I w C z y h;obtain⟨a,xs,rfl,A,B,q⟩:=h;cases w;obtain⟨i,r,u,p⟩:=I.tuple A;have l:i.toArray.size=xs.length:=by rw[cH];exact r.length.symm
 refine⟨"tuple",_,PyProof.Rows.slot_tuple_getitem.lookup,u.typeIs,?_⟩;refine HT.getItem_tuple_cut u C z y (by rw[l];exact B) ?_ (by rw[l];exact p);rw[l];refine⟨.ref s.heap.objs.size,_,I.laid (t':=s.toks) (o:=.tup (oI xs c d)) (λb J q=>bK _ q) (bd _) ?_,rfl,q _ (I.hok.fresh (bd _))⟩;exact⟨c0 (EM xs c d) p,_,(r.drop (HT.sIx xs.length 0 c)).take (HT.sIx xs.length xs.length d-HT.sIx xs.length 0 c),Jc.new _ _⟩
def Fw(K:ay):R2:=λx y H Q=>∃a b xs h,x=.ref a/\y=.ref b/\cu K H a xs/\cu K H b h/\xs≠[]/\xs.length+h.length<=bh /\
 (h=[]->Q (.ref a) H)/\(h≠[]->∀p,H p=ae->Q (.ref p) (upd H p (.tup (xs++h))))
theorem bx.nil_iff{xs:List V}{a:List ai}(r:bx xs a):a=[]↔xs=[]:=by
 cases r with
 |nil=>simp
 |cons _ _=>simp
theorem Vg:bX X (iy .Add) (Fw X.K):=by
 intro O s M H x y v u Q I C B h;obtain⟨a,b,xs,A,rfl,rfl,L,K,J,r,E,D⟩:=h;cases C;cases B;obtain⟨G,l,F,_⟩:=I.tuple L;obtain⟨p,i,m,_⟩:=I.tuple K;refine HT.cat_tup F m (λz=>J (l.nil_iff.mp z)) (λz=>⟨.ref a,H,I,rfl,E (i.nil_iff.mp z)⟩) (λz=>?_) (by rw[<-l.length,<-i.length];exact r);refine⟨.ref s.heap.objs.size,_,I.laid (t':=s.toks) (o:=.tup (xs++A)) (λb N q=>bK _ q) (bd _) ?_,rfl,D (λw=>z (i.nil_iff.mpr w)) _ (I.hok.fresh (bd _))⟩;exact⟨by rw[dS];exact r,_,l.append i,Jc.new _ _⟩
end
def kQ(n:Nat)(i:Int):Option Nat:=if 0<=i then(if i<n then aa i.toNat else ae)else if -(n:Int)<=i then aa (i+n).toNat else ae
def fj{a:Type}(xs:List a)(i:Int):Option a:=(kQ xs.length i).bind λj=>xs[j]?
theorem Fv{n:Nat}{i:Int}{j:Nat}(h:kQ n i=aa j):seqIndex? i n=aa j/\j<n/\-(n:Int)<=i/\i<n:=by
 unfold kQ at h;by_cases b:0<=i
 .rw[if_pos b]at h;by_cases a:i<n
  .rw[if_pos a]at h;have e:i.toNat=j:=cY h;exact⟨by rw[seqIndex_of b a,e],∅,∅,a⟩
  .rw[if_neg a]at h;cases h
 .rw[if_neg b]at h;by_cases a:-(n:Int)<=i
  .rw[if_pos a]at h;have e:(i+n).toNat=j:=cY h;exact⟨by rw[seqIndex_neg ∅ a,e],∅,a,∅⟩
  .rw[if_neg a]at h;cases h
theorem At{a:Type}{xs:List a}{i:Int}{v:a}(h:fj xs i=aa v):∃j,seqIndex? i xs.length=aa j/\xs[j]?=aa v/\j<xs.length/\-(xs.length:Int)<=i/\i<xs.length:=by
 unfold fj at h;cases e:kQ xs.length i with
 |none=>rw[e]at h;cases h
 |some j=>rw[e]at h;obtain⟨f,d,c,b⟩:=Fv e;exact⟨j,f,h,d,c,b⟩
theorem RN{a:Type}{xs:List a}{j:Nat}{v:a}(h:xs[j]?=aa v):fj xs (j:Int)=aa v:=by
 have b:j<xs.length:=(cM.mp h).1;have e:kQ xs.length (j:Int)=aa j:=by unfold kQ;rw[if_pos ∅,if_pos ∅];simp
 unfold fj;rw[e];exact h
def Br(b:aB):Prop:=∀o i,CL b aj o i=operate [o,i] (qR o i)
def mV(X:Cx)(r:R2):Prop :=
 ∀(b a:aB) (d:List (ag×Obj)) (s:am) (c:St) (H:Hp) (x y:V) (v u:ai) (Q:VK),Inv X d c H s->RelV x v->RelV y u->r x y H Q ->
  CL a aj v u=operate [v,u] (qR v u)->ar (ax X.prog X.w) X.A (subscriptTail b a v u) (EP X d c Q) X.xe s
def tQ(X:Cx)(d:String)(r:V->List V->Hp->VK->Prop):Prop :=
 ∀(c:List (ag×Obj)) (s:am) (a:St) (H:Hp) (x:V) (xs:List V) (v:ai) (b:List ai) (Q:VK),Inv X c a H s->RelV x v->bx xs b->r x xs H Q ->
  ar (ax X.prog X.w) X.A (call (.builtin d) (v::b)) (EP X c a Q) X.xe s
section
variable{X:Cx}{a b:aB}{G F:TE}{E:Pos}
theorem mV.or{r j:R2}(h:mV X r)(n:mV X j):mV X (λx y H Q=>r x y H Q\/j x y H Q):=by
 intro c d m s f H x y v u Q I i g q l;rcases q with q|q
 .exact h c d m s f H x y v u Q I i g q l
 .exact n c d m s f H x y v u Q I i g q l
theorem Op{r:R2}(j:mV X r)(m:PE X a G)(l:PE X b F)(i:Br b):PE X (.Subscript a b E) (xD r G F):=by intro n s c H Q I h;exact Subscript_ (Cc m l I h λv u d x y p o g f q=>j a b n d c p x y v u Q o g f q (i _ _))
def Hl(K:ay):R2:=λx y H Q=>∃p xs i v,x=.ref p/\y=.int i/\cy K H p xs/\fj xs i=aa v/\Q v H
def Ec(K:ay):R2:=λx y H Q=>∃p xs i v,x=.ref p/\y=.int i/\cu K H p xs/\fj xs i=aa v/\Q v H
def Es:R2:=λx y H Q=>∃z i c,x=.str z/\y=.int i/\z.length<=bh/\fj z.cps.toList i=aa c/\Q (.str ⟨#[c]⟩) H
theorem Vj:mV X (Hl X.K):=by
 intro f g J s A H x y v u Q I M L h B;obtain⟨p,xs,i,z,rfl,rfl,N,P,q⟩:=h;cases M;obtain⟨t,rfl⟩:=L;obtain⟨n,r,m,Y⟩:=I.list N;obtain⟨j,d,W,h3,T,S⟩:=At P;obtain⟨w,D,l⟩:=r.get W;have O:=r.length;have Z:=sD;have c:EP X J A Q w s:=⟨z,H,I,l,q⟩
 by_cases C:0<=i
 .have o:i.toNat=j:=by
   rw[seqIndex_of C S]at d;exact cY d
  exact item_listR m.isList C ∅ (by rw[o];simpa using D) c B
 .have o:(i+(n.toArray.size:Int)).toNat=j:=by
   rw[seqIndex_neg ∅ T]at d;rw[cH,<-O];exact cY d
  exact subscriptTail_builtinR (x:=w) m.isList.typeIs slot_list_getitem.lookup
   (wpAny_getItem_list_neg (Q:=λr K=>r=w/\EP X J A Q r K) m.isList ∅ (by rw[cH] <;> lia) ∅ (by rw[o];simpa using D) ⟨rfl,c⟩) B
theorem Vo:mV X (Ec X.K):=by
 intro c d n s l H x y v u Q I B A h D;obtain⟨p,xs,i,z,rfl,rfl,J,L,q⟩:=h;cases B;obtain⟨t,rfl⟩:=A;obtain⟨C,r,m,P⟩:=I.tuple J;obtain⟨j,N,M,Y,W,T⟩:=At L;obtain⟨w,O,f⟩:=r.get M;have K:=r.length;have S:=sD;have g:EP X n l Q w s:=⟨z,H,I,f,q⟩
 exact subscriptTail_builtinR (x:=w) m.typeIs slot_tuple_getitem.lookup
  (getItem_tuple (j:=j) (Q:=λr o=>r=w/\EP X n l Q r o) m ∅ ∅ (by rw[cH,<-K];exact N) (by simpa using O) ⟨rfl,g⟩) D
theorem ix_str:mV X Es:=by
 intro d f N s D H x y v u Q I m l h n;obtain⟨z,i,c,rfl,rfl,K,p,q⟩:=h;obtain⟨t,rfl⟩:=m;obtain⟨J,rfl⟩:=l;obtain⟨j,g,A,M,w,r⟩:=At p;have o:z.cps.toList.length=z.length:=by simp[Str.length]
 rw[o]at g w r;have L:=sD;exact tail_any (typeIs_str s z t) slot_str_getitem.lookup (getItem_str (c:=c) (by have C:decide (i < -(2^63:Int))=aj:=decide_eq_false ∅;have B:decide (i ≥ 2^63)=aj:=decide_eq_false ∅;rw[C,B,Bool.or_false]) (by rw[g];simpa using A) ⟨.str ⟨#[c]⟩,H,I.tok _,⟨_,rfl⟩,q⟩) n
def HX(K:ay):R2:=λx y H Q=>Hl K x y H Q\/Ec K x y H Q\/Es x y H Q
theorem fz:mV X (HX X.K):=Vj.or (Vo.or ix_str)
theorem MF(c:List ai)(n j:Nat)(u:ai):kC (·.setIfInBounds j u) {cls:=.type "list",data:=.seq c.toArray n}={cls:=.type "list",data:=.seq (c.set j u).toArray n}:=by simp[kC]
theorem Inv.lst{d:List (ag×Obj)}{c:St}{H:Hp}{s:am}{p:ag}{xs:List V}(I:Inv X d c H s)(h:H p=aa (.lst xs)):∃(its:List ai) (n:Nat),bx xs its/\s.heap.get? p=aa {cls:=.type "list",data:=.seq its.toArray n}/\xs.length<=bh:=by obtain⟨z,its,n,r,e⟩:=I.hok p _ h;exact⟨its,n,r,e,z⟩
theorem Inv.lstUpd{m:List (ag×Obj)}{j:St}{H:Hp}{s:am}{p:ag}{xs g:List V}{d c:List ai}{n i:Nat}{f:Obj->Obj}(I:Inv X m j H s)(h:H p=aa (.lst xs))(v:s.heap.get? p=aa {cls:=.type "list",data:=.seq d.toArray n}) (l:f {cls:=.type "list",data:=.seq d.toArray n}={cls:=.type "list",data:=.seq c.toArray i}) (r:bx g c) (o:g.length<=bh) (t:Nat):Inv X m j (upd H p (.lst g)) {s with heap:=s.heap.update p f,toks:=t}:=by
 have e:(s.heap.update p f).get? p=aa {cls:=.type "list",data:=.seq c.toArray i}:=by rw[mM f v (by rw[l] <;> rfl),l]
 refine I.write (x:=p) (e:=p) (by rw[h];trivial) (.inl rfl) (λb u w q=>(pq _ _ (dN w)).trans q) ⟨_,e⟩ ?_;exact⟨o,c,i,r,e⟩
def LC:V->V->V->Hp->(Hp->Prop)->Prop:=λo i v H Q=>∃p xs k j,o=.ref p/\i=.int k/\H p=aa (.lst xs)/\kQ xs.length k=aa j/\Q (upd H p (.lst (xs.set j v)))
theorem TY:Hr X LC:=by
 intro L s A H o i v M N u Q I C D B h;obtain⟨p,xs,k,j,rfl,rfl,m,K,q⟩:=h;cases C;obtain⟨t,rfl⟩:=D;obtain⟨c,n,r,f,J⟩:=I.lst m;obtain⟨d,P,x,w⟩:=Fv K;have g:=r.length;have O:=sD;have z:Inv X L A (upd H p (.lst (xs.set j v))) {s with heap:=s.heap.update p (kC (·.setIfInBounds j u))} :=I.lstUpd m f (MF c n j u) (r.set B j) (by rw[gn];exact J) s.toks;by_cases y:0<=k
 .have l:k.toNat=j:=by
   rw[seqIndex_of y w]at d;exact cY d
  exact PySem.W.ki_setAt f y ∅ (by rw[cH,<-g];exact w) (by rw[l];exact⟨_,z,q⟩)
 .have l:(k+(c.toArray.size:Int)).toNat=j:=by
   rw[seqIndex_neg ∅ x]at d;rw[cH,<-g];exact cY d
  exact PySem.W.ki_setBack f ∅ (by rw[cH,<-g];exact x) ∅ (by rw[l];exact⟨_,z,q⟩)
theorem Qt(c d:Option Int)(n:Nat):(tY c d ae n).1=((HT.sIx n 0 c:Nat):Int)/\(tY c d ae n).2.1=((HT.sIx n n d:Nat):Int)/\(tY c d ae n).2.2=1:=by
 refine⟨?_,?_,rfl⟩
 .cases c with
  |none=>simp[tY,HT.sIx]
  |some i=>
   simp only[tY,HT.sIx,Jr,show(1:Int) > 0 by decide,if_true];by_cases h:i<0
   .simp only[h,if_true] <;> lia
   .simp only[h,if_false] <;> lia
 .cases d with
  |none=>simp[tY,HT.sIx]
  |some i=>
   simp only[tY,HT.sIx,Jr,show(1:Int) > 0 by decide,if_true];by_cases h:i<0
   .simp only[h,if_true] <;> lia
   .simp only[h,if_false] <;> lia
theorem LF(c:List ai)(d f:Option Int):slicePick c.toArray d f ae=((c.drop (HT.sIx c.length 0 d)).take (HT.sIx c.length c.length f-HT.sIx c.length 0 d)).toArray:=by obtain⟨i,h,g⟩:=Qt d f c.toArray.size;unfold slicePick;rw[i,h,g];simp only[sliceRange_one,pick_run,cH] <;> rfl
def Ga(K:ay):V->Option Int->Option Int->Hp->VK->Prop:=λx c d H Q=>∃a xs,x=.ref a/\cy K H a xs/\∀p,H p=ae->Q (.ref p) (upd H p (.lst (oI xs c d)))
theorem Vb:nq X (Ga X.K):=by
 intro C s w H x v z y c d A Q I g p j i h;obtain⟨a,xs,rfl,n,q⟩:=h;cases g;obtain⟨l,r,f,m⟩:=I.list n;have u:=r.length;refine⟨"list",_,slot_list_getitem.lookup,f.isList.typeIs,?_⟩;refine wpAny_getItem_list_slice f.isList p j i .none (by simp) ?_ (by rw[cH] <;> lia);rw[LF,<-u];refine⟨.ref s.heap.objs.size,_,I.laid (t':=s.toks) (o:=.lst (oI xs c d)) (λb B q=>bK _ q) (bd _) ?_,rfl,q _ (I.hok.fresh (bd _))⟩;exact⟨c0 (EM xs c d) m,_,0,(r.drop (HT.sIx xs.length 0 c)).take (HT.sIx xs.length xs.length d-HT.sIx xs.length 0 c),cG _ rfl⟩
def gR:V->Bool
 |.non=>ah
 |.bl _=>ah
 |.int _=>ah
 |.str _=>ah
 |_=>aj
def eX:V->V->Bool
 |.non,.non=>ah
 |.bl a,.bl b=>a == b
 |.bl a,.int b=>(if a then 1 else 0) == b
 |.int a,.bl b=>a == (if b then 1 else 0)
 |.int a,.int b=>a == b
 |.str a,.str b=>a == b
 |_,_=>aj
theorem Gb{A:aX}{s:am}{y x:V}{u v:ai}(f:RelV y u)(c:RelV x v)(h:gR y=ah)(g:gR x=ah):v8 A s u v (eX y x):=by
 cases y with
 |non=>
  cases f;cases x with
  |non=>cases c;exact SeqAt.EqAt.same _
  |bl b=>cases c;exact SeqAt.EqAt.none_bool b
  |int b=>obtain⟨t,rfl⟩:=c;exact SeqAt.EqAt.none_int b t
  |str b=>obtain⟨t,rfl⟩:=c;exact SeqAt.EqAt.none_str b t
  |_=>exact absurd (show aj=ah from g) eF
 |bl a=>
  cases f;cases x with
  |non=>cases c;exact SeqAt.EqAt.bool_none a
  |bl b=>cases c;exact SeqAt.EqAt.bool_bool a b
  |int b=>obtain⟨t,rfl⟩:=c;exact SeqAt.EqAt.bool_int a b t
  |str b=>obtain⟨t,rfl⟩:=c;exact SeqAt.EqAt.bool_str a b t
  |_=>exact absurd (show aj=ah from g) eF
 |int a=>
  obtain⟨d,rfl⟩:=f;cases x with
  |non=>cases c;exact SeqAt.EqAt.int_none a d
  |bl b=>cases c;exact SeqAt.EqAt.int_bool a d b
  |int b=>obtain⟨t,rfl⟩:=c;exact SeqAt.EqAt.int_int a d b t
  |str b=>obtain⟨t,rfl⟩:=c;exact SeqAt.EqAt.int_str a d b t
  |_=>exact absurd (show aj=ah from g) eF
 |str a=>
  obtain⟨d,rfl⟩:=f;cases x with
  |non=>cases c;exact SeqAt.EqAt.str_none a d
  |bl b=>cases c;exact SeqAt.EqAt.str_bool a d b
  |int b=>obtain⟨t,rfl⟩:=c;exact SeqAt.EqAt.str_int a d b t
  |str b=>obtain⟨t,rfl⟩:=c;exact SeqAt.EqAt.str_str a d b t
  |_=>exact absurd (show aj=ah from g) eF
 |_=>exact absurd (show aj=ah from h) eF
def ku(x:V)(u:ai):Bool:=match u with
 |.none=>eX .non x
 |.bool b=>eX (.bl b) x
 |.int i _=>eX (.int i) x
 |.str z _=>eX (.str z) x
 |_=>aj
theorem xO{x y:V}{u:ai}(r:RelV y u)(f:gR y=ah):ku x u=eX y x:=by
 cases y with
 |non=>cases r;rfl
 |bl b=>cases r;rfl
 |int i=>obtain⟨t,rfl⟩:=r;rfl
 |str z=>obtain⟨t,rfl⟩:=r;rfl
 |_=>exact absurd (show aj=ah from f) eF
theorem GC{x:V}{xs:List V}{c:List ai}(r:bx xs c)(f:xs.all gR=ah):c.any (ku x)=xs.any λy=>eX y x:=by
 unfold bx at r
 induction r with
 |nil=>rfl
 |cons r _ g=>rw[qS,gG]at f;rw[nW,nW,xO r f.1,g f.2]
theorem xA{A:aX}{s:am}{x:V}{v:ai}(i:RelV x v)(j:gR x=ah){xs:List V}{d:List ai}(r:bx xs d)(f:xs.all gR=ah):∀u∈d,v8 A s u v (ku x u):=by
 unfold bx at r
 induction r with
 |nil=>exact λu c=>by cases c
 |cons r _ g=>
  intro h c;rw[qS,gG]at f;rcases bI.mp c with rfl|c
  .rw[xO r f.1];exact Gb r i f.1 j
  .exact g f.2 h c
def vd(x:V)(xs:List V):Bool:=xs.any λy=>eX y x
def Ba(K:ay)(c:Bool):R2:=λx y H Q=>∃p xs,y=.ref p/\(cy K H p xs\/cu K H p xs)/\gR x=ah/\xs.all gR=ah/\Q (.bl (if c then !vd x xs else vd x xs)) H
theorem SO:bX X (eE .In) (Ba X.K aj):=by
 intro o s n H x y v u Q I i l h;obtain⟨p,xs,rfl,d,j,fs,q⟩:=h;cases l;rcases d with d|d
 .obtain⟨c,r,f,m⟩:=I.list d;refine SeqAt.in_listAt (ku x) f.isList (λw g=>xA i j r fs w (by simpa using g)) ⟨.bl _,H,I,rfl,?_⟩;rw[show c.toArray.any (ku x)=c.any (ku x) by simp,GC r fs];exact q
 .obtain⟨c,r,f,m⟩:=I.tuple d;refine SeqAt.in_tupleAt (ku x) f (λw g=>xA i j r fs w (by simpa using g)) ⟨.bl _,H,I,rfl,?_⟩;rw[show c.toArray.any (ku x)=c.any (ku x) by simp,GC r fs];exact q
theorem eU.or{f:ai}{r i:List V->Hp->VK->Prop}(h:eU X f r)(l:eU X f i):eU X f (λxs H Q=>r xs H Q\/i xs H Q):=by
 intro j s c H xs d Q I g q;rcases q with q|q
 .exact h j s c H xs d Q I g q
 .exact l j s c H xs d Q I g q
theorem IS:eU X (.type "list") (λxs H Q=>∃p f,xs=[.ref p]/\(cy X.K H p f\/cu X.K H p f)/\∀l,H l=ae->Q (.ref l) (upd H l (.lst f))):=by
 intro K s C H xs L Q I r h;obtain⟨p,f,rfl,v,q⟩:=h;obtain⟨u,rfl,D⟩:=vals1 r;cases D;have w:∀(c:List ai),bx f c->f.length<=bh->∀(d:aD) (i:Nat),(∀b B,s.heap.get? b=aa B->d.get? b=aa B) ->
   d.get? s.heap.objs.size=aa {cls:=.type "list",dict:=ae,data:=.seq c.toArray i,slots:=#[]}->EP X K C Q (.ref s.heap.objs.size) {s with heap:=d}:=λc g m d i j e=>
  ⟨.ref s.heap.objs.size,_,I.laid (t':=s.toks) j (bd _) (show cB X.prog X.w _ d _ (.lst f)from⟨m,c,i,g,e⟩),rfl,q _ (I.hok.fresh (bd _))⟩
 rcases v with v|v
 .obtain⟨c,g,x,m⟩:=I.list v;have J:=g.length;obtain⟨o,y,A,n,z⟩:=x.isList;exact call_list_seq p (.inl rfl) y A z (λd i j e=>w c g m d i j e) (by simp only[cH] <;> lia)
 .obtain⟨c,g,x,m⟩:=I.tuple v;have J:=g.length;obtain⟨o,y,A,n,z⟩:=x;exact call_list_seq p (.inr rfl) y A z (λd i j e=>w c g m d i j e) (by simp only[cH] <;> lia)
theorem vD:eU X (.type "tuple") (λxs H Q=>∃p d,xs=[.ref p]/\((cy X.K H p d/\∀l,H l=ae->Q (.ref l) (upd H l (.tup d)))\/(cu X.K H p d/\Q (.ref p) H))):=by
 intro n s j H xs z Q I r h;obtain⟨p,d,rfl,h⟩:=h;obtain⟨u,rfl,w⟩:=vals1 r;cases w;rcases h with⟨hq,q⟩|⟨hq,q⟩
 .obtain⟨c,g,i,m⟩:=I.list hq;have A:=g.length;refine call_tuple_list i.isList (λf x=>?_) (by simp only[cH] <;> lia);have v:Inv X n j H {s with heap:=f}:=I.kept (t':=s.toks) x;have y:Inv X n j (upd H f.objs.size (.tup d)) {s with heap:=f.push {cls:=.type "tuple",data:=.seq c.toArray}} :=v.laid (t':=s.toks) (λb o e=>bK _ e) (bd _) (show cB X.prog X.w _ _ _ (.tup d)from⟨m,c,g,Jc.new _ _⟩);exact⟨.ref f.objs.size,_,y,rfl,q _ (v.hok.fresh (bd _))⟩
 .obtain⟨c,g,i,m⟩:=I.tuple hq;exact call_tuple_same i ⟨.ref p,H,I,rfl,q⟩
def Cr(K:ay)(T:String)(x:V)(H:Hp):Prop:=match x with
 |.str _=>T = "str"
 |.int _=>T = "int"
 |.ref p=>(T = "list"/\∃xs,cy K H p xs)\/(T = "tuple"/\∃o,K.lookup p=aa o/\o.cls=.type "tuple"/\o.dict=ae) \/
   (T = "dict"/\((∃c,H p=aa (.dK c))\/∃c,H p=aa (.dT c)))\/(T = "set"/\∃S n,H p=aa (.set S n))
 |_=>False
theorem FC{q:List (ag×Obj)}{l:St}{H:Hp}{s:am}{T:String}{x:V}{v:ai}(I:Inv X q l H s)(r:RelV x v)(ty:Cr X.K T x H):s.TypeIs v T/\∀a,v=.ref a->∃j,s.heap.get? a=aa j/\j.dict=ae:=by
 cases x with
 |str z=>
  obtain⟨t,rfl⟩:=r;cases (show T = "str" from ty);exact⟨typeIs_str s z t,λ_ e=>nomatch e⟩
 |int i=>
  obtain⟨t,rfl⟩:=r;cases (show T = "int" from ty);exact⟨zA s i t,λ_ e=>nomatch e⟩
 |ref p=>
  cases r;rcases ty with⟨rfl,xs,hq⟩|⟨rfl,o,hk,hc,f⟩|⟨rfl,hk⟩|⟨rfl,S,n,hk⟩
  .obtain⟨m,_,h,_⟩:=I.list hq;refine⟨h.isList.typeIs,λa e=>?_⟩;cases e;obtain⟨o,n,e,c,f,_⟩:=h;exact⟨o,e,f⟩
  .refine⟨⟨o,I.kIn p o hk,hc⟩,λa e=>?_⟩;cases e;exact⟨o,I.kIn _ o hk,f⟩
  .have z:∃o,s.heap.get? p=aa o/\o.ExactDict:=by
    rcases hk with⟨kvs,hk⟩|⟨kvs,hk⟩
    .obtain⟨_,_,_,_,o,_,_,e,d,_⟩:=I.hok p _ hk;exact⟨o,e,d⟩
    .obtain⟨_,_,_,_,o,_,_,e,d,_⟩:=I.hok p _ hk;exact⟨o,e,d⟩
   obtain⟨o,e,d⟩:=z;refine⟨⟨o,e,d.1⟩,λa g=>?_⟩;cases g;exact⟨o,e,d.2.1⟩
  .obtain⟨o,_,_,_,e,d,_⟩:=I.hok p _ hk;refine⟨⟨o,e,d.1⟩,λa g=>?_⟩;cases g;exact⟨o,e,d.2.1⟩
 |_=>exact gm ty
def RM(K:ay)(T:String)(r:V->List V->Hp->VK->Prop)(C:TE):TE:=λd H Q=>C d H λx c=>Cr K T x c/\r x [] c Q
def MP(K:ay)(T:String)(r:V->List V->Hp->VK->Prop)(C:TE)(t:TA):TE:=λc H Q=>C c H λx d=>Cr K T x d/\t c d λxs f=>r x xs f Q
variable{o e:aB}{es:List aB}{C:TE}{t:TA}{m:Str}{B d:Pos}{T D:String}{r:V->List V->Hp->VK->Prop}
theorem MR(u:PlainAttrs T)(c:Slot T m D)(w:typeOf (.builtin D)=pure (.type "method_descriptor"))(z:tQ X D r)(y:PE X o C)(p:nX o m X.env (a6 o X.env)=a6 o X.env:=by rfl) (n:(B.endLine == d.line)=ah:=by rfl):PE X (.Call (.Attribute o m B) [] [] d) (RM X.K T r C):=by intro i s f H Q I h;refine wpAny_Call_method0_late p n (aW (y i s f H _ I h) λv l ζ=>?_);obtain⟨x,K,j,g,ty,q⟩:=ζ;obtain⟨J,A⟩:=FC j g ty;exact⟨T,D,u,c,w,J,A,Js rfl (PySem.evalArgs_none (z i l f K x [] v [] Q j g .nil q))⟩
theorem vG(L:PlainAttrs T)(c:Slot T m D)(M:typeOf (.builtin D)=pure (.type "method_descriptor"))(P:tQ X D r)(O:PE X o C)(S:PA X (e::es) t)(z:nX o m X.env (a6 o X.env)=a6 o X.env:=by rfl)(n:((c7 d (aR (e::es) X.env)).all (λx=>!x.1)&&(qT d (qU [] X.env)).all (λx=>x.1.isSome)&&decide ((e::es).length+([]:List kD).length+(if([]:List kD).isEmpty then 0 else 1)<30))=ah:=by rfl)(y:(B.endLine == d.line)=ah:=by rfl) (N:aR (e::es) X.env=(aj,a6 e X.env)::aR es X.env:=by rfl) (Dz:(c7 d (aR es X.env)).any (·.1)=aj:=by rfl):PE X (.Call (.Attribute o m B) (e::es) [] d) (MP X.K T r C t):=by intro g s f H Q I h;refine wpAny_Call_method_late z n y rfl (aW (O g s f H _ I h) λv w ζ=>?_);obtain⟨x,H1,l,i,ty,K⟩:=ζ;obtain⟨Y,W⟩:=FC l i ty;refine⟨T,D,L,c,M,Y,W,?_⟩;have j:=S d g w f H1 _ l K;rw[N]at j ⊢;refine Js (by show(aj||(c7 d (aR es X.env)).any (·.1))=aj;rw[Dz] <;> rfl) (Jt ?_);exact aW j λq u ⟨p,H2,Z,A,J⟩=>P g u f H2 x p v q Q Z i A J
end
def zr(X:Cx)(d:String)(r:V->List V->Hp->VK->Prop):Prop :=
 ∀(c:List (ag×Obj)) (s:am) (a:St) (H:Hp) (x:V) (xs:List V) (v:ai) (b:List ai) (Q:VK),Inv X c a H s->RelV x v->bx xs b->r x xs H Q ->
  ar (ax X.prog X.w) X.A (call (.builtin d) (v::b)) (EP X c a Q) X.xe s
theorem bx.one{x:V}{a:List ai}(h:bx [x] a):∃u,a=[u]/\RelV x u:=by
 cases h with
 |cons r t=>cases t;exact⟨_,rfl,r⟩
theorem bx.zero:∀{a:List ai},bx [] a->a=[]
 |_,.nil=>rfl
theorem bx.rep{xs:List V}{a:List ai}(h:bx xs a):∀k:Nat,bx (bu k xs).flatten (bu k a).flatten
 |0=>.nil
 |k+1=>by rw[pr,pr,tZ,tZ];exact bx.append h (bx.rep h k)
theorem foldl_rep(a:List ai):∀(k:Nat) (b:List ai), List.foldl (λd c=>d++c) b.toArray (bu k a.toArray)=(b++(bu k a).flatten).toArray
 |0,b=>by simp
 |k+1,b=>by
  have e:b.toArray++a.toArray=(b++a).toArray:=by simp
  have f:(b++a)++(bu k a).flatten=b++(bu (k+1) a).flatten:=by rw[pr,tZ,gH]
  rw[<-f,<-foldl_rep a k (b++a),<-e,pr,jf]
section
variable{X:Cx}{d:List (ag×Obj)}{a:St}{H:Hp}{s:am}{l b:ag}{g c i:List V}
theorem Inv.lset{h its':List ai}{n:Nat}{f:Array ai->Array ai}{j:Nat}(I:Inv X d a H s)(w:H l=aa (.lst g))(e:s.heap.get? l=aa {cls:=.type "list",data:=.seq h.toArray n}) (r:f h.toArray=its'.toArray) (o:bx c its') (m:c.length<=bh):Inv X d a (upd H l (.lst c)) {s with heap:=s.heap.update l (kC f),toks:=j}:=by have q:=PySem.IsL.update e f;rw[r]at q;refine I.write (x:=l) (e:=l) (by rw[w];exact trivial) (.inl rfl) (λy u v p=>(pq s.heap (kC f) (dN v)).trans p) ⟨_,q⟩ ?_;exact⟨m,its',_,o,q⟩
theorem Inv.lnew{its:List ai}{t':Nat}(I:Inv X d a H s)(h:bx c its)(f:c.length<=bh):Inv X d a (upd H s.heap.objs.size (.lst c)) {s with heap:=s.heap.push {cls:=.type "list",data:=.seq its.toArray},toks:=t'} :=I.laid (λ_ _ q=>bK _ q) (bd _) ⟨f,its,0,h,cG _ rfl⟩
theorem Inv.fresh(I:Inv X d a H s):H s.heap.objs.size=ae:=I.hok.fresh (bd _)
theorem Inv.lstM(I:Inv X d a H s)(h:H l=aa (.lst g)):g.length<=bh/\∃(f:List ai) (n:Nat),bx g f/\g.length=f.length/\s.heap.get? l=aa {cls:=.type "list",data:=.seq f.toArray n}:=by obtain⟨z,f,n,r,e⟩:=I.hok l _ h;exact⟨z,f,n,r,r.length,e⟩
theorem R7{n:Nat}(h:n<=bh):zB n=aj:=by unfold zB;exact decide_eq_false ∅
end
section
variable{X:Cx}
def P4:V->List V->Hp->VK->Prop:=λx a H Q=>∃l xs y,x=.ref l/\a=[y]/\H l=aa (.lst xs)/\xs.length<bh/\Q .non (upd H l (.lst (xs++[y])))
theorem GZ:zr X "list.append" P4:=by
 intro o s f H x g v i Q I b c h;obtain⟨l,xs,y,rfl,rfl,a,j,q⟩:=h;cases b;obtain⟨u,rfl,d⟩:=c.one;obtain⟨z,its,n,r,m,e⟩:=I.lstM a;refine qV F.slot_list_append ⟨_,e,rfl⟩ F.entry_list_append (F.args_list_append_2 _ _) (PySem.list_append l its.toArray n u (by rw[cH];lia)) ⟨e,?_⟩;refine⟨.non,_,I.lset (its':=its++[u]) a e (by simp) (r.append (.cons d .nil)) ?_,rfl,q⟩;rw[dS,v9];lia
theorem yr{a:Type}(xs:List a)(k:Nat):(bu k xs).flatten.length=k*xs.length:=by
 induction k with
 |zero=>simp
 |succ k b=>rw[pr,tZ,dS,b,Nat.succ_mul,zC]
end
section
variable{κ:Type}[DecidableEq κ]
def jQ(a:List (κ×V))(k:κ):Option V:=(a.find? λb=>decide (b.1=k)).map (·.2)
def fW(a:List (κ×V))(k:κ)(v:V):List (κ×V) :=if(a.any λb=>decide (b.1=k))=ah then a.map (λb=>if b.1=k then(b.1,v)else b)else a++[(k,v)]
theorem yR{p:κ×V}{r:List (κ×V)}{k:κ}(e:p.1=k):jQ (p::r) k=aa p.2:=by simp[jQ,ln,e]
theorem yg{p:κ×V}{r:List (κ×V)}{k:κ}(e:¬p.1=k):jQ (p::r) k=jQ r k:=by simp[jQ,ln,e]
theorem Fj(k:κ):∀a:List (κ×V),(a.any λb=>decide (b.1=k))=(jQ a k).isSome
 |[]=>rfl
 |p::r=>by
  rw[nW];by_cases e:p.1=k
  .simp only[yR e,decide_eq_true e,Bool.true_or,Option.isSome_some]
  .rw[yg e,decide_eq_false e,Bool.false_or];exact Fj k r
theorem Cp(a:List (κ×V))(k:κ)(v:V):(fW a k v).length<=a.length+1:=by
 unfold fW;split
 .rw[cz];lia
 .rw[dS,eG,pt];lia
theorem o_.isSome_eq{o:Option V}{u:Option ai}(r:o_ o u):o.isSome=u.isSome:=by
 cases o with
 |none=>cases u with
  |none=>rfl
  |some _=>exact(show False from r).elim
 |some _=>cases u with
  |none=>exact(show False from r).elim
  |some _=>rfl
theorem o_.getD{o:Option V}{u:Option ai}{d:V}{a:ai}(r:o_ o u)(rd:RelV d a):RelV (o.getD d) (u.getD a):=by
 cases o with
 |none=>cases u with
  |none=>exact rd
  |some _=>exact(show False from r).elim
 |some _=>cases u with
  |none=>exact(show False from r).elim
  |some _=>exact r
theorem KV.val{a:List (κ×V)}{d:List (κ×ai)}(r:KV a d)(k:κ):o_ (jQ a k) (t0 d k):=by
 unfold KV at r
 induction r with
 |nil=>exact True.intro
 |@cons p q ps qs h t ih=>
  obtain⟨f,g⟩:=h;by_cases e:p.1=k
  .have c:q.1=k:=f.symm.trans e;have b:t0 (q::qs) k=aa q.2:=by simp[t0,ln,c]
   rw[yR e,b];exact g
  .have c:¬q.1=k:=λz=>e (f.trans z);have b:t0 (q::qs) k=t0 qs k:=by simp[t0,ln,c]
   rw[yg e,b];exact ih
theorem KV.any{a:List (κ×V)}{c:List (κ×ai)}(r:KV a c)(k:κ):(a.any λb=>decide (b.1=k))=c.any λb=>decide (b.1=k):=by
 unfold KV at r
 induction r with
 |nil=>rfl
 |cons h t d=>rw[nW,nW,d,h.1]
theorem KV.repl{b:List (κ×V)}{d:List (κ×ai)}(r:KV b d)(k:κ){y:V}{u:ai}(f:RelV y u):KV (b.map λa=>if a.1=k then(a.1,y)else a) (d.map λa=>if a.1=k then(a.1,u)else a):=by
 unfold KV at r ⊢
 induction r with
 |nil=>exact .nil
 |@cons p q ps qs h t ih=>
  rw[cn,cn];refine .cons ?_ ih;obtain⟨c,g⟩:=h;by_cases e:p.1=k
  .rw[if_pos e,if_pos (c.symm.trans e)];exact⟨c,f⟩
  .rw[if_neg e,if_neg (λz=>e (c.trans z))];exact⟨c,g⟩
theorem KV.put{a:List (κ×V)}{b:List (κ×ai)}(r:KV a b)(k:κ){y:V}{u:ai}(c:RelV y u):KV (fW a k y) (stored b k u):=by
 unfold fW stored;rw[r.any k];by_cases e:(b.any λd=>decide (d.1=k))=ah
 .rw[if_pos e,if_pos e];exact r.repl k c
 .rw[if_neg e,if_neg e];exact CM r ⟨rfl,c⟩
theorem KV.length{kvs:List (κ×V)}{a:List (κ×ai)}(r:KV kvs a):kvs.length=a.length:=qK r
end
theorem tO{P:aV}{w:aL}{k:aF}{u:ai}(r:RelV (kV k) u):(gA P w).is k u=ah:=by
 cases k with
 |inl i=>obtain⟨t,e⟩:=(show ∃t,u=Value.int i t from r);subst e;exact KZ P w i t
 |inr x=>obtain⟨t,e⟩:=(show ∃t,u=Value.str x t from r);subst e;exact Na P w x t
theorem Fb{P:aV}{w:aL}:∀{ks:List aF}{a:List ai},bx (ks.map kV) a->ItemsAre (gA P w) ks a
 |[],_,r=>by rw[zD]at r;cases r;exact .nil
 |k::ks,_,r=>by
  rw[cn]at r;cases r with
  |cons h t=>exact .cons (tO h) (Fb t)
abbrev KT(H:Hp):List (List aF×V)->List (List aF×ag×ai)->Prop:=fY λp q=>p.1=q.1/\H q.2.1=aa (.tup (p.1.map kV))/\RelV p.2 q.2.2
theorem KT.val{H:Hp}{a:List (List aF×V)}{xs:List (List aF×ag×ai)}(r:KT H a xs)(k:List aF):o_ (jQ a k) ((atKey xs k).map (·.2)):=by
 induction r with
 |nil=>exact True.intro
 |@cons p q ps qs h t ih=>
  obtain⟨d,_,f⟩:=h;by_cases e:p.1=k
  .have c:q.1=k:=d.symm.trans e;have b:atKey (q::qs) k=aa q.2:=by simp[atKey,ln,c]
   rw[yR e,b];exact f
  .have c:¬q.1=k:=λz=>e (d.trans z);have b:atKey (q::qs) k=atKey qs k:=by simp[atKey,ln,c]
   rw[yg e,b];exact ih
theorem KT.repl{H:Hp}{a:List (List aF×V)}{xs:List (List aF×ag×ai)}(r:KT H a xs)(k:List aF){y:V}{u:ai}(f:RelV y u):KT H (a.map λc=>if c.1=k then(c.1,y)else c) (xs.map (putAt k u)):=by
 induction r with
 |nil=>exact .nil
 |@cons p q ps qs h t ih=>
  rw[cn,cn];refine .cons ?_ ih;obtain⟨b,d,g⟩:=h;unfold putAt;by_cases e:p.1=k
  .rw[if_pos e,if_pos (b.symm.trans e)];exact⟨b,d,f⟩
  .rw[if_neg e,if_neg (λz=>e (b.trans z))];exact⟨b,d,g⟩
theorem KT.put{H:Hp}{a:List (List aF×V)}{xs:List (List aF×ag×ai)}(r:KT H a xs)(k:List aF){b:ag}{y:V}{u:ai}(f:H b=aa (.tup (k.map kV)))(c:RelV y u):KT H (fW a k y) (storedH xs k b u):=by
 have e:(a.any λd=>decide (d.1=k))=(atKey xs k).isSome:=by rw[Fj,(r.val k).isSome_eq,Ju]
 unfold fW storedH;rw[e];by_cases q:(atKey xs k).isSome=ah
 .rw[if_pos q,if_pos q];exact r.repl k c
 .rw[if_neg q,if_neg q];exact CM r ⟨rfl,f,c⟩
theorem KT.keeps{H d:Hp}{a:List (List aF×V)}{xs:List (List aF×ag×ai)}(r:KT H a xs)(f:∀b c,H b=aa (.tup c)->d b=aa (.tup c)):KT d a xs :=Paired.mapP r λ_ _ z=>⟨z.1,f _ _ z.2.1,z.2.2⟩
section
variable{P:aV}{w:aL}{H:Hp}{h:aD}{a:ag}
theorem HJ{u:HO}(ok:dG P w H h)(e:Rd H a u):cB P w H h a u:=e.ok ok
theorem qI{b:List (aF×V)}(ok:dG P w H h)(e:Rd H a (.dK b)):b.length<=bh/\(a == jY)=aj/\∃c,KV b c/\h.DictOf (gA P w) a c :=show cB P w H h a (.dK b)from HJ ok e
theorem vt{kvs:List (aF×V)}(ok:dG P w H h)(e:H a=aa (.dK kvs)):kvs.length<=bh/\(a == jY)=aj/\∃b,KV kvs b/\h.DictOf (gA P w) a b:=qI ok (.inl e)
theorem sX{ks:List aF}(ok:dG P w H h)(e:H a=aa (.tup (ks.map kV))):(tR (gA P w)).is h ks a:=by
 obtain⟨_,b,r,⟨o,f,d,n,c⟩,_⟩:=(show cB P w H h a (.tup (ks.map kV))from ok a _ e)
 exact⟨o,b.toArray,n,f,d,c,by simpa using Fb r⟩
theorem tD{b:List (List aF×V)}(ok:dG P w H h)(e:Rd H a (.dT b)):b.length<=bh/\(a == jY)=aj /\ ∃xs,KT H b xs/\h.DictOfH (tR (gA P w)) a xs:=by
 obtain⟨z,y,xs,r,o,n,s,j,i,g,f,d⟩:=(show cB P w H h a (.dT b)from HJ ok e)
 refine⟨z,y,xs,r,o,n,s,j,i,g,f,λx c=>?_,d⟩;have all:∀{l:List (List aF×V)}{m:List (List aF×ag×ai)},KT H l m->∀x∈m,(tR (gA P w)).is h x.1 x.2.1:=by
  intro l m q
  induction q with
  |nil=>intro x c;exact nomatch c
  |@cons p q ps qs hq t ih=>
   intro x c;rcases bI.mp c with e|c
   .subst e;exact sX ok (by rw[<-hq.1];exact hq.2.1)
   .exact ih x c
 exact all r x c
theorem Ey{b:List (List aF×V)}(ok:dG P w H h)(e:H a=aa (.dT b)):b.length<=bh/\(a == jY)=aj /\ ∃xs,KT H b xs/\h.DictOfH (tR (gA P w)) a xs:=tD ok (.inl e)
end
def m_(H:Hp)(a:ag)(y:V)(r:Option V):Prop :=(∃c k,Rd H a (.dK c)/\y=kV k/\r=jQ c k)\/∃c k b,Rd H a (.dT c)/\y=.ref b/\H b=aa (.tup (k.map kV))/\r=jQ c k
def zu(H:Hp)(a:ag)(y v:V)(d:Hp):Prop :=
 (∃c k,H a=aa (.dK c)/\y=kV k/\c.length<bh/\d=upd H a (.dK (fW c k v))) \/
 ∃c k b,H a=aa (.dT c)/\y=.ref b/\H b=aa (.tup (k.map kV))/\c.length<bh/\d=upd H a (.dT (fW c k v))
theorem m_.k{H:Hp}{a:ag}{kvs:List (aF×V)}{k:aF}(e:H a=aa (.dK kvs)):m_ H a (kV k) (jQ kvs k):=.inl ⟨kvs,k,.inl e,rfl,rfl⟩
theorem zu.k{H:Hp}{a:ag}{kvs:List (aF×V)}{k:aF}{v:V}(e:H a=aa (.dK kvs))(b:kvs.length<bh):zu H a (kV k) v (upd H a (.dK (fW kvs k v))):=.inl ⟨kvs,k,e,rfl,b,rfl⟩
theorem zu.t{H:Hp}{a b:ag}{c:List (List aF×V)}{k:List aF}{v:V}(e:H a=aa (.dT c))(f:H b=aa (.tup (k.map kV)))(d:c.length<bh):zu H a (.ref b) v (upd H a (.dT (fW c k v))):=.inr ⟨c,k,b,e,rfl,f,d,rfl⟩
section
variable{X:Cx}{f:List (ag×Obj)}{d:St}{H:Hp}{s:am}{a:ag}{y v:V}{u r:ai}{o:Option V}{A:aX}{E:ai->am->Prop}
theorem Inv.big(I:Inv X f d H s):jY<s.heap.objs.size:=by have h:b8<s.heap.objs.size:=(I.mod.glob.keeps I.bk).lt;exact CN (by decide) h
theorem OY{Q:ai->am->Prop}(B:A.units+1<cLine)(I:Inv X f d H s)(g:m_ H a y (aa v))(w:RelV y u)(h:∀j q,Inv X f d H q->RelV v j->Q j q):ar (ax X.prog X.w) A (qR (.ref a) u) Q E s:=by
 rcases g with⟨kvs,k,e,ey,l⟩|⟨kvs,k,b,e,ey,eb,l⟩
 .subst ey;obtain⟨z,D,x,i,n⟩:=qI I.hok e;obtain⟨j,m,c⟩:=o_.some_of (v:=v) (o:=t0 x k) (by rw[l];exact i.val k);exact wpAny_getItem_of (tO w) n.mapOf m (h j _ (I.tok _) c)
 .subst ey;cases (show u=Value.ref b from w);obtain⟨z,D,xs,i,n⟩:=tD I.hok e;obtain⟨j,m,c⟩:=o_.some_of (v:=v) (o:=(atKey xs k).map (·.2)) (by rw[l];exact i.val k);obtain⟨p,C,F⟩:=jD.mp m;refine wpAny_getItem_heap (CO B) (sX I.hok eb) n C ?_;rw[F];exact h j _ (I.tok _) c
theorem Um{Q:ai->am->Prop}(p:A.units+1<cLine)(I:Inv X f d H s)(g:m_ H a y o)(n:RelV y u)(h:∀m,Inv X f d H m->Q (.bool o.isSome) m):ar (ax X.prog X.w) A (eE .In u (.ref a)) Q E s:=by
 rcases g with⟨kvs,k,e,ey,l⟩|⟨kvs,k,b,e,ey,eb,l⟩
 .subst ey;obtain⟨z,i,w,c,j⟩:=qI I.hok e;refine wpAny_in_of (tO n) i j.mapOf ?_;rw[<-(c.val k).isSome_eq,<-l];exact h _ (I.tok _)
 .subst ey;cases (show u=Value.ref b from n);obtain⟨z,i,xs,c,j⟩:=tD I.hok e;refine wpAny_in_heap (CO p) (sX I.hok eb) i j ?_;have q:=(c.val k).isSome_eq;rw[Ju]at q;rw[<-q,<-l];exact h _ (I.tok _)
theorem xu{h':aD}{t':Nat}{c:HO}(I:Inv X f d H s)(g:u8 (H a))(h:li a s.heap h')(i:∃q,h'.get? a=aa q)(new:cB X.prog X.w (upd H a c) h' a c):Inv X f d (upd H a c) {s with heap:=h',toks:=t'} :=I.write (x:=a) (e:=a) g (.inl rfl) (λb q j z=>(h.2 b j).trans z) i new
theorem EA{P:aV}{w:aL}{j:Hp}{h':aD}{b:List (aF×V)}{c:List (aF×ai)}(z:b.length<=bh)(h:(a == jY)=aj)(g:KV b c)(i:h'.DictOf (gA P w) a c):cB P w j h' a (.dK b):=⟨z,h,c,g,i⟩
theorem Np{K:Hp}{Q:Unit->am->Prop}(M:A.units+1<cLine)(I:Inv X f d H s)(g:zu H a y v K)(D:RelV y u)(F:RelV v r)(h:∀C,Inv X f d K C->Q () C):ar (ax X.prog X.w) A (setItem (.ref a) u r) Q E s:=by
 rcases g with⟨kvs,k,e,ey,l,eH⟩|⟨kvs,k,b,e,ey,eb,l,eH⟩
 .subst ey eH;obtain⟨z,x,L,i,B⟩:=vt I.hok e;have n:L.length<=bh:=by rw[<-i.length];exact z
  have w:(fW kvs k v).length<=bh:=by have:=Cp kvs k v;lia
  refine wpAny_setItem_pairs (hsz:=n) (tO D) B λG j p=>h _ ?_;have N:∃q,G.get? a=aa q:=let ⟨q,_,_,m,_⟩:=j;⟨q,m⟩
  exact xu I (by rw[e];exact True.intro) p N (EA w x (i.put k F) j)
 .subst ey eH;cases (show u=Value.ref b from D);obtain⟨z,x,xs,i,B⟩:=Ey I.hok e;have n:xs.length<=bh:=by rw[<-qK i];exact z
  have w:(fW kvs k v).length<=bh:=by have:=Cp kvs k v;lia
  refine wpAny_setItem_heap (hsz:=n) (CO M) (sX I.hok eb) B λG j p=>h _ ?_;obtain⟨q,W,Y,m,T,S,P,_,O⟩:=j;refine xu I (by rw[e];exact True.intro) p ⟨q,m⟩ ⟨w,x,_,(i.put k eb F).keeps λc Z J=>?_,q,W,Y,m,T,S,P,O⟩;rw[bj (xr J e (λz=>nomatch z))];exact J
end
section
variable{X:Cx}{d:List (ag×Obj)}{c:St}{H:Hp}{s:am}{a:ag}{b:List (aF×V)}{k:aF}{u:ai}{A:aX}{E:ai->am->Prop}
theorem SR{Q:ai->am->Prop}(I:Inv X d c H s)(e:Rd H a (.dK b))(h:∀t g,Inv X d c H g->Q (.int b.length t) g):ar (ax X.prog X.w) A (call (.builtin "len") [.ref a]) Q E s:=by obtain⟨z,i,l,f,j⟩:=qI I.hok e;refine call_len_dict i j (by rw[<-f.length];rw[lR]at z;lia) ?_;rw[<-f.length];exact h _ _ (I.tok _)
end
def Bk(i:aB):Prop:=∀a b,CL i aj a b=operate [a,b] (qR a b)
theorem TV{a:aV}{w:aL}{A:aX}{E:ai->am->Prop}{s:am}{m:Env}{c b:aB}{q:Pos}{T v:String}{Q:ai->am->Prop}(z:typeLookup (.type T) "__getitem__"=pure (aa (.builtin v))) (y:Bk b)(h:ar (ax a w) A (a6 c m) (λo j=>ar (ax a w) A (a6 b m) (λi d=>d.TypeIs o T/\ar (ax a w) A (qR o i) Q E d) E j) E s):ar (ax a w) A (a6 (.Subscript c b q) m) Q E s:=by
 refine Subscript_ (dZ h (λo j p=>dZ p (λi d f=>?_) λ_ _ x=>x) λ_ _ x=>x);obtain⟨u,f⟩:=f;unfold subscriptTail;refine aq ?_;rw[getitemInPython_of_ne u.not_modules];refine aq (wpAny_specialOf u z ?_);have l:ar (ax a w) A (CL b aj o i) (λr g=>ar (ax a w) A (letTemporaryGo c o r >>= λ_=>pure r) Q E g) E d:=by rw[y o i];exact wpAny_operating (dZ f (λr g n=>aq (wpAny_letTemporaryGo (aG n))) λ_ _ x=>x)
 first
  |exact aG (aq l)
  |exact aq (aG (aq l))
  |exact aq l
theorem ON{X:Cx}{f:List (ag×Obj)}{d:St}{H:Hp}{s:am}{a:ag}{y:V}{o:Option V}(I:Inv X f d H s)(g:m_ H a y o):s.TypeIs (.ref a) "dict":=by
 rcases g with⟨kvs,k,e,_,_⟩|⟨kvs,k,b,e,_,_,_⟩
 .obtain⟨_,_,h,_,c⟩:=qI I.hok e;exact c.typeIs
 .obtain⟨_,_,xs,_,c⟩:=tD I.hok e;exact c.typeIs
def MQ(d ty:TE):TE:=λb H Q=>d b H λx f=>ty b f λy c=>∃a v,x=.ref a/\m_ c a y (aa v)/\Q v c
def TL(ty d:TE):TE:=λb H Q=>ty b H λy f=>d b f λx c=>∃a o,x=.ref a/\m_ c a y o/\Q (.bl o.isSome) c
def MH(f ty d:TE):TS:=λD b H=>d b H λv i=>f b i λx h=>ty b h λy g=>∃a c,x=.ref a/\zu g a y v c/\D.nx b c
section
variable{X:Cx}{o i e b:aB}{d c l:Pos}{f ty j:TE}
theorem KA(C:X.A.units+1<cLine)(E:PE X o f)(F:PE X i ty)(D:Bk i):PE X (.Subscript o i d) (MQ f ty):=by intro p s n H Q I h;refine TV PySem.F.slot_dict_getitem.lookup D (aW (E p s n H _ I h) λu r ⟨x,M,K,z,B⟩=>aW (F p r n M _ K B) λS P ζ=>?_);obtain⟨y,L,q,w,a,v,G,g,A⟩:=ζ;subst G;obtain rfl:u=Value.ref a:=z;exact⟨ON q g,OY C q g w λN O J m=>⟨v,L,J,m,A⟩⟩
theorem Pa(A:X.A.units+1<cLine)(C:PE X i ty)(B:PE X o f):PC X .In i o (TL ty f):=by intro n s m H Q I h;refine aW (C n s m H _ I h) λN p ⟨y,K,G,q,w⟩=>aW (B n p m K _ G w) λu M ζ=>?_;obtain⟨x,J,F,r,a,z,D,g,v⟩:=ζ;subst D;obtain rfl:u=Value.ref a:=r;exact Um A F g q λL E=>⟨.bl z.isSome,J,E,rfl,v⟩
theorem E4(G:X.A.units+1<cLine)(K:PE X o f)(L:PE X i ty)(F:PE X b j)(J:jZ b (aa (.Subscript o i c)) d.line X.env=pure aj):PS X (.Assign [.Subscript o i c] b d) (MH f ty j):=by intro n s m H D I h;refine wpAny_Assign_Subscript (aW (F n s m H _ I h) λr q ⟨v,W,Q,A,E⟩=>aW (K n q m W _ Q E) λu p ⟨x,T,P,z,C⟩=>aW (L n p m T _ P C) λiv Z ⟨y,H3,O,w,a,S,M,g,B⟩=>?_) J;subst M;obtain rfl:u=Value.ref a:=z;exact Np G O g w A λY N=>⟨m,S,N,B⟩
end
theorem FJ{P:aV}{w:aL}{H:Hp}(h:aD)(a:jY<h.objs.size):cB P w H (h.push {cls:=.type "dict",data:=.dict #[]}) h.objs.size (.dK []) :=⟨lY _,beq_eq_false_iff_ne.mpr (dN (cZ a)),[],.nil,Heap.DictOf.new h⟩
theorem GP{P:aV}{w:aL}{H:Hp}(h:aD)(a:jY<h.objs.size):cB P w H (h.push {cls:=.type "dict",data:=.dict #[]}) h.objs.size (.dT []) :=⟨lY _,beq_eq_false_iff_ne.mpr (dN (cZ a)),[],.nil,_,#[],0,cG _ rfl,⟨rfl,rfl,rfl⟩,rfl,rfl,List.nodup_nil⟩
def QX:TE:=λ_ H Q=>∀p,H p=ae->Q (.ref p) (upd H p (.dK []))
def Oo:TE:=λ_ H Q=>∀p,H p=ae->Q (.ref p) (upd H p (.dT []))
section
variable{X:Cx}{b:Pos}
theorem Nd:PE X (.Dict [] [] b) QX:=λd s c H Q I h=>wpAny_Dict_empty ⟨.ref s.heap.objs.size,_,I.laid (a:=s.heap.objs.size) (o:=.dK []) (t':=s.toks) (λ_ _ q=>bK _ q) (bd _) (FJ s.heap I.big),rfl,h _ (I.hok.fresh (bd _))⟩
theorem To:PE X (.Dict [] [] b) Oo:=λd s c H Q I h=>wpAny_Dict_empty ⟨.ref s.heap.objs.size,_,I.laid (a:=s.heap.objs.size) (o:=.dT []) (t':=s.toks) (λ_ _ q=>bK _ q) (bd _) (GP s.heap I.big),rfl,h _ (I.hok.fresh (bd _))⟩
end
def yo:List (TE×TE)->St->Hp->(List (V×V)->Hp->Prop)->Prop
 |[],_,H,Q=>Q [] H
 | (c,b)::r,a,H,Q=>c a H λx h=>b a h λy g=>yo r a g λd f=>Q ((x,y)::d) f
abbrev VV:List (V×V)->List (ai×ai)->Prop:=fY λp q=>RelV p.1 q.1/\RelV p.2 q.2
def sY(X:Cx)(d:Pos)(keys:List (Option aB))(a:List aB)(c:List (TE×TE)):Prop :=
 ∀(g:List (ag×Obj)) (s:am) (b:St) (H:Hp) (Q:List (V×V)->Hp->Prop),Inv X g b H s->yo c b H Q ->
  ar (ax X.prog X.w) X.A (evalPairs (pairTrees keys a X.env d)) (λi j=>∃f h,Inv X g b h j/\VV f i/\Q f h) X.xe s
theorem Ir{X:Cx}{a:Pos}:sY X a [] [] []:=λc s b H Q I h=>pairTrees_nil_walk ⟨[],H,I,.nil,h⟩
theorem GS{X:Cx}{b:Pos}{k v:aB}{ks:List (Option aB)}{g:List aB}{j i:TE}{a:List (TE×TE)}(B:PE X k j)(z:PE X v i)(A:sY X b ks g a):sY X b (aa k::ks) (v::g) ((j,i)::a):=λf s c H Q I h=>pairTrees_cons_walk (aW (B f s c H _ I h) λu m ⟨x,J,E,o,r⟩=>aW (z f m c J _ E r) λL l ⟨y,G,D,n,q⟩=>aW (A f l c G _ D q) λK M ⟨w,F,C,d,p⟩=>⟨(x,y)::w,F,C,.cons ⟨o,n⟩ d,p⟩)
def tN(a more:List (aF×V)):List (aF×V):=more.foldl (λc b=>fW c b.1 b.2) a
theorem KV.merge:∀{more:List (aF×V)}{c:List (aF×ai)}{a:List (aF×V)}{b:List (aF×ai)},KV more c->KV a b->KV (tN a more) (merged b c):=by
 intro more c a b r;unfold KV at r
 induction r generalizing a b with
 |nil=>intro q;exact q
 |@cons p q ps qs h t ih=>
  intro d;have e:KV (fW a p.1 p.2) (stored b q.1 q.2):=by have:=d.put p.1 h.2;rw[<-h.1];exact this
  exact ih e
theorem HI:∀(more a:List (aF×V)),(tN a more).length<=a.length+more.length
 |[],a=>by show a.length<=a.length+0;lia
 |p::r,a=>by have c:=HI r (fW a p.1 p.2);have b:=Cp a p.1 p.2;show(tN (fW a p.1 p.2) r).length<=_;rw[eG];lia
theorem EI{P:aV}{w:aL}:∀{d:List (aF×V)}{g:List (ai×ai)},VV (d.map λi=>(kV i.1,i.2)) g->∃f,Carries (gA P w) g f/\KV d f
 |[],_,r=>by rw[zD]at r;cases r;exact⟨[],True.intro,.nil⟩
 |p::d,_,r=>by
  rw[cn]at r;cases r with
  |@cons a b as bs h t=>obtain⟨f,c,q⟩:=EI (P:=P) (w:=w) t;obtain⟨b1,b2⟩:=b;exact⟨(p.1,b2)::f,⟨tO h.1,rfl,c⟩,.cons ⟨rfl,h.2⟩ q⟩
def Ue(b:List (TE×TE)):TE:=λf H Q=>∀p,H p=ae->yo b f (upd H p (.dK [])) λg d=>d p=aa (.dK [])/\∃a:List (aF×V),g=a.map (λc=>(kV c.1,c.2))/\a.length<=15/\Q (.ref p) (upd d p (.dK (tN [] a)))
theorem LL{X:Cx}{f:Pos}{keys:List (Option aB)}{b:List aB}{d:List (TE×TE)}(h:sY X f keys b d)(hall:keys.all (·.isSome)=ah)(C:keys.length=b.length)(G:keys≠[])(l:keys.length<=15):PE X (.Dict keys b f) (Ue d):=by
 intro L s n H Q I q;have B:=I.hok.fresh (bd s.heap.objs.size);have M:=I.laid (a:=s.heap.objs.size) (o:=.dK []) (h':=s.heap.push {cls:=.type "dict",data:=.dict #[]}) (t':=s.toks) (λ_ _ q=>bK _ q) (bd _) (FJ s.heap I.big);refine wpAny_Dict_walk (knd:=gA X.prog X.w) hall C G l (aW (h L _ n _ _ M (q _ B)) λN O ζ=>?_);obtain⟨S,W,m,j,e,g,J,T,x⟩:=ζ;subst J;obtain⟨r,c,u⟩:=EI (P:=X.prog) (w:=X.w) j;obtain⟨z,E,p,v,K⟩:=vt m.hok e;cases v;refine⟨r,c,K,λh' i A=>⟨.ref s.heap.objs.size,_,?_,rfl,x⟩⟩;have y:(tN [] g).length<=bh:=by have F:=HI g [];rw[pt]at F;rw[lR];lia
 have D:∃q,h'.get? s.heap.objs.size=aa q:=let ⟨q,_,_,hq,_⟩:=i;⟨q,hq⟩
 exact xu m (by rw[e];exact True.intro) A D (EA y E (u.merge .nil) i)
structure M2(X:Cx)(o:aB)(m:Str)(apos:Pos)(e f:aB)(cpos:Pos):Prop where
 base:nX o m X.env (a6 o X.env)=a6 o X.env
 few:((c7 cpos (aR [e,f] X.env)).all (λx=>!x.1)&&(qT cpos (qU [] X.env)).all (λx=>x.1.isSome)&&decide (([e,f]:List aB).length+([]:List kD).length+(if([]:List kD).isEmpty then 0 else 1)<30))=ah
 line:(apos.endLine == cpos.line)=ah
 trees:c7 cpos (aR [e,f] X.env)=[(aj,a6 e X.env),(aj,a6 f X.env)]
def E9(H:Hp)(a:ag):Prop:=(∃b,Rd H a (.dK b))\/∃b,Rd H a (.dT b)
theorem Ql{X:Cx}{l:List (ag×Obj)}{j:St}{H:Hp}{s:am}{a:ag}(I:Inv X l j H s)(d:E9 H a):s.TypeIs (.ref a) "dict"/\(∀b,Value.ref a=.ref b->∃c,s.heap.get? b=aa c/\c.dict=ae)/\(a == jY)=aj:=by
 rcases d with⟨kvs,e⟩|⟨kvs,e⟩
 .obtain⟨_,g,m,_,f⟩:=qI I.hok e;refine⟨f.typeIs,λb q=>?_,g⟩;cases q;obtain⟨c,_,_,i,h,_⟩:=f;exact⟨c,i,h.2.1⟩
 .obtain⟨_,g,xs,_,f⟩:=tD I.hok e;refine⟨f.typeIs,λb q=>?_,g⟩;cases q;obtain⟨c,_,_,i,h,_⟩:=f;exact⟨c,i,h.2.1⟩
section
variable{X:Cx}{f:List (ag×Obj)}{c:St}{H:Hp}{s:am}{a:ag}{y d:V}{u r:ai}{o:Option V}{A:aX}{E:ai->am->Prop}
theorem Mz{Q:ai->am->Prop}(v:A.units+1<cLine)(I:Inv X f c H s)(g:m_ H a y o)(q:RelV y u)(rd:RelV d r)(h:∀n p,Inv X f c H p->RelV (o.getD d) n->Q n p):ar (ax X.prog X.w) A (call (.builtin "dict.get") [.ref a,u,r]) Q E s:=by
 rcases g with⟨kvs,k,e,ey,l⟩|⟨kvs,k,b,e,ey,eb,l⟩
 .subst ey;obtain⟨z,m,w,i,j⟩:=qI I.hok e;refine call_meetsIn Jv j.typeIs PySem.F.entry_dict_get (PySem.F.args_dict_get_3 _ _ _) (meets_dict_get_default (gA X.prog X.w) a (tO q) m r) ⟨_,j.mapOf,h _ _ (I.tok _) ?_⟩;rw[l];exact(i.val k).getD rd
 .subst ey;cases (show u=Value.ref b from q);obtain⟨z,m,xs,i,j⟩:=tD I.hok e;refine call_meetsIn Jv j.typeIs PySem.F.entry_dict_get (PySem.F.args_dict_get_3 _ _ _) (meetsH_dict_get_default (tR (gA X.prog X.w)) a b m r) ⟨CO v,k,xs,sX I.hok eb,j,h _ _ (I.tok _) ?_⟩;rw[l];exact(i.val k).getD rd
end
def RO(f ty tx:TE):TE:=λb H Q=>f b H λx d=>∃a,x=.ref a/\E9 d a/\ty b d λy g=>tx b g λz c=>∃o,m_ c a y o/\Q (o.getD z) c
section
variable{X:Cx}{o e f:aB}{c b:Pos}{i ty tx:TE}
theorem Nl(G:X.A.units+1<cLine)(J:PE X o i)(L:PE X e ty)(K:PE X f tx)(m:M2 X o "get" c e f b):PE X (.Call (.Attribute o "get" c) [e,f] [] b) (RO i ty tx):=by intro n s j H Q I h;refine wpAny_Call_method m.base m.few m.line PySem.F.plainAttrs_dict Jv PySem.F.type_dict_get (aW (J n s j H _ I h) λu w ζ=>?_);obtain⟨x,W,p,C,a,M,d,F⟩:=ζ;subst M;obtain rfl:u=Value.ref a:=C;obtain⟨r,q,_⟩:=Ql p d;refine⟨r,q,?_⟩;rw[m.trees];refine Js rfl (Jt (CG (aW (L n w j W _ p F) λiv v ⟨y,T,P,B,E⟩=>CG (aW (K n v j T _ P E) λfv s3 ⟨z,S,O,A,ov,g,D⟩=>Jk ?_))));exact Mz G O g B A λY Z N l=>⟨_,S,N,l,D⟩
end
end L2
namespace Att
open PySem PySem.W PySem.Calls PyProof.Rows
theorem SS{P:Params}{h:aD}:∀(c:List Int) (d:List ai),WellAll P h d (c.map WData.int)->IntsAre d c:=by
 intro c
 induction c with
 |nil=>
  intro d w;rw[zD]at w;cases w;exact .nil
 |cons n c f=>
  intro d w;rw[cn]at w;cases w with
  |cons a b=>
   cases a;exact .cons _ _ (f _ b)
theorem Uj{l:OpenLaw}{n:Nat}(x:l.most=aa n){P:Params}{h:aD}{args:List WData}{c:List ai}(m:l.row.toRowW.claim.pre args=ah) (i:WellAll P h c args):∃a o b,c=[Value.ref a]/\args=[WData.list (b.map WData.int)]/\h.get? a=aa {cls:=.type "list",data:=.seq o.toArray}/\IntsAre o b/\b.length<=n:=by
 have j:WShape.hasAll [] args [.list .int]=ah:=(pre_splitW m).1;have p:l.pre.holds [] {args:=args}=ah:=(pre_splitW m).2;obtain⟨d,r,rfl,A,z⟩:=hasAllW_cons j;obtain rfl:=hasAllW_nil z;obtain⟨xs,rfl,y⟩:=hasW_list A;obtain⟨b,rfl⟩:=items_int y;have B:b.length<=n:=by
  unfold OpenLaw.pre at p;have g:(WTm.not (.lt (.lit (.int (n:Int))) (.len (.arg 0)))).holds [] {args:=[.list (b.map .int)]}=ah:=by have g:=(holds_andW p).1;rw[x]at g;exact g
  have f:=condW_of g (w_not (w_lt w_lit (w_len_list (w_arg rfl))));rw[cz]at f;refine Nat.le_of_not_lt λq=>?_;have v:(n:Int)<((b.length:Nat):Int):=∅
  first
   | (rw[decide_eq_true v]at f;exact absurd f (by decide))
   | (simp at f;lia)
 cases i with
 |cons u s=>
  cases s;cases u with
  |list w hall=>exact⟨_,_,b,rfl,rfl,w,SS b _ hall,B⟩
theorem P8(l:OpenLaw)(args:List WData):l.row.toRowW.claim.post args (.bool ah) args=ah :=
 postW_of (r:=l.row.toRowW) (X:=(ah == ah))
  (show WShape.has [] (.bool ah) .bool=ah by first|rfl|decide|simp[WShape.has,WShape.arms,WShape.armsAll])
  (show(WTm.eq .res (.lit (.bool ah))).value [] {args:=args,res:=aa (.bool ah),after:=args}=aa (.bool (ah == ah))from w_eq_bool (w_res rfl) w_lit) rfl
theorem attach_call{l:OpenLaw}{n:Nat}{q:aV}{g:List Str}{XP:(Str->Option ai)->aD->Prop}{D:aL->aD->Prop}{d:DefRec}(L:l.most=aa n) (H:d.params.defaults=[])(call:∀(w:aL) (c b:am) (s x:Str->Option ai) (j:ag) (o:Obj) (v u h:ai) (a:ag) (i:List ai) (p:List Int),Ground q g [] XP w c s x b.heap->D w b.heap -> b.heap.get? j=aa o->o.data=.func (docDef d.name d.params d.body d.scope v u h)->b.heap.CodeRec u d.name->s d.name=aa (.ref j) -> b.heap.get? a=aa {cls:=.type "list",data:=.seq i.toArray}->IntsAre i p->p.length<=n->b.gens=#[] -> mK (ax l.prog w) t4 (.call (.ref j) ⟨[.ref a],[]⟩) (λr m=>r=.ok (.ret (.bool ah))/\OldK b.heap m.heap/\m.os=b.os/\nO m.gens) b):WalkO q g XP D l.row.toRowW d [] (λf i=>PySem.call f i):=by intro w c b s x G Y j o v u h dV kV K P X B E O C z as F A I y N;obtain rfl:dV=.none:=Dflts.none B H;obtain rfl:kV=.none:=Dflts.noKw B;obtain⟨a,i,p,rfl,rfl,Z,DC,W⟩:=Uj L F y;refine enter_call (ph (call w c b s x j o v u h a i p G Y K (fd_plain P) X E Z DC W O) λr m J=>?_);obtain⟨rfl,T,S,Q⟩:=J;exact⟨.inl ⟨.bool ah,.bool ah,[],rfl,λ_=>rfl,.bool ah,P8 l _,λ_=>⟨List.Pairwise.nil,λ_ M=>(nomatch M)⟩⟩,T,S,Q⟩
end Att
namespace L2
theorem K7{a:List ai}{b:List Int}(h:IntsAre a b):bx (b.map V.int) a:=by
 induction h with
 |nil=>exact .nil
 |cons n t _ g=>exact .cons ⟨t,rfl⟩ g
def B3(H:Hp):Prop:=∀b,H b=ae\/(∃o xs,H b=aa (.frz o (.lst xs)))\/∃q,H b=aa (.tbl q)
def ke(K:ay):Hp:=λb=>match qM K "road" with
 |some (_,P)=>if b=P then aa (.tbl "road.<locals>.<lambda>")else ae
 |none=>ae
theorem qt{K:ay}{b:ag}{u:HO}(h:ke K b=aa u):u=.tbl "road.<locals>.<lambda>"/\∃c,qM K "road"=aa (c,b):=by
 unfold ke at h;split at h
 .rename_i c P e;split at h
  .rename_i a;subst a;cases h;exact⟨rfl,c,e⟩
  .cases h
 .cases h
theorem Fc{K:ay}{c P:ag}(h:qM K "road"=aa (c,P)):ke K P=aa (.tbl "road.<locals>.<lambda>"):=by unfold ke;rw[h];exact if_pos rfl
def EE(K:ay)(h:aD):Prop:=∀c P,qM K "road"=aa (c,P)->PySem.W.codeHdIn K c P=ah/\K.lookup P=ae/\h.get? P=aa {cls:=.none,data:=.fields #[]}
theorem PR{P:aV}{w:aL}{K:ay}{L mb:Str->Option ai}{CX:gx}{k:Nat}{fa a:ag}{fd:gi}{x:Str}{sp:Sp}{f:am}{G:List ai}{M:List Int}(KX:K.In f.heap) (uj:f.heap.Ns b8 L) (j:f.heap.Ns qL mb) (rn:∀x:Str,x≠"__name__"->mb x=fe x) (O:f.heap.NoLimit) (hbm:∃E C,L "__builtins__"=aa (.ref E)/\E≠qL/\f.heap.get? E=aa C/\C.cls=.type "module"/\C.dict=aa qL/\C.data=.plain) (B:EE K f.heap) (hg:f.gens=#[])(y:f.heap.get? a=aa {cls:=.type "list",data:=.seq G.toArray}) (hi:IntsAre G M) (hl:M.length<=bh) (hr:dW k t4)(F:∀p:aD,K.In p->p.Ns b8 L->jP P w K L p CX k fa fd [x] sp) (UW:∀(s:am) (u:ai),BindsTo s fd ⟨[u],[]⟩ [(x,u)])(iz:∀H:Hp,B3 H->cy K H a (M.map V.int)->sp [.ref a] H (λv _=>v=.bl ah) λ_ _ _=>False)(hCX:∀H e l,CX [] H f (λ_ _ _=>False) e l->False):mK (ax P w) t4 (.call (.ref fa) ⟨[.ref a],[]⟩) (λr l=>r=.ok (.ret (.bool ah))/\OldK f.heap l.heap/\l.os=f.os/\nO l.gens) f:=by
 have rv:=K7 hi;have N:=hi.length;have D:∀H:Hp,B3 H->cy K H a (M.map V.int)->dG P w H f.heap->(∀b,H b≠ae->b=a\/∃c,qM K "road"=aa (c,b))->(H a≠ae->K.lookup a=ae)->xl K H ->
   mK (ax P w) t4 (.call (.ref fa) ⟨[.ref a],[]⟩) (λr l=>r=.ok (.ret (.bool ah))/\OldK f.heap l.heap/\l.os=f.os/\nO l.gens) f:=by
  intro H hO hS I Y hK hTH;have g:∀{b:ag}{o:Obj},f.heap.get? b=aa o->H b=ae->(nv f.heap H).get? b=aa o:=λe n=>OR e n;have noA:∀{b:ag}{o:Obj}{S:Array t5}{T:Nat},f.heap.get? b=aa o->o.data=.dict S T->H b=ae:=λ{b o S T} e d=>by
   cases q:H b with
   |none=>rfl
   |some u=>
    rcases Y b (by rw[q];simp)with i|⟨c,i⟩
    .subst i;rw[y]at e;cases e;have d':Data.seq G.toArray _=Data.dict S T:=d;cases d'
    .rw[(B c b i).2.2]at e;cases e;cases d
  have A:∀{b:ag}{m:Str->Option ai},f.heap.Ns b m->(nv f.heap H).Ns b m:=λ{b m} ⟨o,S,T,e,d,r⟩=>⟨o,S,T,g e (noA e d),d,r⟩
  have Q:K.In (nv f.heap H):=λb o e=>g (KX b o e) (by
   cases q:H b with
   |none=>rfl
   |some u=>
    rcases Y b (by rw[q];simp)with i|⟨c,i⟩
    .subst i;rw[hK (by rw[q];simp)]at e;cases e
    .rw[(B c b i).2.1]at e;cases e)
  have hM:Mod K L (nv f.heap H):=⟨Q,A uj,⟨mb,A j,rn⟩,(let ⟨mc,h1,h2⟩:=O;⟨mc,A h1,h2⟩),by
   obtain⟨E,C,b1,b2,X,b4,b5,b6⟩:=hbm;refine⟨E,C,b1,b2,g X ?_,b4,b5,b6⟩;cases q:H E with
   |none=>rfl
   |some u=>
    rcases Y E (by rw[q];simp)with i|⟨c,i⟩
    .subst i;rw[y]at X;cases X;simp at b4
    .rw[(B c E i).2.2]at X;cases X;simp at b4⟩
  have e0:sA P w K L (nv f.heap H) t4 [] f H:=⟨rfl,hM,λb o e=>UI e,nY (Ku _ _),trivial,λb j=>absurd (show b∈([]:List ag)from j) (by simp),I,.of_eq hg,hTH⟩
  refine ph ((F _ Q (A uj)).run t4 [] f H ⟨[.ref a],[]⟩ [.ref a] [.ref a] _ _ hr e0 (UW f (.ref a)) (.cons rfl .nil) (iz H hO hS)) λr l h=>?_;cases r with
  |error e=>exact(hCX H e l h).elim
  |ok fl=>
   cases fl with
   |next=>exact gm h
   |brk=>exact gm h
   |cont=>exact gm h
   |ret u=>
    obtain⟨v,H',os,W,un,Ke,r',q⟩:=h;have q':v=.bl ah:=q;subst q';obtain rfl:u=Value.bool ah:=r';refine⟨rfl,⟨λb o e=>?_,λb o e=>un.there b o e (by simp)⟩,os,W⟩;cases q:H b with
    |none=>exact .inl (un.keep b o e q (by intro z;exact absurd (show b∈([]:List ag)from z) (by simp)) (by simp))
    |some u=>
     rcases hO b with z|⟨C,xs,z⟩|⟨qn,z⟩
     .rw[q]at z;cases z
     .have z2:=un.frzs b C _ z;obtain⟨J,_⟩:=I b _ z;obtain⟨e2,_⟩:=Ke b _ z2;rw[e]at J;cases J;exact .inl e2
     .rcases Y b (by rw[q];simp)with i|⟨c,i⟩
      .subst i;obtain⟨ps,J,_⟩:=I b _ z;rw[y]at J;cases J
      .obtain⟨k1,k2,k3⟩:=B c b i;rw[k3]at e;cases e;obtain⟨oc,Z,_,_,_,_,_,_,_,f1,f2,f3,f4,_⟩:=PySem.W.codeHd_of_K KX k1;obtain⟨ps,J,_⟩:=Ke b _ (un.tbls b _ z);exact .inr (.inl ⟨⟨c,oc,Z,f1,f2,f3,f4⟩,rfl,#[],ps,rfl,by rw[J];simp⟩)
 cases hk:K.lookup a with
 |some o=>
  have e:=KX a o hk;rw[y]at e;cases e;have tH:∀b u,ke K b=aa u->cB P w (ke K) f.heap b u:=λb u z=>by
   obtain⟨rfl,c,e⟩:=qt z;exact⟨#[],(B c b e).2.2,trivial,λpos cv h=>by cases h⟩
  refine D (ke K) (λb=>?_) (.inr ⟨_,G.toArray,_,hk,rfl,rfl,rfl,by rw[cH,N];exact hl,by simpa using rv⟩) tH (λb z=>?_) (λz=>?_) λx hx c P e=>?_
  .cases q:ke K b with
   |none=>exact .inl rfl
   |some u=>exact .inr (.inr ⟨_,congrArg aa (qt q).1⟩)
  .cases q:ke K b with
   |none=>exact absurd q z
   |some u=>exact .inr (qt q).2
  .cases q:ke K a with
   |none=>exact absurd q z
   |some u=>
    obtain⟨_,c,i⟩:=qt q;rw[(B c a i).2.2]at y;cases y
  .obtain rfl:x = "road":=by simpa[Ck]using hx
   exact Fc e
 |none=>
  have ta:∀c P,qM K "road"=aa (c,P)->P≠a:=λc P e z=>by subst z;rw[(B c P e).2.2]at y;cases y
  refine D (λb=>if b=a then aa (.frz {cls:=.type "list",data:=.seq G.toArray} (.lst (M.map V.int)))else ke K b) (λb=>?_) (.inl (.inr ⟨{cls:=.type "list",data:=.seq G.toArray},if_pos rfl⟩)) (λb u z=>?_) (λb z=>?_) (λ_=>hk) λx hx c P e=>?_
  .by_cases j:b=a
   .exact .inr (.inl ⟨_,_,if_pos j⟩)
   .cases q:ke K b with
    |none=>exact .inl ((if_neg j).trans q)
    |some u=>exact .inr (.inr ⟨_,(if_neg j).trans (q.trans (congrArg aa (qt q).1))⟩)
  .by_cases j:b=a
   .have z':=(if_pos j).symm.trans z;cases z';subst j;exact⟨y,by rw[cz];exact hl,G,_,rv,y⟩
   .obtain⟨rfl,c,e⟩:=qt ((if_neg j).symm.trans z);exact⟨#[],(B c b e).2.2,trivial,λpos cv h=>by cases h⟩
  .by_cases j:b=a
   .exact .inl j
   .cases q:ke K b with
    |none=>exact absurd ((if_neg j).trans q) z
    |some u=>exact .inr (qt q).2
  .obtain rfl:x = "road":=by simpa[Ck]using hx
   exact(if_neg (ta c P e)).trans (Fc e)
theorem Vx{l:CP}{n k:Nat}{q:aV}{c:List Str}{XP:(Str->Option ai)->aD->Prop}{E:aL->aD->Prop}{d:DefRec}{K:Params->ay}{CX:aL->gx}{sp:aL->Sp}{x:Str}(O:l.most=aa n) (r:n<=bh) (L:d.params.defaults=[]) (N:dW k t4)(C:∀(w:aL) (h:aD),E w h->(K w.params).In h/\EE (K w.params) h)(F:∀(w:aL) (g:Str->Option ai) (m:ag) (h:aD),(K w.params).In h->h.Ns b8 g->g d.name=aa (.ref m) -> ∃z:gi,(∀(s:am) (u:ai),BindsTo s z ⟨[u],[]⟩ [(x,u)]) /\ ∀b:aD,(K w.params).In b->b.Ns b8 g->jP l.prog w (K w.params) g b (CX w) k m z [x] (sp w))(M:∀(w:aL) (H:Hp) (a:ag) (j:List Int),j.length<=n->B3 H->cy (K w.params) H a (j.map V.int)->sp w [.ref a] H (λv _=>v=.bl ah) λ_ _ _=>False)(y:∀(w:aL) (H:Hp) (s:am) (e:ai) (p:am),CX w [] H s (λ_ _ _=>False) e p->False):PySem.W.WalkO q c XP E l.row.toRowW d [] (λf A=>PySem.call f A):=by refine Att.attach_call O L λw B i g mb m o pm cd X a A j G Y ho hd bB J Z DC D P=>?_;have I:=(C w _ Y).1;obtain⟨z,Q,W⟩:=F w g m _ I G.T.g J;exact PR I G.T.g G.T.b G.T.builtins G.T.nolimit G.T.bmain (C w _ Y).2 P Z DC (c0 D r) N W Q (λH T S=>M w H a j D T S) λH e p=>y w H i e p
def kg(s:ba):Arguments:=match s with
 |.FunctionDef _ a _ _ _ _ _ _ _ _=>a
 |_=>{posonlyargs:=[],args:=[],vararg:=ae,kwonlyargs:=[],kw_defaults:=[],kwarg:=ae,defaults:=[]}
def gE(s:ba):List ba:=match s with
 |.FunctionDef _ _ b _ _ _ _ _ _ _=>b
 |_=>[]
def a_(s:ba):d7:=match s with
 |.FunctionDef _ _ _ _ _ _ a _ _ _=>a
 |_=>{kind:=.function,names:=[],isGenerator:=aj,isCoroutine:=aj}
abbrev AW:gx:=λ_ _ _ _ _ _=>False
abbrev E0:XK:=λ_ _ _=>False
structure qg(K:ay)(x qual:Str)(st:ba)(f:ag)(fd:gi):Prop where
 ex:∃(oc:ai) (od:Option ag) (kV doc pm:ai) (an:Option ag) (aS ct:ai) (osl:Array (Option ai)),
  fd=je x qual (kg st) (gE st) (a_ st) .none kV doc pm an aS ct/\K.lookup f=aa ⟨oc,od,.func fd,osl⟩/\v6 K aS qual=ah
 kp:nU K (.ref f)=ah
section
variable{P:aV}{w:aL}{K:ay}{b:Str->Option ai}{a:aD}
theorem qg.binds{x c:Str}{g:ba}{f:ag}{p:gi}{j:List Str}(F:qg K x c g f p)(h:∀(kV d l:ai) (n:Option ag) (o m:ai) (i:List ai),i.length=j.length->gF (je x c (kg g) (gE g) (a_ g) .none kV d l n o m) ⟨i,[]⟩=pure (j.zip i)):Binds K p j []:=by obtain⟨oc,r,kV,d,l,n,o,m,q,rfl,s,u⟩:=F.ex;exact .all (h kV d l n o m)
theorem HP{x d:Str}{g:ba}{f:ag}{oc:ai}{p o:Option ag}{i:Array (Option ai)}{kV h m j n:ai}(l:K.lookup f=aa ⟨oc,p,.func (je x d (kg g) (gE g) (a_ g) .none kV h m o j n),i⟩)(c:v6 K j d=ah) (k:nU K (.ref f)=ah):qg K x d g f (je x d (kg g) (gE g) (a_ g) .none kV h m o j n):=⟨⟨oc,p,kV,h,m,o,j,n,i,rfl,l,c⟩,k⟩
end
theorem HE{n:Nat}(h:n<=1000):n<bh:=zE h (by decide)
section
variable{X:Cx}
theorem pv(i:Nat){x:Str}{a:Pos}(d:X.N[i]?=aa x:=by rfl)(b:ez X.env.scope x:=by first|exact Or.inl rfl|exact Or.inr (Or.inl rfl)|exact Or.inr (Or.inr rfl))(c:(x==("__debug__":Str))=aj:=by decide)(f:(x==("__classdict__":Str))=aj:=by decide):PE X (.Name x a) (Ip i):=fI d b c f
theorem M6:eU X (.builtin "len") (λxs H Q=>∃a b,xs=[V.ref a]/\H a=aa (.dK b)/\Q (.int b.length) H):=by
 intro l s g H xs i Q I r h;obtain⟨a,b,rfl,d,q⟩:=h;obtain⟨u,rfl,c⟩:=vals1 r;cases c;exact SR I (.inl d) λt j f=>⟨.int b.length,H,f,⟨t,rfl⟩,q⟩
end
theorem ng{A B:Prop}(h:B):if aj=ah then A else B:=by rw[if_neg eF];exact h
theorem nA{A B:Prop}(h:A):if ah=ah then A else B:=by rw[if_pos rfl];exact h
def Same(H a:Hp):Prop:=∀b o,H b=aa o->a b=aa o
theorem Same.refl(H:Hp):Same H H:=λ_ _ h=>h
theorem Same.trans{H f d:Hp}(a:Same H f)(b:Same f d):Same H d:=λc o h=>b c o (a c o h)
theorem Same.free{H a:Hp}(e:Same H a){l:ag}(h:a l=Option.none):H l=Option.none:=by
 cases q:H l with
 |none=>rfl
 |some o=>
  rw[e l o q]at h;cases h
end L2
set_option maxHeartbeats 4000000
namespace L2
def iE(a:Env):List (Str×gW)->List (Str×ag)->List (Str×ag)
 |[],b=>b
 | (n,k)::r,b=>if k == .free then iE a r ((n,(a.cells.lookup n).getD 0)::b)else iE a r b
theorem Tb{d:Env}{y:Str}{c:ag}(b:List (Str×gW))(f:List (Str×ag))(l:∀x∈b,x.2=.free->∃c,d.cells.lookup x.1=aa c)(h:(iE d b f).lookup y=aa c):f.lookup y=aa c\/d.cells.lookup y=aa c:=by
 induction b generalizing f with
 |nil=>exact .inl h
 |cons a r i=>
  obtain⟨n,k⟩:=a;unfold iE at h;have j:∀x∈r,x.2=.free->∃c,d.cells.lookup x.1=aa c:=λx m=>l x (kA _ m);split at h
  .rename_i o;obtain⟨s,g⟩:=l (n,k) (lP ..) (by simpa using o);rcases i _ j h with q|q
   .rw[lq]at q;split at q
    .rename_i p;have e:y=n:=by simpa using p
     subst e;rw[g]at q;exact .inr (by rw[g];exact q)
    .exact .inl q
   .exact .inr q
  .exact i _ j h
theorem HG{a:Type}{n:Str}{v:a}{l:List (Str×a)}:((n,v)::l).lookup n=aa v:=by rw[lq];simp
theorem GU{a:Type}{n y:Str}{v:a}{l:List (Str×a)}(h:∃c,l.lookup y=aa c):∃c,((n,v)::l).lookup y=aa c:=by
 rw[lq];split
 .exact⟨_,rfl⟩
 .exact h
theorem BD{d:Env}{y:Str}:∀(a:List (Str×gW)) (b:List (Str×ag)),(∃c,b.lookup y=aa c)->∃c,(iE d a b).lookup y=aa c
 |[],b,h=>h
 | (n,k)::r,b,h=>by
  unfold iE;split
  .exact BD r _ (GU h)
  .exact BD r _ h
theorem Ab{g:Env}{y:Str}:∀(a:List (Str×gW)) (i:List (Str×ag)),(∃x∈a,x.1=y/\x.2=.free)->∃c,(iE g a i).lookup y=aa c
 |[],i,⟨_,h,_⟩=>by simp at h
 | (n,k)::r,i,⟨x,b,f,d⟩=>by
  unfold iE;rcases bI.mp b with e|b
  .subst e;simp only at f d;subst f d;simp only[beq_self_eq_true,if_true];exact BD r _ ⟨_,HG⟩
  .split
   .exact Ab r _ ⟨x,b,f,d⟩
   .exact Ab r _ ⟨x,b,f,d⟩
theorem BX{b:Env}:∀(a:List (Str×gW)) (g:List (Str×ag)),(∀x∈a,x.2=.free->∃c,b.cells.lookup x.1=aa c) -> (forIn (m:=Sem) a g λx r=>match x with | (d,f)=>if(f == NameKind.free)=ah then do let c <-cellOf b d;pure (ForInStep.yield ((d,c)::r))else pure (ForInStep.yield r))=pure (iE b a g)
 |[],g,_=>rfl
 | (n,k)::r,g,h=>by
  have j:∀x∈r,x.2=.free->∃c,b.cells.lookup x.1=aa c:=λx o=>h x (kA _ o);rw[List.forIn_cons];unfold iE;by_cases i:(k == NameKind.free)=ah
  .obtain⟨c,l⟩:=h (n,k) (lP ..) (by simpa using i);simp only[i,if_true];have e:cellOf b n=pure c:=by unfold cellOf;rw[l]
   rw[e];simp only[pure_bind];rw[BX r _ j,l];rfl
  .simp only[i,if_false,pure_bind];exact BX r _ j
theorem TJ{a:d7}{b:Env}(h:∀x∈a.names,x.2=.free->∃c,b.cells.lookup x.1=aa c):closureFor a b=pure (iE b a.names []):=by unfold closureFor;have q:=BX a.names [] h;simp only[bind_pure_comp]at q ⊢;rw[q];rfl
theorem zd{n c:Nat}(b:n+1<=c)(a:c<n):False:=∅
theorem Ap:∀(c:List (Str×gW)) (n:Nat) (a b:List (Str×ag)),fZ n c (a++b)=fZ n c a++b
 |[],_,_,_=>rfl
 | (x,k)::r,n,a,b=>by
  unfold fZ;split
  .exact Ap r (n+1) ((x,n)::a) b
  .exact Ap r n a b
theorem xC{y:Str}{c:ag}:∀(b:List (Str×gW)) (n:Nat) (a:List (Str×ag)),(y,c)∈fZ n b a->(y,c)∈a\/(y,.cell)∈b
 |[],_,_,h=>.inl h
 | (x,k)::r,n,a,h=>by
  unfold fZ at h;split at h
  .rename_i d;rcases xC r _ _ h with z|z
   .rcases bI.mp z with z|z
    .cases z;have e:k=.cell:=by simpa using d
     subst e;exact .inr (lP ..)
    .exact .inl z
   .exact .inr (kA _ z)
  .rcases xC r _ _ h with z|z
   .exact .inl z
   .exact .inr (kA _ z)
theorem Cg{y:Str}:∀(b:List (Str×gW)) (n:Nat) (a:List (Str×ag)),(∃c,a.lookup y=aa c)->∃c,(fZ n b a).lookup y=aa c
 |[],_,_,h=>h
 | (x,k)::r,n,a,h=>by
  unfold fZ;split
  .exact Cg r _ _ (GU h)
  .exact Cg r _ _ h
theorem zt{y:Str}:∀(b:List (Str×gW)) (n:Nat) (a:List (Str×ag)),(y,.cell)∈b->∃c,(fZ n b a).lookup y=aa c
 | (x,k)::r,n,a,h=>by
  unfold fZ;rcases bI.mp h with e|h
  .cases e;exact Cg r _ _ ⟨_,HG⟩
  .split
   .exact zt r _ _ h
   .exact zt r _ _ h
def my(X:Cx)(a:d7)(C:ag):List (Str×ag):=fZ (C+1) a.names (iE X.env a.names [])
theorem Bt(X:Cx)(a:d7)(C:ag):my X a C=fZ (C+1) a.names []++iE X.env a.names []:=Ap a.names (C+1) [] _
theorem Pl{M:Model}{A:aX}{E:ai->am->Prop}{s:am}{a:d7}{b:ag}{j:List (Str×ag)}{c:Str}{f:Env}{Q:Env->am->Prop}(l:Q (newEnv a s.heap.objs.size b (fZ (s.heap.objs.size+1) a.names j) c ae .none (aa f) qL) {s with heap:=pushCells (s.heap.push {cls:=.type "dict",data:=.dict #[]}) a.names}):ar M A (newFunctionEnv a b j [] c ae .none (aa f)) Q E s:=by
 simp only[newFunctionEnv,Option.isSome_some,if_true];refine aq (wpAny_alloc ?_);refine aq (wpAny_layCells _ (λi d h=>by cases g:d == NameKind.cell <;> simp[g]) _ _ _ _ ?_);rw[show({s with heap:=s.heap.push {cls:=.type "dict",data:=.dict #[]}}:am).heap.objs.size=s.heap.objs.size+1 from v_ ..];refine aq ?_;rw[List.forIn_nil];exact aG (aG l)
theorem FF{s:am}{a:List (Str×gW)}{y:Str}{c:ag}(h:(y,c)∈fZ (s.heap.objs.size+1) a []):(pushCells (s.heap.push {cls:=.type "dict",data:=.dict #[]}) a).IsCell c ae/\s.heap.objs.size+1<=c/\∀z,(z,c)∈fZ (s.heap.objs.size+1) a []->y=z:=by have ok:=cellsFrom_ok a (s.heap.push {cls:=.type "dict",data:=.dict #[]}) (s.heap.objs.size+1) [] ⟨λ_ _ d=>(nomatch d),List.Pairwise.nil⟩ (by rw[v_];exact bd _);rw[v_]at ok;exact⟨(ok.empty y c h).1,(ok.empty y c h).2,λz b=>name_of_addr ok.apart h b⟩
def bM(X:Cx)(a:d7)(b:List Str)(C:ag)(s₀:am)(H₀:Hp)(ex:List ag)(pn:List (ag×Obj)):Cx where
 prog:=X.prog
 w:=X.w
 K:=X.K
 mg:=X.mg
 base:=X.base
 A:=X.A
 N:=b
 s₀:=s₀
 H₀:=H₀
 env:=compEnvC a (my X a C) C X.env
 outer:=X.stack
 stack:=X.stack
 ex:=ex
 fn:=λy=>a.names.lookup y == aa .cell
 calm:=X.calm
 pn:=X.pn++pn
 xe:=λ_ _=>False
def fU(b:St)(a:List Nat):St:=a.map λi=>(b[i]?).join
structure jq(X:Cx)(scope:d7)(x:Str)(N':List Str)(cap:List Nat):Prop where
 kind:scope.kind=.function
 cells:∀y∈scope.names,y.2=.cell->scope.names.lookup y.1=aa .cell
 names:∀y∈scope.names,y.2=.local->scope.names.lookup y.1=aa .local
 loc:scope.names.lookup x=aa .local\/scope.names.lookup x=aa .cell
 free:∀y∈scope.names,y.2=.free->X.env.kindOf y.1=aa .cell\/X.env.kindOf y.1=aa .free
 nd:N'.Nodup
 hd:N'.head?=aa x
 len:N'.length=cap.length+1
 caps:∀i j y,N'[i+1]?=aa y->cap[i]?=aa j->(X.N[j]?=aa y/\scope.names.lookup y=aa .free)\/(X.N.length<=j/\scope.names.lookup y=aa .local)
theorem Qh{a:List (Str×gW)}{y:Str}{k:gW}(h:a.lookup y=aa k):∃x∈a,x.1=y/\x.2=k:=⟨(y,k),lV h,rfl,rfl⟩
theorem A9{a:Env}{x:Str}:∀{b:List (Str×gW)}{k:gW}, (b.map λ(n,k)=>if(k == NameKind.free&&a.scope.kind == .function&&a.kindOf n == aa .cell)then(n,NameKind.cell)else(n,k)).lookup x=aa k -> ∃f,b.lookup x=aa f/\(k=f\/(f=.free/\k=.cell))
 |[],_,h=>by simp at h
 | (n,c)::r,k,h=>by
  change CQ x ((if(c == NameKind.free&&a.scope.kind == .function&&a.kindOf n == aa .cell)=ah then(n,NameKind.cell)else(n,c))::_)=_ at h;rw[lq];by_cases d:(c == NameKind.free&&a.scope.kind == .function&&a.kindOf n == aa .cell)=ah
  .rw[if_pos d,lq]at h;split at h
   .rename_i g;cases h;have:c=.free:=by simp at d;exact d.1.1
    exact⟨c,rfl,.inr ⟨this,rfl⟩⟩
   .exact A9 h
  .rw[if_neg d,lq]at h;split at h
   .rename_i g;cases h;exact⟨c,rfl,.inl rfl⟩
   .exact A9 h
theorem Cm{a:Env}{x:Str}:∀{b:List (Str×gW)},b.lookup x=aa .free -> let q:=(b.map λ(n,k)=>if(k == NameKind.free&&a.scope.kind == .function&&a.kindOf n == aa .cell)then(n,NameKind.cell)else(n,k)).lookup x
  q=aa .cell\/q=aa .free
 |[],h=>by simp at h
 | (n,c)::r,h=>by
  show CQ x ((if(c == NameKind.free&&a.scope.kind == .function&&a.kindOf n == aa .cell)=ah then(n,NameKind.cell)else(n,c))::_)=_\/CQ x ((if(c == NameKind.free&&a.scope.kind == .function&&a.kindOf n == aa .cell)=ah then(n,NameKind.cell)else(n,c))::_)=_;rw[lq]at h;by_cases f:(c == NameKind.free&&a.scope.kind == .function&&a.kindOf n == aa .cell)=ah
  .rw[if_pos f,lq];cases d:x == n with
   |true=>exact .inl rfl
   |false=>rw[d]at h;exact Cm h
  .rw[if_neg f,lq];cases d:x == n with
   |true=>rw[d]at h;cases h;exact .inr rfl
   |false=>rw[d]at h;exact Cm h
theorem yk{a:Env}{x:Str}:∀{b:List (Str×gW)},b.lookup x=aa .cell -> (b.map λ(n,k)=>if(k == NameKind.free&&a.scope.kind == .function&&a.kindOf n == aa .cell)then(n,NameKind.cell)else(n,k)).lookup x=aa .cell
 |[],h=>by simp at h
 | (n,d)::r,h=>by
  show CQ x ((if(d == NameKind.free&&a.scope.kind == .function&&a.kindOf n == aa .cell)=ah then(n,NameKind.cell)else(n,d))::_)=_;rw[lq]at h;by_cases f:(d == NameKind.free&&a.scope.kind == .function&&a.kindOf n == aa .cell)=ah
  .rw[if_pos f,lq];cases c:x == n with
   |true=>rfl
   |false=>rw[c]at h;exact yk h
  .rw[if_neg f,lq];cases c:x == n with
   |true=>rw[c]at h;cases h;rfl
   |false=>rw[c]at h;exact yk h
section
variable{X:Cx}{A:List (ag×Obj)}{w:St}{H:Hp}{s:am}{f:d7}{x:Str}{D:List Str}{g:List Nat}
theorem Inv.freeHas(I:Inv X A w H s)(B:jq X f x D g):∀y∈f.names,y.2=.free->∃c,X.env.cells.lookup y.1=aa c:=λy a e=>I.ok.has y.1 (B.free y a e)
theorem Inv.clIn(I:Inv X A w H s)(B:jq X f x D g){y:Str}{c:ag}(h:(iE X.env f.names []).lookup y=aa c):X.env.cells.lookup y=aa c:=by
 rcases Tb f.names [] (I.freeHas B) h with q|q
 .simp at q
 .exact q
theorem Inv.cbIn(I:Inv X A w H s)(B:jq X f x D g){C:ag}{y:Str}{c:ag}(h:(my X f C).lookup y=aa c):((y,c)∈fZ (C+1) f.names []/\f.names.lookup y=aa .cell)\/((iE X.env f.names []).lookup y=aa c/\X.env.cells.lookup y=aa c):=by
 rw[Bt,Jw]at h;cases e:(fZ (C+1) f.names []).lookup y with
 |none=>rw[e]at h;exact .inr ⟨h,I.clIn B h⟩
 |some a=>
  rw[e]at h;cases h;have m:=lV e;rcases xC _ _ _ m with z|z
  .cases z
  .exact .inl ⟨m,B.cells _ z rfl⟩
theorem Inv.cbOld(I:Inv X A w H s)(B:jq X f x D g){C:ag}{y:Str}{c:ag}(h:(iE X.env f.names []).lookup y=aa c)(a:f.names.lookup y=aa .free):(my X f C).lookup y=aa c:=by
 rw[Bt,Jw];cases e:(fZ (C+1) f.names []).lookup y with
 |none=>exact h
 |some b=>
  rcases xC _ _ _ (lV e)with z|z
  .cases z
  .have:=B.cells _ z rfl;rw[a]at this;cases this
theorem Inv.block{fp:List ag}{E:aD}{m:Str->Option ai}{t':Nat}(hh:E=pushCells (s.heap.push {cls:=.type "dict",data:=.dict #[]}) f.names)(I:Inv X A w H s)(B:jq X f x D g)(W:∀b∈fp,lM X A H b)(hfo:∀b∈fp,∃o,s.heap.get? b=aa o)(uj:E.Ns s.heap.objs.size m)(F:∀b o,s.heap.get? b=aa o->E.get? b=aa o):Inv (bM X f D s.heap.objs.size s H fp A) [] (ae::fU w g) H {s with heap:=E,toks:=t'}:=by
 have N:∀x c,X.env.cells.lookup x=aa c->c<s.heap.objs.size:=λx c e=>(I.cell x c e).elim λv q=>q.lt;have C:∀{y:Str}{c:ag},(y,c)∈fZ (s.heap.objs.size+1) f.names []->E.IsCell c ae/\s.heap.objs.size+1<=c/\∀z,(z,c)∈fZ (s.heap.objs.size+1) f.names []->y=z:=λh=>by rw[hh];exact FF h
 have lk:∀y k,(compEnvC f (my X f s.heap.objs.size) s.heap.objs.size X.env).kindOf y=aa k->∃O,f.names.lookup y=aa O/\(k=O\/(O=.free/\k=.cell)):=λy k h=>A9 h;have J:∀y,f.names.lookup y=aa .free->∃c,(iE X.env f.names []).lookup y=aa c:=λy h=>Ab f.names [] (Qh h);have nfs:∀b∈fS X.stack,b≠s.heap.objs.size:=λb G e=>by
  rcases bI.mp (I.stkSub b G)with z|z
  .exact absurd I.lt (by rw[<-z,e];exact fL _)
  .exact I.nofs (nY e.symm) z
 refine⟨⟨I.ok.mod,B.kind,I.ok.glob,I.ok.blt,bd _,λy z c h1 h2=>?_,λy Q=>?_,λy c h jh=>?_,I.ok.hd,I.ok.frames,.inl rfl,λb G=>?_,λb o e=>I.bs b o e,c0 I.ok.bsz I.sz,λb o e G=>?_,λb G hf=>?_,I.stack,(λb G=>I.stkFree b G),I.tab⟩,rfl,I.bare,Un.kept F,⟨m,uj,λi y v e1 S e3=>?_⟩,λy c h=>?_,I.hok.fresh (bd _),λy c h=>?_,λp hp=>?_,I.hok.kept F,?_⟩
 .-- inj
  rcases I.cbIn B h1 with⟨a1,a2⟩|⟨a1,a2⟩ <;> rcases I.cbIn B h2 with⟨b1,b2⟩|⟨b1,b2⟩
  .exact(C a1).2.2 z b1
  .exact(zd (C a1).2.1 (N _ _ b2)).elim
  .exact(zd (C b1).2.1 (N _ _ a2)).elim
  .exact I.ok.inj y z c a2 b2
 .-- has
  show ∃c,(my X f s.heap.objs.size).lookup y=aa c;have mS:f.names.lookup y=aa .free->∃c,(my X f s.heap.objs.size).lookup y=aa c:=λq=>(J y q).imp λc hc=>I.cbOld B hc q;rcases Q with Q|Q
  .obtain⟨O,q,z|⟨z,_⟩⟩:=lk y _ Q
   .subst z;exact zt _ _ _ (lV q)
   .subst z;exact mS q
  .obtain⟨O,q,z|⟨_,z⟩⟩:=lk y _ Q
   .subst z;exact mS q
   .cases z
 .-- cab
  have hk:f.names.lookup y=aa .cell:=by simpa using(show(f.names.lookup y == aa .cell)=ah from h)
  show s.heap.objs.size<=c;rcases I.cbIn B jh with⟨a1,a2⟩|⟨a1,a2⟩
  .have:=(C a1).2.1;lia
  .obtain⟨c',P⟩:=zt (n:=s.heap.objs.size+1) (a:=[]) _ (lV hk);have e:(my X f s.heap.objs.size).lookup y=aa c':=by rw[Bt,Jw,P];rfl
   have S:(my X f s.heap.objs.size).lookup y=aa c:=jh;rw[e]at S;cases S;have:=(C (lV P)).2.1;lia
 .-- exf
  obtain⟨f0,f1,f2,f3,f4,f5⟩:=W b G;obtain⟨o,L⟩:=hfo b G;refine⟨λe=>absurd (bN L) (by rw[e];exact fL _),λy c h=>?_⟩;rcases I.cbIn B h with⟨a1,a2⟩|⟨a1,a2⟩
  .rintro rfl;exact zd (C a1).2.1 (bN L)
  .exact f4 y c a2
 .-- noex
  obtain⟨f0,f1,f2,f3,f4,f5⟩:=W b G;rcases f3 with z|z
  .exact I.ok.noex b o e z
  .exact absurd (ix (bN e) (c0 I.ok.bsz z)) (fL _)
 .-- exfs
  obtain⟨f0,f1,f2,f3,f4,f5⟩:=W b G;rcases bI.mp (I.stkSub b hf)with z|z
  .exact f1 z
  .exact f2 z
 .-- loc
  cases i with
  |zero=>simp at S
  |succ i=>
   have K:(fU w g)[i]?=aa (aa v):=by simpa using S
   unfold fU at K;rw[eR]at K;cases Z:g[i]? with
   |none=>rw[Z]at K;cases K
   |some j=>
    rw[Z]at K;have T:(w[j]?).join=aa v:=cY K;have e5:w[j]?=aa (aa v):=by
     cases hq:w[j]? with
     |none=>rw[hq]at T;cases T
     |some o=>rw[hq]at T;exact congrArg aa T
    obtain⟨b1,b2⟩:=(B.caps i j y e1 Z).elim id λz=>by have:=(cM.mp e5).1;rw[I.len]at this;exact absurd this (Nat.not_lt.mpr z.1)
    obtain⟨mm,hn,hl⟩:=I.loc;have wy:=B.free _ (lV b2) rfl;have Y:ez X.env.scope y:=by
     rcases wy with z|z
     .exact .inr (.inl z)
     .exact .inr (.inr z)
    obtain⟨u,r,l⟩:=hl j y v b1 e5 Y;refine⟨u,r,.inr ⟨Cm b2,?_⟩⟩;rcases l with⟨l,_⟩|⟨_,c,hc,zV⟩
    .rcases wy with z|z
     .rw[l]at z;cases z
     .rw[l]at z;cases z
    .obtain⟨c',P⟩:=J y b2;have e6:=I.clIn B P;rw[hc]at e6;cases e6;obtain⟨M,L,hd⟩:=zV;exact⟨c,I.cbOld B P b2,M,F c M L,hd⟩
 .rcases I.cbIn B h with⟨a1,a2⟩|⟨a1,a2⟩
  .exact⟨ae,(C a1).1⟩
  .obtain⟨v,M,L,hd⟩:=I.cell y c a2;exact⟨v,M,F c M L,hd⟩
 .rcases I.cbIn B h with⟨a1,a2⟩|⟨a1,a2⟩
  .exact I.hok.fresh (c0 (wb _) (C a1).2.1)
  .exact I.freeC y c a2
 .have eI:p∈X.pn++A:=by simpa[bM]using hp
  obtain⟨e,n,ne,nf,d⟩:=I.pin p eI;refine⟨F _ _ e,n,cZ (bN e),λhf=>?_,d⟩;rcases bI.mp (I.stkSub p.1 hf)with z|z
  .exact ne z
  .exact nf z
 .show(ae::fU w g).length=D.length;rw[B.len];simp[fU]
end
def sR(X:Cx)(b:List aB)(t:TT):Prop :=
 ∀(d:List (ag×Obj)) (s:am) (a:St) (H:Hp) (Q:Bool->Hp->Prop),Inv X d a H s->t a H Q ->
  ar (ax X.prog X.w) X.A (forIn b ah λc r=>if r=ah then do let ok <-nP c X.env (a6 c X.env);pure (ForInStep.yield ok)else pure (ForInStep.yield r)) (TP X d a Q) X.xe s
theorem Ni{P:aV}{w:aL}{A:aX}{R:Result->am->Prop}{s:am}{m q i:aB}{l:List aB}{g:d7}{p:Pos}{u C:ai}{d:Env}(J:Nat->am->Prop)(n:∀k o,J k o->ar (ax P w) A (mI u) (λr B=>match r with
   |none=>R (.ok .next) B
   |some v=>ar (ax P w) A (CF q u v) (λ_ G=>ar (ax P w) A (pf q d v) (λ_ F=>ar (ax P w) A (forIn l ah λc r=>if r=ah then do let ok <-nP c d (a6 c d);pure (ForInStep.yield ok)else pure (ForInStep.yield r)) (λb z=>if b=ah then ar (ax P w) A (a6 m d) (λy E=>ar (ax P w) A (call (.builtin "list.append") [C,y]) (λ_ D=>∃j,j<k/\J j D) (λ_ _=>False) E) (λ_ _=>False) z else ∃j,j<k/\J j z) (λ_ _=>False) F) (λ_ _=>False) G) (λ_ _=>False) B) (λ_ _=>False) o) (k:Nat) (h:J k s) :
  mK (ax P w) A (.compLoop (.ListComp m [⟨q,i,l,0⟩] g p) 0 u C d) R s:=by
 refine codeAny_loop rfl J (λj o K=>?_) k h;show ar _ A (Sem.onRaise (compTurn (.ListComp m [⟨q,i,l,0⟩] g p) 0 u C d) (λx=>do noteFrame x d;theTreesLotGoes x)) _ _ o;refine wpAny_noted ?_;rw[compTurn_list];have no:∀(Q:ai->am->Prop) (a:ai) (b:am),False->Q a b:=λ_ _ _ f=>f.elim;refine aq (wpAny_standAt (aq (dZ (n j o K) (λr B I=>?_) (no _))));cases r with
 |none=>exact aG I
 |some v=>
  refine aq (dZ I (λ_ G O=>aq (dZ O (λ_ F N=>aq (dZ N (λb z H=>?_) (no _))) (no _))) (no _));cases b with
  |true=>exact aq (aq (dZ H (λy E M=>aq (dZ M (λ_ D L=>aG (aG ⟨rfl,L⟩)) (no _))) (no _)))
  |false=>exact aG ⟨rfl,H⟩
def MI:TT:=λ_ H Q=>Q ah H
theorem N1{X:Cx}:sR X [] MI:=λ_ _ _ H _ I h=>wpAny_tests_nil ⟨H,I,h⟩
theorem UC{X:Cx}{c:aB}{t:TT}(h:PT X c t):sR X [c] t:=λd s a H Q I b=>wpAny_tests_one (h d s a H Q I b)
def zo(q:TI)(h:V->Hp->St->Prop)(k:Nat)(r:TT)(s:TE)(d:List Nat):TE:=λg H Q=>q g H λJ p=>∀l,p l=ae->∃W:Nat->Nat->List V->Hp->Prop,(∃m,W 0 m [] (upd p l (.lst [])))/\∀i m a H,W i m a H ->
 (J.stop i H/\Q (.ref l) H)\/(J.go i H/\∀v j,J.yld i H v j->∃f,f.length=k+1/\h v j f/\r (f++(fU g d).drop k) j λb o=>if b=ah then s (f++(fU g d).drop k) o λy n=>n l=aa (.lst a)/\a.length<bh/\∃c,c<m/\W (i+1) c (a++[y]) (upd n l (.lst (a++[y]))) else ∃c,c<m/\W (i+1) c a o)
def IZ:V->Hp->St->Prop:=λv _ a=>a=[aa v]
abbrev Cs(b:TI)(c:TT)(d:TE)(a:List Nat):TE:=zo b IZ 0 c d a
section
variable{X:Cx}{m:List (ag×Obj)}{w:St}{H:Hp}{s:am}{g:d7}{x:Str}{j:List Str}{l:List Nat}
theorem Inv.unblock{r:List ag}{p:Hp}{y:St}{s':am}{h:aD}(I:Inv X m w H s)(D:∀b∈r,lM X m H b)(a:Inv (bM X g j s.heap.objs.size s H r m) [] y p s') (sb:li s.heap.objs.size s'.heap h):Inv X m w p {s' with heap:=h}:=by
 have k:∀b o,b≠s.heap.objs.size->s'.heap.get? b=aa o->h.get? b=aa o:=λb o f e=>(sb.2 b f).trans e;have A:∀b o,s.heap.get? b=aa o->b≠s.heap.objs.size:=λb o e=>cZ (bN e);have un:Un (fS X.stack) r H p s.heap h:=by
  refine⟨λb o e n f d=>k b o (A b o e) (a.base.keep b o e n f d),λb o e n f d=>?_,λb o e n d=>a.base.free b o e n d,λb o e d=>?_,a.base.tups,a.base.frzs,a.base.tbls⟩
  .obtain⟨E,q⟩:=a.base.slot b o e n f d;exact⟨E,k b _ (A b o e) q⟩
  .obtain⟨C,q⟩:=a.base.there b o e d;exact⟨C,k b C (A b o e) q⟩
 have B:dG X.prog X.w p h:=λb u e=>by
  have i:p s.heap.objs.size=ae:=a.free;refine(a.hok b u e).stay (λc v F q=>k c v ?_ q) (λ_ q=>q) λ_ _ q=>q;rintro rfl;rcases F with z|z
  .rw[<-z,i]at e;cases e
  .rw[i]at z;cases z
 refine I.call' (s':={s' with heap:=h}) (ch:=r) a.os un B a.bare λb f=>?_;obtain⟨K,J,f2,f3,f4,G⟩:=D b f;exact⟨f3,J,f4,G⟩
theorem HS{elt G tg:aB}{pos pos':Pos}{ifs:List aB}{wi:TI}{tgf:V->Hp->St->Prop}{k:Nat}{ts:TT}{te:TE}{use:Option (ai->Sem Unit)}{Q:ai->am->Prop}{Qp:VK}(B:jq X g x j l)(hk:k<=l.length)(hc:X.calm=ah)(hi:PI X tg G wi)(fF:∀C F K ex pn,PG (bM X g j C F K ex pn) tg λv O H Q=>∃Y,Y.length=k+1/\O.length=j.length/\tgf v H Y/\Q (Y++O.drop (k+1)) H)(ht:∀C F K ex pn,sR (bM X g j C F K ex pn) ifs ts) (he:∀C F K ex pn,PE (bM X g j C F K ex pn) elt te) (hs:∀x,mJ G X.env x=pure x) (I:Inv X m w H s) (h:zo wi tgf k ts te l w H Qp)(fin:∀{A s6:am}{P H5:Hp}{L σ5 a f},Inv X m w P A->(∀b∈L,lM X m P b)->Inv (bM X g j A.heap.objs.size A P L m) [] σ5 H5 s6->Qp (.ref a) H5->compPost (ax X.prog X.w) X.A X.xe use Q (.ref a) A.heap.objs.size (.ok f) s6):ar (ax X.prog X.w) X.A (comprehension (.ListComp elt [⟨tg,G,ifs,0⟩] g pos) g X.env pos' (newList []) aj (a6 G X.env) use) Q X.xe s:=by
 refine wpAny_comprehension_free (use:=use) rfl hs (TJ (I.freeHas B)) B.kind B.names (aW (hi m s w H _ I h) λv s1 h1=>aW h1 λitv E h2=>?_);obtain⟨it,L,tn,J,H2,e,I2,T,bf,f2,h2⟩:=h2;subst e;refine j1 ?_;have I3:Inv X m w (upd H2 E.heap.objs.size (.lst [])) {E with heap:=E.heap.push {cls:=.type "list",data:=.seq ([]:List ai).toArray},toks:=E.toks}:=I2.lnew (its:=[]) (t':=E.toks) .nil (lY _);obtain⟨W,⟨m0,w0⟩,turn⟩:=h2 E.heap.objs.size I2.fresh;generalize pK:({E with heap:=E.heap.push {cls:=.type "list",data:=.seq ([]:List ai).toArray},toks:=E.toks}:am)=A at I3;have hs3':({E with heap:=E.heap.push {cls:=.type "list",data:=.seq ([]:List ai).toArray}}:am)=A:=pK;generalize hH3:upd H2 E.heap.objs.size (.lst [])=P at I3 w0;have nl:∀b∈L,b≠E.heap.objs.size:=λb D e=>by obtain⟨o,ho,_⟩:=T.obj _ _ bf b D;exact absurd (bN ho) (by rw[e];exact fL _)
 have k3:∀b o,E.heap.get? b=aa o->A.heap.get? b=aa o:=λb o e=>by rw[<-pK];exact bK _ e
 have f3:∀b∈L,lM X m P b:=λb D=>⟨by rw[<-hH3,bj (nl b D)];exact(f2 b D).1,(f2 b D).2⟩
 have bO:tn 0 A.heap:=T.keep _ _ _ bf λb _ o e=>k3 b o e;have fo3:∀b∈L,∃o,A.heap.get? b=aa o:=λb D=>(T.obj _ _ bO b D).imp λo q=>q.1;refine Pl ?_;generalize hh:pushCells (A.heap.push {cls:=.type "dict",data:=.dict #[]}) g.names=h₁;have old:∀b o,A.heap.get? b=aa o->h₁.get? b=aa o:=λb o e=>hh ▸ pushCells_keeps _ _ b o (bK _ e);have uj:h₁.Ns A.heap.objs.size (λ_=>ae):=hh ▸ (Heap.Ns.new A.heap (.type "dict")).keeps (pushCells_keeps _ _);have I4:=Inv.block (t':=A.toks) hh.symm I3 B f3 fo3 uj old;have bZ:tn 0 h₁:=T.keep _ _ _ bO λb _ o e=>old b o e;have M:∀{H':Hp},(∀b∈L,H' b=ae)->∀b∈L,lM (bM X g j A.heap.objs.size A P L m) [] H' b:=λhn b D=>by
  obtain⟨f0,f1,f2',f3',f4,f5⟩:=f3 b D;refine⟨hn b D,λe=>?_,λhf=>?_,.inl D,λy c h=>?_,λp hp=>f5 p (by simpa[bM]using hp)⟩
  .obtain⟨o,ho⟩:=fo3 b D;exact absurd (bN ho) (by rw[show b=A.heap.objs.size from e];exact fL _)
  .rcases bI.mp (I3.stkSub b hf)with z|z
   .exact f1 z
   .exact f2' z
  .rcases I3.cbIn B h with⟨a1,a2⟩|⟨a1,a2⟩
   .rintro rfl;obtain⟨o,ho⟩:=fo3 _ D;exact zd (FF a1).2.1 (bN ho)
   .exact f4 y c a2
 have Z:mK (ax X.prog X.w) X.A (.compLoop (.ListComp elt [⟨tg,G,ifs,0⟩] g pos) 0 (.ref it) (.ref E.heap.objs.size) (compEnvC g (my X g A.heap.objs.size) A.heap.objs.size X.env))
   (compPost (ax X.prog X.w) X.A X.xe use Q (.ref E.heap.objs.size) A.heap.objs.size) {A with heap:=h₁,toks:=A.toks}:=by
  refine Ni (λn s'=>∃i S O H',(∃pre:St,pre.length=k+1/\O=pre++(fU w l).drop k)/\Inv (bM X g j A.heap.objs.size A P L m) [] O H' s'/\tn i s'.heap/\(∀b∈L,H' b=ae)/\W i n S H') ?_ m0
   ⟨0,[],_,P,⟨(ae::fU w l).take (k+1),by simp[fU];lia,by rw[<-List.drop_succ_cons (a:=ae)];exact(pA _ _).symm⟩,I4,bZ,λb D=>(f3 b D).1,w0⟩
  rintro n s5 ⟨i,S,σ5,H5,⟨pre,wA,rfl⟩,I5,cx,fr5,w5⟩;rcases turn i n S H5 w5 with⟨stop,q⟩|⟨go,step⟩
  .refine dZ (T.done (bM X g j A.heap.objs.size A P L m) rfl rfl rfl hc i [] s5 _ H5 (λ_ _=>False) I5 (M fr5) cx stop) (λr s6 ⟨hr,I6⟩=>?_) (λ_ _ f=>f.elim);subst hr;exact fin I3 f3 I6 q
  .refine dZ (T.item (bM X g j A.heap.objs.size A P L m) rfl rfl rfl hc i [] s5 _ H5 (λ_ _=>False) I5 (M fr5) cx go) (λr s6 ⟨u,hr,h6⟩=>?_) (λ_ _ f=>f.elim);subst hr;refine dZ h6 (λ_ s7 ⟨v,H7,I7,r7,y7,st7,fr7⟩=>?_) (λ_ _ f=>f.elim);have I7':=I7.pinned (M fr7) (T.obj _ _ st7);have back:∀{N:St}{H8:Hp}{s8:am},Inv (bM X g j A.heap.objs.size A P L m) ([]++vC L s7.heap) N H8 s8->tn (i+1) s8.heap/\(∀b∈L,H8 b=ae):=λ{N H8 s8} I8=>⟨T.keep _ _ _ st7 λb D o e=>(I8.pin (b,o) (jd _ (jd _ (yU D e)))).1,λb D=>by obtain⟨o,e,d⟩:=T.obj _ _ st7 b D;exact(I8.pin (b,o) (jd _ (jd _ (yU D e)))).2.1⟩
   obtain⟨Y,ff,htg,step⟩:=step v H7 y7;refine aW (fF _ _ _ _ _ _ s7 _ H7 v u (λN H8=>N=Y++(fU w l).drop k/\H8=H7) I7' r7 ⟨Y,ff,I7'.len,htg,by rw[CS ∅,List.drop_eq_nil_of_le ∅];rfl,rfl⟩) λ_ s8 ζ=>?_;obtain⟨N,H8,I8,e8,e8'⟩:=ζ;subst e8 e8';refine aW (ht _ _ _ _ _ _ s8 _ _ _ I8 step) λb s9 ζ=>?_;obtain⟨H9,I9,q9⟩:=ζ;cases b with
   |false=>
    obtain⟨m',hm,w9⟩:=(show ∃m',m'<n/\W (i+1) m' S H9 from q9)
    exact⟨m',hm,i+1,S,_,H9,⟨Y,ff,rfl⟩,I9.unpinned,(back I9).1,(back I9).2,w9⟩
   |true=>refine aW (he _ _ _ _ _ _ s9 _ H9 _ I9 q9) λu10 s10 ζ=>?_;obtain⟨y,H10,I10,r10,hl10,hz10,m',hm,w10⟩:=ζ;refine aW (GZ _ s10 _ H10 (.ref E.heap.objs.size) [y] _ [u10] (λz H11=>H11=upd H10 E.heap.objs.size (.lst (S++[y]))) I10 rfl (.cons r10 .nil) ⟨_,S,y,rfl,rfl,hl10,hz10,rfl⟩) λ_ s11 ζ=>?_;obtain⟨_,H11,I11,_,e11⟩:=ζ;subst e11;exact⟨m',hm,i+1,S++[y],_,_,⟨Y,ff,rfl⟩,I11.unpinned,(back I11).1,(back I11).2,w10⟩
 exact codeAny_compStart_list Z (T.self _ 0 _ _ _ bZ Z)
theorem EC{p:Pos}(B:jq X g x j l):∀C b c i f,PG (bM X g j C b c i f) (.Name x p) λv d H Q=>∃n,n.length=0+1/\d.length=j.length/\IZ v H n/\Q (n++d.drop (0+1)) H:=by
 intro C b c i f m s d H v u Q I r h;obtain⟨n,_,z,y,q⟩:=h;cases (show n=[aa v] from y);have D:Loc (bM X g j C b c i f).env.scope x:=B.loc.elim (λh=>.inl (wc h)) (λh=>.inr (yk h));have A:(bM X g j C b c i f).fn x=ah\/(bM X g j C b c i f).env.scope.names.lookup x=aa .local:=B.loc.elim (λh=>.inr (wc h)) (λh=>.inl (by show(g.names.lookup x == aa .cell)=ah;rw[h];rfl));have o:(bM X g j C b c i f).N[0]?=aa x:=by show j[0]?=aa x;rw[<-List.head?_eq_getElem?];exact B.hd
 refine vW B.nd o D A m s d H v u Q I r ?_;show Q (d.set 0 (aa v)) H;cases d with
 |nil=>rw[pt,B.len]at z;lia
 |cons a r=>exact q
theorem OT{f b:aB}{p pos:Pos}{d:List aB}{wi:TI}{ts:TT}{te:TE}(B:jq X g x j l)(D:X.calm=ah)(z:PI X (.Name x p) b wi)(v:∀C a c o i,sR (bM X g j C a c o i) d ts) (A:∀C a c o i,PE (bM X g j C a c o i) f te) (y:∀x,mJ b X.env x=pure x:=by intro _;rfl):PE X (.ListComp f [⟨.Name x p,b,d,0⟩] g pos) (Cs wi ts te l):=by intro m s w H Q I h;rw[eval_ListComp];exact HS (use:=ae) B (lY _) D z (EC B) v A y I h λE f3 r q=>by obtain⟨u,n,_⟩:=r.loc;exact⟨u,n,λF sb=>⟨.ref _,_,E.unblock f3 r sb,rfl,q⟩⟩
end
def Walk(J:It)(xs:List V)(R:Hp->Prop):Prop :=
 ∀H,R H->∀i,(∀x,xs[i]?=aa x->J.go i H/\∀y a,J.yld i H y a->a=H/\y=x)/\(i=xs.length->J.stop i H)
theorem P6{K:ay}{a:ag}{xs:List V}:Walk (Au K a) xs (λH=>cy K H a xs):=λH h i=>⟨λx b=>⟨⟨xs,x,h,b⟩,λy d z=>⟨z.1,by have:=z.2 xs h;rw[b]at this;exact(cY this).symm⟩⟩,λc=>⟨xs,h,nY c.symm⟩⟩
theorem Lf{K:ay}{a:ag}{xs:List V}:Walk (BG K a) xs (λH=>cu K H a xs):=λH h i=>⟨λx b=>⟨⟨xs,x,h,b⟩,λy d z=>⟨z.1,by have:=z.2 xs h;rw[b]at this;exact(cY this).symm⟩⟩,λc=>⟨xs,h,nY c.symm⟩⟩
def sE(a:Int)(n:Nat):List V:=(dY n).map λi=>V.int (a+(i:Nat))
theorem AE(a:Int)(n:Nat):(sE a n).length=n:=by simp[sE]
theorem N5{b:Int}{n:Nat}:Walk (yB b n) (sE b n) (λ_=>True):=λH _ i=>by
 refine⟨λx a=>?_,λc=>by rw[AE]at c;exact nY c.symm⟩;have d:i<n:=by have:=(cM.mp a).1;rw[AE]at this;exact this
 refine⟨d,λy g z=>⟨z.1,?_⟩⟩;unfold sE at a;rw[eR,List.getElem?_range d]at a;have f:V.int (b+(i:Nat))=x:=cY a;rw[z.2,<-f]
def sg(c:Nat):V:=.str ⟨#[c]⟩
def vR(z:Str):It:=⟨λi _=>i<z.cps.size,λi H x a=>a=H/\∃c,z.cps[i]?=aa c/\x=sg c,λi _=>i=z.cps.size⟩
theorem QU{z:Str}:Walk (vR z) (z.cps.toList.map sg) (λ_=>True):=λH _ i=>by
 refine⟨λx a=>?_,λd=>by show i=z.cps.size;simpa using d⟩;rw[eR]at a;cases e:z.cps.toList[i]? with
 |none=>rw[e]at a;cases a
 |some c=>
  rw[e]at a;have f:i<z.cps.size:=by have:=(cM.mp e).1;simpa using this
  refine⟨f,λy h w=>⟨w.1,?_⟩⟩;obtain⟨g,b,rfl⟩:=w.2;have:z.cps[i]?=aa c:=by simpa using e
  rw[this]at b;cases b;exact(cY a)
section
variable{X:Cx}{a:aB}
theorem Sl{P:aV}{w:aL}{K:ay}{z:Str}{d:ag}{f:Nat->aD->Prop} (S:∀i h,f i h->∃o n r,h.get? d=aa o/\o.cls=.type n/\o.data=.fields r /\ ["enumerate","zip","dict_itemiterator","dict_reverseitemiterator","odict_iterator","itertools.zip_longest","itertools.pairwise"].contains n=aj)(UX:∀(A:aX) (i:Nat) (s:am) (Q:ai->am->Prop) (E:ai->am->Prop),f i s.heap->Q (.ref d) s->ar (ax P w) A (nR (.ref d)) Q E s)(C:∀A:aX,A.handled=ae->Walks P w A d [d] [d] z.cps.size (SignAt z) f):qi P w K a (vR z) [d] d f where
 mem:=by simp
 obj:=λi h g b j=>by
  have e:b=d:=by simpa using j
  subst e;obtain⟨o,n,r,J,_,G,_⟩:=S i h g;exact⟨o,J,λv q=>by rw[G]at q;cases q⟩
 keep:=λi h m g k=>by exact(C ({}:aX) rfl).frame i h m g k
 item:=by intro X D x F B i T s O H E I p g y;subst D x F;obtain⟨N,M,f2,f3,f4,L⟩:=p d (by simp);refine(C X.A (I.ok.hd B)).item i s _ _ y g λv m l Z W k=>?_;have I1:Inv X T O H {s with heap:=m,toks:=l}:=I.turned (t':=l) (λb o j e=>k b o (by simpa using j) e) N M f3 f4 L;obtain⟨o,n,r,J,h2,G,h4⟩:=S _ _ W;obtain⟨c,u,e1,rfl⟩:=Z;exact⟨_,rfl,uH (s:={s with heap:=m,toks:=l}) J h2 G h4 ⟨sg c,H,I1,⟨u,rfl⟩,⟨rfl,c,e1,rfl⟩,W,λb j=>(p b j).1⟩⟩
 done:=by intro X D x F B i T s O H E I p g y;subst D x F;obtain⟨N,M,f2,f3,f4,L⟩:=p d (by simp);have Y:i=z.cps.size:=y;subst Y;exact(C X.A (I.ok.hd B)).done s _ _ g λm l k=>⟨rfl,I.turned (t':=l) (λb o j e=>k b o (by simpa using j) e) N M f3 f4 L⟩
 self:=UX
theorem Hy{J:It}{xs:List V}{R:Hp->Prop}{g:TG}{l:TS}{D:kX}{b:St}{H:Hp}(B:Walk J xs R)(c:Nat->St->Hp->Prop)(C:c 0 b H)(w:∀i b H,i<=xs.length->c i b H->R H)(v:∀i x b H,xs[i]?=aa x->c i b H->g x b H λf j=>l {D with nx:=c (i+1),ct:=c (i+1),bk:=D.nx} f j) (A:∀b H,c xs.length b H->D.nx b H):∃W:Nat->Nat->St->Hp->Prop,(∃m,W 0 m b H)/\∀i m b H,W i m b H -> (J.stop i H/\D.nx b H)\/(J.go i H/\∃N:St->Hp->Prop,(∀h d,N h d->∃n,n<m/\W (i+1) n h d)/\∀x d,J.yld i H x d->g x b d λf j=>l {D with nx:=N,ct:=N,bk:=D.nx} f j):=by
 refine⟨λi m b H=>m=xs.length-i/\i<=xs.length/\c i b H,⟨xs.length,by simp,lY _,C⟩,?_⟩;rintro i m b H ⟨rfl,z,p⟩;have q:=B H (w i b H z p) i;by_cases r:i<xs.length
 .have o:xs[i]?=aa xs[i]:=by simp[r]
  obtain⟨E,s⟩:=q.1 xs[i] o;refine .inr ⟨E,c (i+1),λh d u=>⟨xs.length-(i+1),∅,rfl,r,u⟩,λx d y=>?_⟩;obtain⟨rfl,rfl⟩:=s x d y;exact v i _ b _ o p
 .have e:i=xs.length:=∅
  subst e;exact .inl ⟨q.2 rfl,A b H p⟩
theorem TZ{b:Type}(l:List b)(f:b->Bool)(d:Nat->Bool)(c:∀i x,l[i]?=aa x->d i=f x):(dY l.length).all d=l.all f:=by
 induction l generalizing d with
 |nil=>rfl
 |cons x r g=>rw[eG,CT,qS,wd,qS,c 0 x rfl];congr 1;exact g _ λi y h=>c (i+1) y (by simpa using h)
theorem Uo{bs:List Bool}{b:List ai}(r:bx (bs.map V.bl) b){i:Nat}{v:ai}(h:b.toArray[i]?=aa v):v=.bool (bs.getD i aj):=by
 have d:=r.length;rw[cz]at d;have g:i<b.length:=by have:=(qW.mp h).1;simpa using this
 have e:(bs.map V.bl)[i]?=aa (.bl (bs.getD i aj)):=by rw[eR,fE ∅];simp[List.getD,fE (show i<bs.length by lia)]
 obtain⟨u,c,f⟩:=r.get e;have:b[i]?=aa v:=by simpa using h
 rw[this]at c;cases c;exact f
theorem uy{A:aX}(h:A.handled=ae):A.in1.handled=ae:=h
theorem Im(j:X.calm=ah):eU X (.builtin "all") (λxs H Q=>∃(p:ag) (bs:List Bool),xs=[.ref p]/\cy X.K H p (bs.map V.bl)/\Q (.bl (bs.all id)) H):=by
 intro M s n H xs O Q I r h;obtain⟨p,bs,rfl,E,q⟩:=h;obtain⟨u,rfl,y⟩:=vals1 r;cases y;obtain⟨d,l,f,S⟩:=I.list E;have m:=l.length;rw[cz]at m;refine call_all_walk (Jx f.isList ?_);have L:p≠s.heap.objs.size:=by obtain⟨o,g,_⟩:=f.isList;exact cZ (bN g)
 refine⟨s.heap.objs.size,_,_,_,_,_,λi=>bs.getD i aj,rfl,Walks.list (uy (I.ok.hd j)) s.heap.objs.size p L d.toArray,⟨⟨_,cG _ rfl,rfl,rfl⟩,?_⟩,λi v P W Y D K=>?_,λT w k=>?_⟩
 .obtain⟨o,g,j,G⟩:=f.isList;exact⟨o,bK _ g,j,G⟩
 .rw[Uo l D];exact pe K
 .have e:(dY d.toArray.size).all (λi=>bs.getD i aj)=bs.all id:=by
   rw[cH,<-m];exact TZ bs id _ λi x C=>by simp[List.getD,C]
  rw[e];have N:Inv X M n H {s with heap:=s.heap.push {cls:=.type "list_iterator",data:=.fields #[.ref p,.int 0 0]},toks:=s.toks}:=I.kept (t':=s.toks) λb o e=>bK _ e;exact⟨.bl _,H,Inv.turned (t':=w) N (it:=s.heap.objs.size) (λb o J e=>k b o (by simpa using J) e) I.fresh (qO I.lt) (.inr I.sz) (λx c e z=>by obtain⟨v,A⟩:=I.cell x c e;exact absurd A.lt (by rw[z];exact fL _)) (λB F z=>absurd (bN (I.pin B F).1) (by rw[z];exact fL _)),rfl,q⟩
end
section
variable{X:Cx}
def mB(z:Str)(a b:Option Int):Str:=⟨((z.cps.toList.drop (HT.sIx z.length 0 a)).take (HT.sIx z.length z.length b-HT.sIx z.length 0 a)).toArray⟩
theorem Rv(a b:Nat):sliceRange (a:Int) (b:Int) 1=(dY (b-a)).map λk=>a+k:=by
 unfold sliceRange;have e:(if(1:Int) > 0 then(if(a:Int)<(b:Int)then((b:Int)-a+1-1) / 1 else 0)else(if(a:Int) > b then((a:Int)-b-1-1) / (-1)else 0)).toNat=b-a:=by
  rw[if_pos (by decide)];split
  .rw[Int.ediv_one];lia
  .have:b-a=0:=∅
   rw[this];rfl
 show(dY (if(1:Int) > 0 then(if(a:Int)<(b:Int)then((b:Int)-a+1-1) / 1 else 0)else(if(a:Int) > b then((a:Int)-b-1-1) / (-1)else 0)).toNat).map _=_;rw[e];refine j2 λk _=>?_;lia
theorem LW(a b:Option Int)(n:Nat):Builtin.Str.strSliceIndices a b 1 n=(dY (HT.sIx n n b-HT.sIx n 0 a)).map λk=>HT.sIx n 0 a+k:=by
 rw[<-Rv];have p:(1:Int) > 0:=by decide
 cases a <;> cases b <;> (unfold Builtin.Str.strSliceIndices HT.sIx;simp only[p,if_true];congr 1 <;> (try split) <;> lia)
theorem NA{b:Type}(l:List b)(a k:Nat):((dY k).map λj=>a+j).filterMap (λi=>l[i]?)=(l.drop a).take k:=by
 induction k with
 |zero=>simp
 |succ k c=>
  rw[we,zF,List.filterMap_append,c,List.take_succ];congr 1;simp[vY];cases l[a+k]? <;> rfl
theorem Nv(z:Str)(t:Tok)(l u:Option (Int×Tok)):∃m,sliceMade z t l u ae=m/\(m=.val (.str z t)/\mB z (l.map (·.1)) (u.map (·.1))=z\/m=.str (mB z (l.map (·.1)) (u.map (·.1)))):=by
 refine⟨_,rfl,?_⟩;unfold sliceMade slicePicked;have e:=LW (l.map (·.1)) (u.map (·.1)) z.length;simp only[Option.map_none,Jr];rw[e];have d:=NA z.cps.toList (HT.sIx z.length 0 (l.map (·.1))) (HT.sIx z.length z.length (u.map (·.1))-HT.sIx z.length 0 (l.map (·.1)));have b:(((dY (HT.sIx z.length z.length (u.map (·.1))-HT.sIx z.length 0 (l.map (·.1)))).map λk=>HT.sIx z.length 0 (l.map (·.1))+k).filterMap (z.cps[·]?)).toArray=(mB z (l.map (·.1)) (u.map (·.1))).cps:=by unfold mB;rw[<-d];simp
 split
 .rename_i h;left;refine⟨rfl,?_⟩;simp only[beq_self_eq_true,zG,cz,Jy,beq_iff_eq]at h;have g:HT.sIx z.length z.length (u.map (·.1))<=z.length:=HT.sIx_le _ _ (bd _) _;have f:z.cps.toList.length=z.length:=by simp[Str.length]
  have a:HT.sIx z.length 0 (l.map (·.1))=0\/z.length=0:=∅
  unfold mB;rw[h];rcases a with a|a
  .rw[a,List.drop_zero,pB ∅]
  .have:z.cps.toList=[]:=t6 ∅;rw[this];cases z;rename_i c;simp at this;subst this;simp
 .right;rw[show(⟨(((dY (HT.sIx z.length z.length (u.map (·.1))-HT.sIx z.length 0 (l.map (·.1)))).map λk=>HT.sIx z.length 0 (l.map (·.1))+k).filterMap (z.cps[·]?)).toArray⟩:Str)=mB z (l.map (·.1)) (u.map (·.1))from by rw[b]]
def GI:V->Option Int->Option Int->Hp->VK->Prop:=λx a b H Q=>∃z,x=.str z/\z.length<=bh/\Q (.str (mB z a b)) H
theorem Tq(z:Str)(a b:Option Int):(mB z a b).length<=z.length:=by unfold mB Str.length;simp;lia
theorem part_of{v:ai}{o:Option Int}(p:nV v o):∃q:Option (Int×Tok),v=partValue q/\q.map (·.1)=o:=by
 cases p with
 |none=>exact⟨ae,rfl,rfl⟩
 |int i t=>exact⟨aa (i,t),rfl,rfl⟩
theorem U9:nq X GI:=by
 intro y s n H x v p o r w a Q I b g d c h;obtain⟨z,rfl,f,q⟩:=h;obtain⟨t,rfl⟩:=b;obtain⟨l,rfl,rfl⟩:=part_of d;obtain⟨u,rfl,rfl⟩:=part_of c;refine⟨"str",_,F.slot_str_getitem.lookup,typeIs_str s z t,?_⟩;obtain⟨m,j,i⟩:=Nv z t l u;refine getItem_meets (typeIs_str s z t) (by decide) F.slot_str_getitem F.entry_str_getitem (F.args_str_getitem_2 _ _) (meets_str_getitem_slice z t a l u ae (by decide)) ⟨g,?_⟩;rw[j];rcases i with⟨rfl,e⟩|rfl
 .exact⟨.str z,H,I,⟨t,rfl⟩,by rw[e]at q;exact q⟩
 .exact⟨c0 (Tq z _ _) f,⟨.str _,H,I.tok _,⟨_,rfl⟩,q⟩⟩
def gz(K:ay)(H:Hp)(d:Nat)(x y:V)(k:Bool):Prop :=
 ∀(X:Cx),X.K=K->∀(b:List (ag×Obj)) (a:St) (s:am) (u v:ai) (A:aX),Inv X b a H s->RelV x u->RelV y v->A.units+d<cLine->v8 A s u v k
theorem E2{K:ay}{H:Hp}{d:Nat}{x y:V}(f:gR x=ah)(c:gR y=ah):gz K H d x y (eX x y):=λ_ _ _ _ _ _ _ _ _ b a _=>Gb b a f c
def gy(e:Nat->Bool)(n m:Nat):Bool:=(dY (min n m)).all e&&n == m
theorem IY{A:aX}:A.in1.units=A.units+1:=rfl
theorem Bd{H:Hp}{d:Nat}{a b:ag}{xs c:List V}{e:Nat->Bool}{E:List (ag×Obj)}{o:St}{s:am}{A:aX}(I:Inv X E o H s)(N:cy X.K H a xs)(M:cy X.K H b c)(L:∀(j:Nat) x y,xs[j]?=aa x->c[j]?=aa y->gz X.K H d x y (e j)) (S:A.units+(d+1)<cLine):SeqAt.RcAt A s (.ref a) (.ref b) (gy e xs.length c.length)/\SeqAt.RcNeAt A s (.ref a) (.ref b) (!gy e xs.length c.length):=by
 obtain⟨g,q,n,_⟩:=I.list N;obtain⟨i,p,f,_⟩:=I.list M;have F:=q.length;have Q:=p.length;have z:∀j (C:j<g.toArray.size) (B:j<i.toArray.size),v8 A.in1 s g.toArray[j] i.toArray[j] (e j):=λj C B=>by
  have O:j<g.length:=by simpa using C
  have K:j<i.length:=by simpa using B
  have l:xs[j]?=aa xs[j]:=fE ∅;have D:c[j]?=aa c[j]:=fE ∅;obtain⟨u,w,J⟩:=q.get l;obtain⟨v,r,G⟩:=p.get D;have P:g[j]=u:=by rw[fE O]at w;exact cY w
  have f2:i[j]=v:=by rw[fE K]at r;exact cY r
  have:=L j xs[j] c[j] l D X rfl E o s u v A.in1 I J G (by rw[IY];lia);simpa[P,f2]using this
 by_cases h:xs.length=c.length
 .have m:g.toArray.size=i.toArray.size:=by simp;lia
  have l:gy e xs.length c.length=(dY g.toArray.size).all e:=by unfold gy;rw[h,Nat.min_self,beq_self_eq_true,Bool.and_true,cH,<-F,h]
  rw[l];exact⟨.lists n.isList f.isList m ∅ z,.lists n.isList f.isList m ∅ z⟩
 .have l:gy e xs.length c.length=aj:=by
   unfold gy;rw[beq_false_of_ne h,Bool.and_false]
  have m:(g.toArray.size != i.toArray.size)=ah:=by simp;lia
  rw[l];exact⟨.lists_lengths n.isList f.isList m ∅,.lists_lengths n.isList f.isList m ∅⟩
theorem Cn{H:Hp}{d:Nat}{a b:ag}{xs c:List V}{e:Nat->Bool}{C:List (ag×Obj)}{l:St}{s:am}{A:aX}(I:Inv X C l H s)(M:cu X.K H a xs)(L:cu X.K H b c)(K:∀(j:Nat) x y,xs[j]?=aa x->c[j]?=aa y->gz X.K H d x y (e j)) (P:A.units+(d+1)<cLine):SeqAt.RcAt A s (.ref a) (.ref b) (gy e xs.length c.length)/\SeqAt.RcNeAt A s (.ref a) (.ref b) (!gy e xs.length c.length):=by
 obtain⟨g,n,q,_⟩:=I.tuple M;obtain⟨f,m,h,_⟩:=I.tuple L;have D:=n.length;have G:=m.length;have r:∀j (z:j<g.toArray.size) (w:j<f.toArray.size),v8 A.in1 s g.toArray[j] f.toArray[j] (e j):=λj z w=>by
  have N:j<g.length:=by simpa using z
  have J:j<f.length:=by simpa using w
  have i:xs[j]?=aa xs[j]:=fE ∅;have B:c[j]?=aa c[j]:=fE ∅;obtain⟨u,p,F⟩:=n.get i;obtain⟨v,o,E⟩:=m.get B;have O:g[j]=u:=by rw[fE N]at p;exact cY p
  have f2:f[j]=v:=by rw[fE J]at o;exact cY o
  have:=K j xs[j] c[j] i B X rfl C l s u v A.in1 I F E (by rw[IY];lia);simpa[O,f2]using this
 have i:gy e xs.length c.length=((dY (min g.toArray.size f.toArray.size)).all e&&g.toArray.size == f.toArray.size):=by unfold gy;rw[cH,cH,<-D,<-G]
 rw[i];exact⟨.tuples q h ∅ r,.tuples q h ∅ r⟩
theorem KL{K:ay}{H:Hp}{d:Nat}{a b:ag}{xs c:List V}{e:Nat->Bool}(m:cy K H a xs)(l:cy K H b c)(o:a≠b)(i:∀(j:Nat) x y,xs[j]?=aa x->c[j]?=aa y->gz K H d x y (e j)):gz K H (d+1) (.ref a) (.ref b) (gy e xs.length c.length):=λX n q p s u v A I g f h=>by
 subst n;cases g;cases f;exact .of_refs o (Bd I m l i h).1
theorem MT{K:ay}{H:Hp}{d:Nat}{a b:ag}{xs c:List V}{e:Nat->Bool}(m:cu K H a xs)(l:cu K H b c)(o:a≠b)(i:∀(j:Nat) x y,xs[j]?=aa x->c[j]?=aa y->gz K H d x y (e j)):gz K H (d+1) (.ref a) (.ref b) (gy e xs.length c.length):=λX n q p s u v A I g f h=>by
 subst n;cases g;cases f;exact .of_refs o (Cn I m l i h).1
theorem EF{K:ay}{H:Hp}{d:Nat}{a:ag}:gz K H d (.ref a) (.ref a) ah:=λX h i f s u v A I c b g=>by
 cases c;cases b;exact .same _
def u0(K:ay)(f:Bool):R2:=λx y H Q=>∃a b xs c d e,x=.ref a/\y=.ref b/\((cy K H a xs/\cy K H b c)\/(cu K H a xs/\cu K H b c))/\d<=8 /\
 (∀(j:Nat) x y,xs[j]?=aa x->c[j]?=aa y->gz K H d x y (e j))/\Q (.bl (if f then !gy e xs.length c.length else gy e xs.length c.length)) H
theorem K9(m:X.A.units+64<cLine):bX X (eE .Eq) (u0 X.K aj):=by
 intro o s j H x y v u Q I g f h;obtain⟨a,b,xs,l,d,e,rfl,rfl,i,n,c,q⟩:=h;cases g;cases f;rcases i with⟨h1,h2⟩|⟨h1,h2⟩
 .exact(Bd I h1 h2 c ∅).1 _ _ _ _ ⟨.bl _,H,I,rfl,q⟩
 .exact(Cn I h1 h2 c ∅).1 _ _ _ _ ⟨.bl _,H,I,rfl,q⟩
theorem Re(m:X.A.units+64<cLine):bX X (eE .NotEq) (u0 X.K ah):=by
 intro o s j H x y v u Q I g f h;obtain⟨a,b,xs,l,d,e,rfl,rfl,i,n,c,q⟩:=h;cases g;cases f;rcases i with⟨h1,h2⟩|⟨h1,h2⟩
 .exact(Bd I h1 h2 c ∅).2 _ _ _ _ ⟨.bl _,H,I,rfl,q⟩
 .exact(Cn I h1 h2 c ∅).2 _ _ _ _ ⟨.bl _,H,I,rfl,q⟩
def NP(K:ay):V->List V->Hp->VK->Prop:=λx a H Q=>∃(p:ag) (xs:List V) (y:V),x=.ref p/\a=[y]/\H p=aa (.lst xs)/\gR y=ah/\xs.all gR=ah/\Q (.int ((xs.countP λz=>eX z y:Nat):Int)) H
theorem SK{y:V}{xs:List V}{a:List ai}(r:bx xs a)(f:xs.all gR=ah):a.countP (ku y)=xs.countP λz=>eX z y:=by
 unfold bx at r
 induction r with
 |nil=>rfl
 |cons r _ g=>rw[qS,gG]at f;rw[List.countP_cons,List.countP_cons,xO r f.1,g f.2]
theorem Ng:zr X "list.count" (NP X.K):=by
 intro B s l H x m v o Q I c d h;obtain⟨p,xs,y,rfl,rfl,i,j,b,q⟩:=h;cases c;obtain⟨u,rfl,f⟩:=d.one;obtain⟨z,a,n,r,A,e⟩:=I.lstM i;refine qV F.slot_list_count ⟨_,e,rfl⟩ F.entry_list_count (F.args_list_count_2 _ _) (SeqAt.list_countAt p a.toArray n ae #[] u (ku y)) ⟨e,λw g=>xA f j r b w (by simpa using g),?_⟩;exact⟨.int _,H,I.tok _,⟨_,by rw[CU,SK r b]⟩,q⟩
def PN:V->List V->Hp->VK->Prop:=λx a H Q=>∃(p:ag) (xs:List V) (y:V) (j:Nat),x=.ref p/\a=[y]/\H p=aa (.lst xs)/\gR y=ah/\xs.all gR=ah/\j<xs.length /\
 (∀z,xs[j]?=aa z->eX z y=ah)/\(∀(i:Nat) z,i<j->xs[i]?=aa z->eX z y=aj)/\Q (.int j) H
theorem QN:zr X "list.index" PN:=by
 intro af s S H x T v W Q I A B h;obtain⟨p,xs,y,j,rfl,rfl,K,N,l,hj,M,L,q⟩:=h;cases A;obtain⟨u,rfl,C⟩:=B.one;obtain⟨z,a,n,r,Z,e⟩:=I.lstM K;have Y:=sD;have c:∀(i:Nat) (g:i<a.toArray.size),∃w,xs[i]?=aa w/\ku y a.toArray[i]=eX w y:=λi g=>by
  have D:i<a.length:=by simpa using g
  have o:xs[i]?=aa xs[i]:=fE ∅;obtain⟨w,b,E⟩:=r.get o;have P:a[i]=w:=by rw[fE D]at b;exact cY b
  refine⟨_,o,?_⟩;have O:gR xs[i]=ah:=lZ.mp l _ (wg _);rw[<-xO E O];simp[P]
 refine qV F.slot_list_index ⟨_,e,rfl⟩ F.entry_list_index (F.args_list_index_2 _ _) (SeqAt.list_indexAt p a.toArray n ae #[] u (ku y) j (by simp;lia) ∅ ?_ ?_) ⟨e,λw G=>xA C N r l w (by simpa using G),?_⟩
 .obtain⟨w,b,d⟩:=c j (by simp;lia);rw[d];exact M w b
 .intro m J f;obtain⟨w,b,d⟩:=c m J;rw[d];exact L m w f b
 .exact⟨.int _,H,I.tok _,⟨_,rfl⟩,q⟩
end
abbrev Tx:=List Nat
def tS(l:Tx):Str:=⟨l.toArray⟩
def tV(l:Tx):V:=.str (tS l)
def cL(a:List Tx):List V:=a.map tV
theorem k9(l:Tx):(tS l).cps.toList=l:=by simp[tS]
theorem kN(l:Tx):(tS l).length=l.length:=by simp[tS,Str.length]
theorem qr(z:Str):tS z.cps.toList=z:=by cases z;simp[tS]
theorem sB{a b:Tx}(h:tS a=tS b):a=b:=by rw[<-k9 a,h,k9]
theorem NX{a b:Tx}(h:tV a=tV b):a=b:=sB (V.str.inj h)
theorem y0(a:List Tx):(cL a).length=a.length:=cz _
def cX(a b:Tx):Bool:=decide (a<=b)
def aH(ls:List Tx):List Tx:=ls.mergeSort cX
theorem FU(a b c:Tx)(f:cX a b=ah)(d:cX b c=ah):cX a c=ah:=by simp only[cX,decide_eq_true_eq]at *;exact List.le_trans f d
theorem Nr(a b:Tx):(cX a b||cX b a)=ah:=by simp only[cX,CV,decide_eq_true_eq];exact List.le_total a b
theorem Rm{a b:Tx}(d:cX a b=ah)(c:cX b a=ah):a=b:=by simp only[cX,decide_eq_true_eq]at *;exact List.le_antisymm d c
theorem eM(ls:List Tx):(aH ls).Perm ls:=List.mergeSort_perm _ _
theorem o5(ls:List Tx):(aH ls).Pairwise (λa b=>cX a b=ah):=List.pairwise_mergeSort FU Nr _
theorem yT(ls:List Tx):(aH ls).length=ls.length:=(eM ls).length_eq
theorem sZ{c d:List Tx}(g:d.Perm c)(f:d.Pairwise (λa b=>cX a b=ah)):d=aH c :=List.Perm.eq_of_pairwise (le:=λa b=>cX a b=ah) (λ_ _ _ _ i h=>Rm i h) f (o5 c) (g.trans (eM c).symm)
theorem s_{ls:List Tx}(c:ls.Pairwise (λa b=>cX a b=ah)):aH ls=ls:=(sZ (qX ls) c).symm
theorem uQ{a b:List Tx}(c:a.Perm b):aH a=aH b:=sZ ((eM a).trans c) (o5 a)
theorem FS:∀(p:Str) (l:List Str),risingS p l=ah->(p::l).Pairwise (λa b=>cX a.cps.toList b.cps.toList=ah)
 |p,[],_=>List.pairwise_singleton _ _
 |p,x::r,h=>by
  have d:(!ltCps x.cps.toList p.cps.toList&&risingS x r)=ah:=h;rw[gG,ltCps_eq]at d;have q:=FS x r d.2;have f:cX p.cps.toList x.cps.toList=ah:=by simp only[cX,decide_eq_true_eq];intro g;simp[g]at d
  refine List.pairwise_cons.mpr ⟨λy c=>?_,q⟩;rcases bI.mp c with rfl|c
  .exact f
  .exact FU _ _ _ f (List.rel_of_pairwise_cons q c)
theorem IE{c:List Str}(h:sortedS c=ah):(c.map λz=>z.cps.toList).Pairwise (λa b=>cX a b=ah):=by
 rw[zH];cases c with
 |nil=>exact List.Pairwise.nil
 |cons x r=>exact FS x r h
theorem Ae{a:List Tx}{b:List ai}(r:bx (cL a) b):eh b (a.map tS):=by
 induction a generalizing b with
 |nil=>cases r;exact .nil
 |cons l a g=>
  cases r with
  |cons e r=>obtain⟨t,rfl⟩:=e;exact .cons _ t (g r)
theorem He{b:List Str}{a:List ai}(h:eh a b):bx (cL (b.map λz=>z.cps.toList)) a:=by
 induction h with
 |nil=>exact .nil
 |cons y t _ g=>exact .cons ⟨t,by rw[qr]⟩ g
section
variable{P:aV}{w:aL}{A:aX}{E:ai->am->Prop}{s:am}
theorem N3{v:ai}{Q:ai->am->Prop}(x:ar (ax P w) A.in1 (collect v) (λd s1=>∃ss:List Str,eh d ss/\d.length<64/\∀(i:aD) (out:Array ai) (f:List Str) (e:Nat),(∀b o,s1.heap.get? b=aa o->i.get? b=aa o) -> i.get? s1.heap.objs.size=aa (f8 "list" out e)->eh out.toList f->f.Perm ss->sortedS f=ah->Q (.ref s1.heap.objs.size) {s1 with heap:=i}) E s):ar (ax P w) A (call (.builtin "sorted") [v]) Q E s:=by refine Jz kind_sorted plain_sorted entry_sorted (args_sorted1 _) ?_;unfold JA;refine aq (m:=checkCount "sorted" 1 1 _) (aG ?_);refine aq (aW x λd s1 ζ=>?_);obtain⟨ss,h,p,j⟩:=ζ;refine aq (CW ?_);have g:(s1.heap.push (f8 "list" d.toArray 0)).get? s1.heap.objs.size=aa (f8 "list" d.toArray 0):=cG _ rfl;refine aq (j0 (lX slot_list_sort ⟨_,g,rfl⟩ entry_list_sort (list_sort_treeK strKind_oneLt g h.keysOf (λa b c e=>keyKind_strs (by rw[<-e];exact h)) p λy r q=>⟨_,rfl,?_⟩) (args_list_sort _)));obtain⟨f,C,B,z⟩:=sorted_out_str h r q;obtain⟨e,u⟩:=sortedHeap_at (out:=(arrOf y).map (·.2)) g;refine aG ⟨_,rfl,j _ _ f e (λb o l=>?_) u C B z⟩;have n:b<s1.heap.objs.size:=bN l;rw[sortedHeap_old (cZ n) (by rw[jE];exact lr n)];exact bK _ l
end
section
variable{X:Cx}
theorem Inv.sorted{g:List (ag×Obj)}{f:St}{H:Hp}{s1:am}{a:List Tx}{ss c:List Str}{d:aD}{out:Array ai}{e:Nat}(I:Inv X g f H s1)(j:ss=a.map tS)(r:a.length<64)(k:∀b o,s1.heap.get? b=aa o->d.get? b=aa o) (i:d.get? s1.heap.objs.size=aa (f8 "list" out e)) (q:eh out.toList c) (p:c.Perm ss) (n:sortedS c=ah):Inv X g f (upd H s1.heap.objs.size (.lst (cL (aH a)))) {s1 with heap:=d}:=by
 have m:c.map (λz=>z.cps.toList)=aH a:=by
  refine sZ ?_ (IE n);have:=p.map λz=>z.cps.toList;rw[j,et]at this;have l:(a.map ((λz:Str=>z.cps.toList) ∘ tS))=a:=by simp[t7,k9]
  rw[l]at this;exact this
 have h:bx (cL (aH a)) out.toList:=by rw[<-m];exact He q
 refine I.laid (t':=s1.toks) k (bd _) ⟨?_,out.toList,e,h,?_⟩
 .rw[y0,yT];exact lO (HE ∅)
 .rw[JB];exact i
theorem OA(z:Tx)(n:Nat):Txt.mul (tS z) (n:Int)=tS (bu n z).flatten:=by
 unfold Txt.mul;cases n with
 |zero=>simp[tS,lS]
 |succ n=>
  rw[if_neg ∅];split
  .rename_i h;simp only[CV,beq_iff_eq]at h;rcases h with h|h
   .have:n=0:=∅
    subst this;simp
   .rw[kN]at h;have:z=[]:=t6 h;subst this;simp
  .unfold tS;congr 1;have b:∀(k:Nat) (a:Array Nat),(bu k z.toArray).foldl (·++·) a=a++(bu k z).flatten.toArray:=by
    intro k
    induction k with
    |zero=>intro a;simp
    |succ k c=>intro a;rw[pr,jf,c,pr,tZ];simp[Array.append_assoc]
   have e:=b (n+1) #[];simp only[lm];simpa using e
theorem QB:bX X (iy .Mult) (λx y H Q=>∃(z:Tx) (n:Nat),x=tV z/\y=.int n/\n<=100/\z.length<=100/\Q (tV (bu n z).flatten) H):=by
 intro w s j H x y v u Q I c b h;obtain⟨z,n,rfl,rfl,f,d,q⟩:=h;obtain⟨t,rfl⟩:=c;obtain⟨m,rfl⟩:=b;refine SB.mul ?_ λl k=>?_
 .have o:z.length*n<=10000:=c0 (qY d f) (by decide);refine⟨by rw[Bool.or_eq_false_iff];constructor <;> (apply decide_eq_false;lia),λi _=>?_,λi _=>?_⟩
  .rw[kN];intro g;have r:(2^63-1:Int) / n ≥ (2^63-1) / 100:=by
    have a:(0:Int)<n:=∅
    apply (Int.le_ediv_iff_mul_le a).mpr;have:((2^63-1:Int) / 100)*n<=((2^63-1) / 100)*100:=Int.mul_le_mul_of_nonneg_left ∅ (by decide);refine Int.le_trans this (by decide)
   have p:((2^63-1:Int) / 100) > 1000:=by decide
   lia
  .rw[kN,lm];unfold Builtin.Str.tooLong;apply decide_eq_false;have:10000<bh:=by rw[lR];decide
   lia
 .rw[OA];exact⟨tV _,H,I.tok _,⟨_,rfl⟩,q⟩
end
theorem OG(t:kE)(j:Nat):(t.put j).1.led=t.led/\(t.put j).1.plain=t.plain:=⟨rfl,rfl⟩
theorem KS(t:kE)(n:Nat):(t.orStandIn n).led=t.led/\((t.orStandIn n).plain=t.plain\/(t.orStandIn n).plain=aj):=by
 unfold SetTable.orStandIn;split
 .exact⟨rfl,.inl rfl⟩
 .exact⟨rfl,.inr rfl⟩
theorem LU(t:kE)(c:Array (Int×ai))(h:Int)(x:ai):(layNew t c h x).2.1.led=t.led/\((layNew t c h x).2.1.plain=t.plain\/(layNew t c h x).2.1.plain=aj):=by
 unfold layNew;split
 .rename_i a b _;have f:=OG t a;have d:=KS (t.put a).1 (SetTable.insertAt c (t.put a).2 (h,x)).size;exact⟨d.1.trans f.1,by rw[<-f.2];exact d.2⟩
 .exact⟨rfl,.inr rfl⟩
theorem Qg(t:kE)(c:Array (Int×ai))(a:Nat)(d:t.plain=aj):(t8 t c a).2.1.led=t.led/\(t8 t c a).2.1.plain=aj:=by
 unfold t8;split
 .rename_i t' b e;have q:t'.led=t.led/\t'.plain=t.plain:=by
   unfold SetTable.relaid SetTable.laid at e;cases q:SetTable.layClean (SetTable.sizeAbove a-1) (c.map (·.1))with
   |none=>rw[q]at e;cases e
   |some f=>rw[q]at e;cases e;exact⟨rfl,rfl⟩
  dsimp only;split
  .exact⟨q.1,q.2.trans d⟩
  .exact⟨rfl,rfl⟩
 .exact⟨rfl,rfl⟩
def eD(w:aL):Bool:=w.params.followText "set-order"
structure lh(P:aV)(w:aL)(h:aD)(a:ag)(ks:List Str):Prop where
 ex:∃(es:Array (Int×ai)) (ep:Nat) (t:kE) (ss:List Str),h.get? a=aa {cls:=.type "set",dict:=ae,data:=.set es ep t}/\eh (es.toList.map (·.2)) ss/\ss.Perm ks/\ElemsOf (kF P w) es.toList /\
  es.size<4090/\t.fits es.size=ah/\t.led=(!eD w)/\(ks≠[]->t.plain=aj)
theorem lh.at{P:aV}{w:aL}{h h':aD}{a:ag}{ks:List Str}(S:lh P w h a ks)(k:∀o,h.get? a=aa o->h'.get? a=aa o):lh P w h' a ks:=by obtain⟨es,ep,t,ss,e,r⟩:=S.ex;exact⟨es,ep,t,ss,k _ e,r⟩
theorem Ht:∀{a:List ai}{b:List Str},eh a b->∀x,x∈b↔∃t,Value.str x t∈a
 |_,_,.nil,x=>by simp
 |_,_,.cons y t h,x=>by
  rw[bI,Ht h x];constructor
  .rintro(rfl|⟨t',q⟩)
   .exact⟨t,lP ..⟩
   .exact⟨t',kA _ q⟩
  .rintro⟨t',q⟩;rcases bI.mp q with q|q
   .cases q;exact .inl rfl
   .exact .inr ⟨t',q⟩
theorem AL:∀{a b:List ai},a.Perm b->∀{c:List Str},eh b c->∃d,eh a d/\d.Perm c:=by intro a b p c h;refine⟨a.map strOf,strsAre_map a λv f=>h.all v (p.mem_iff.mp f),?_⟩;have:=p.map strOf;rwa[h.strs]at this
section
variable{P:aV}{w:aL}{A:aX}{E:ai->am->Prop}{s:am}
def ko(ks:List Str)(x:Str):List Str:=if x∈ks then ks else ks++[x]
theorem lh.put{h:aD}{a:ag}{c es':Array (Int×ai)}{b:Nat}{t t':kE}(e:h.get? a=aa {cls:=.type "set",dict:=ae,data:=.set c b t}):(h.update a (Obj.putSet es' t')).get? a=aa {cls:=.type "set",dict:=ae,data:=.set es' (b+1) t'}:=by have:=mM (Obj.putSet es' t') e (by rw[putSet_of es' t' rfl];rfl);rw[putSet_of es' t' rfl]at this;exact this
theorem L4{a:ag}{ks:List Str}{x:Str}{g:Tok}{Q:Bool->am->Prop}(S:lh P w s.heap a ks)(hn:ks.length<4000)(h:∀l b,li a s.heap l->lh P w l a (ko ks x)->Q b {s with heap:=l}):ar (ax P w) A (setAddHashed a (.str x g) ((kF P w).hash x)) Q E s:=by
 obtain⟨m,ep,t,ss,W,X,hp,C,hsz,hf,rj,dO⟩:=S.ex;have v:∀y t',(kF P w).is x (.str y t')=decide (y=x):=λy t'=>by
  show vX x (.str y t')=_;rw[lQ];simp[vX]
  try exact eq_comm
 have lw:(kF P w).is x (.str x g)=ah:=by rw[v];simp
 have hb:m.size<scanBound:=CN hsz (by decide);unfold setAddHashed setAddHashedIn;refine j0 (aq (t9 W rfl hf ?_));dsimp only;rw[byScan_of (knd:=kF P w) (x:=.str x g) rfl hb C];simp only[if_true];unfold setAddByScan;refine aq (aq (nZ (aq (wpAny_setScan_of lw W rfl hf C ?_))));have p:x∈ks↔∃e∈m.toList,(kF P w).is x e.2=ah:=by
  rw[<-hp.mem_iff,Ht X x];constructor
  .rintro⟨t',q⟩;obtain⟨e,H,ee⟩:=cS.mp q;exact⟨e,H,by rw[ee,v];simp⟩
  .rintro⟨e,H,q⟩;obtain⟨y,t',ey⟩:=X.all e.2 (cS.mpr ⟨e,H,rfl⟩);rw[ey,v]at q;have:y=x:=of_decide_eq_true q;subst this;exact⟨t',cS.mpr ⟨e,H,ey⟩⟩
 have klen:ks.length=m.size:=by
  have Z:=hp.length_eq;have Y:ss.length=m.size:=by rw[<-X.strs];simp
  lia
 cases hr:List.findIdx? (λe=>(kF P w).is x e.2) m.toList with
 |some j=>dsimp only;obtain⟨hj,hpj,_⟩:=UM.mp hr;have T:x∈ks:=p.mpr ⟨_,wg hj,hpj⟩;refine aG (aG ?_);exact h s.heap _ (Heap.SameBut.refl a s.heap) (by unfold ko;rw[if_pos T];exact S)
 |none=>
  dsimp only;have T:¬x∈ks:=λhm=>by obtain⟨e,H,q⟩:=p.mp hm;have:=List.findIdx?_eq_none_iff.mp hr e H;rw[q]at this;exact Bool.noConfusion this
  have J:∀(b:Bool) {i:am}{Q':Unit->am->Prop},Q' () i->ar (ax P w) A (match b with|ah=>rule "set.scan.the-table-gave-way" |aj=>pure ()) Q' E i :=
   λb i Q' hq=>by cases b <;> first|exact aG hq|exact nZ hq
  have F:=layNew_perm t m ((kF P w).hash x) (.str x g);have M:=layNew_fits t m ((kF P w).hash x) (.str x g);have z:=LU t m ((kF P w).hash x) (.str x g);generalize hL:layNew t m ((kF P w).hash x) (.str x g)=L at F M z ⊢;obtain⟨c,t1,f,gave⟩:=L;dsimp only at F M z ⊢;rw[wj]at F;have u:ElemsOf (kF P w) c.toList:=(C.push lw rfl).perm F;have hsz1:c.size=m.size+1:=by have:=F.length_eq;simpa using this
  have hS1:∃G,eh (c.toList.map (·.2)) G/\G.Perm (ko ks x):=by
   have p1:=F.map (λe:Int×ai=>e.2);rw[zF]at p1;have q1:eh (m.toList.map (·.2)++[Value.str x g]) (ss++[x]):=by
    have gen:∀{vs:List ai}{zs:List Str},eh vs zs->eh (vs++[Value.str x g]) (zs++[x]):=by
     intro vs zs hh
     induction hh with
     |nil=>exact .cons x g .nil
     |cons y t _ ih=>exact .cons y t ih
    exact gen X
   obtain⟨G,O,N⟩:=AL p1 q1;refine⟨G,O,N.trans ?_⟩;unfold ko;rw[if_neg T];exact hp.append_right _
  obtain⟨G,O,N⟩:=hS1;have cp:ko ks x≠[]:=by unfold ko;rw[if_neg T];simp
  have o:∀d:kE,d.fits c.size=ah->d.led=(!eD w)->d.plain=aj->ar (ax P w) A (do
    storeSet a c d
    if(!f&&d.tooFull)=ah then do
      (match (t8 d c (t_ c.size)).2.2 with|ah=>rule "set.scan.the-table-gave-way" |aj=>pure ())
      storeSet a (t8 d c (t_ c.size)).1 (t8 d c (t_ c.size)).2.1
      pure (aa ah)
     else pure (aa ah)) (λr s'=>∃l,r=aa ah/\s'={s with heap:=l}/\li a s.heap l/\lh P w l a (ko ks x)) E s:=by
   intro d hf2 lx f9;refine aq (wpAny_storeSet_of W rfl ?_ (fits_of_scanBound (CN (show c.size<4090 by lia) (by decide))));have o1:=lh.put (es':=c) (t':=d) W;have jI:=pC s.heap a (Obj.putSet c d);split
   .have K:=relayAll_perm d c (t_ c.size);have B:=relayAll_fits d c (t_ c.size);have n:=Qg d c (t_ c.size) f9;generalize hRl:t8 d c (t_ c.size)=Rl at K B n ⊢;obtain⟨D,t3,gave2⟩:=Rl;dsimp only at K B n ⊢;have hsz2:D.size=c.size:=by have:=K.length_eq;simpa using this
    refine aq (J _ ?_);refine aq (wpAny_storeSet_of o1 rfl ?_ (fits_of_scanBound (CN (show D.size<4090 by lia) (by decide))));obtain⟨ss2,u1,u2⟩:=AL (K.map (λe:Int×ai=>e.2)) O;refine aG ⟨_,rfl,rfl,jI.trans (pC _ a _),⟨D,_,t3,ss2,lh.put o1,u1,u2.trans N,u.perm K,∅,B,n.1.trans lx,λ_=>n.2⟩⟩
   .exact aG ⟨_,rfl,rfl,jI,⟨c,_,d,G,o1,O,N,u,∅,hf2,lx,λ_=>f9⟩⟩
  have Kb:t1.led=(!eD w):=z.1.trans rj;refine aq (J _ ?_);split
  .refine aq ?_;rw[hashByValue_scannable 8 (x:=.str x g) rfl];refine aG ?_;have hk:plainKind (.str x g)=aj:=rfl;rw[hk];simp only[l0,if_false];refine aW (o {t1 with plain:=aj} (SetTable.fits_plain_off M) Kb rfl) λr s' ζ=>?_;obtain⟨l,Z,Y,e3,e4⟩:=ζ;subst Z Y;exact aG (h l _ e3 e4)
  .rename_i I;refine aq (aG ?_);simp only[if_true];refine aW (o t1 M Kb (by simpa using I)) λr s' ζ=>?_;obtain⟨l,Z,Y,e3,e4⟩:=ζ;subst Z Y;exact aG (h l _ e3 e4)
end
def met(val:Nat->Str)(i:Nat):List Str:=((dY i).map val).foldl ko []
theorem Hs(val:Nat->Str)(i:Nat):met val (i+1)=ko (met val i) (val i):=by unfold met;rw[we,zF,CY];rfl
theorem Gf(val:Nat->Str){i:Nat}:∀{j:Nat},i<=j->(met val i).length<=(met val j).length
 |0,h=>by rw[show i=0 by lia];exact bd _
 |j+1,h=>by
  by_cases e:i=j+1
  .subst e;exact bd _
  .refine c0 (Gf val (j:=j) ∅) ?_;rw[Hs];unfold ko;split
   .exact bd _
   .simp
section
variable{P:aV}{w:aL}{A:aX}{R:Result->am->Prop}{I:ag}{c a:List ag}{G:Array GenState->Array GenState->Prop}{n:Nat}{d:Nat->ai->Prop}{St:Nat->am->Prop}
theorem NF(W:WalksS P w A.in1 I c a G n d St)(S:ag)(q:S∉c){J:Nat->aD->Prop}(K:∀i h j,J i h->(∀b o,b∉a->h.get? b=aa o->j.get? b=aa o)->J i j)(Y:∀(i:Nat) (v:ai) (s:am) (E:ai->am->Prop) (Q:Bool->am->Prop),i<n->d i v->J i s.heap->(∀j u b,s.toks<=u->li S s.heap j->J (i+1) j->Q b {s with heap:=j,toks:=u})->ar (ax P w) A.in1 (setAdd S v) Q E s):∀(k i:Nat) (s:am),n-i=k->i<=n->St i s->J i s.heap -> (∀f,Moved (S::a) G s f->J n f.heap->R (.ok (.ret .none)) f)->mK (ax P w) A (.builtin "set.update.loop" ⟨[.ref S,.ref I],[]⟩) R s:=by
 have T:S∉a:=λh=>q (W.sub _ h);have F:∀b∈a,b∈S::a:=λb g=>kA _ g;intro k
 induction k with
 |zero=>
  intro i s N O B y z;obtain rfl:i=n:=∅
  refine wl UN ?_;rw[zI JC _];show ar _ A.in1 (mI (.ref I) >>= _) _ _ s;refine aq (W.done s _ _ B λf p=>?_);show ar _ A.in1 (ret Value.none) _ _ f;exact aG (z f (p.mono F) (K _ _ _ y λb o g e=>p.heap b o g e))
 |succ k M=>
  intro i s N O B y z;have C:i<n:=∅
  refine wl UN ?_;rw[zI JC _];show ar _ A.in1 (mI (.ref I) >>= _) _ _ s;refine aq (W.item i s _ _ C B λv f X l p=>?_);show ar _ A.in1 (nQ [v] (setAdd S v) >>= _) _ _ f;refine aq (j0 (Y i v f _ _ C X (K _ _ _ y λb o g e=>p.heap b o g e) λj u b D H L=>?_));refine aG ⟨CZ JC _,M (i+1) _ ∅ C (W.frame _ f _ _ l D λb g o e=>?_) L λx m r=>?_⟩
  .rw[H.2 b (λh:b=S=>q (by rw[<-h];exact g))];exact e
  .refine z x (Moved.trans W.gtrans ((p.mono F).then_heap D λb o g e=>?_) m) r;rw[H.2 b (λh:b=S=>g (by rw[h];exact lP))];exact e
end
section
variable{P:aV}{w:aL}{A:aX}{E:ai->am->Prop}{s:am}
theorem Oc(a:ai){Q:ai->am->Prop} (h:lh P w (s.heap.push {cls:=.type "set",dict:=ae,data:=.set #[] 0 (.fresh 0 0 (!eD w))}) s.heap.objs.size [] -> Q (.ref s.heap.objs.size) {s with heap:=s.heap.push {cls:=.type "set",dict:=ae,data:=.set #[] 0 (.fresh 0 0 (!eD w))}}):mK (ax P w) A (.call (.builtin "set.__new__") ⟨[.type "set",a],[]⟩) (wants Q E) s:=by
 refine codeAny_of_tree ?_;show ar _ A.in1 (do JD "set.__new__" ⟨[.type "set",a],[]⟩;again (.builtin "set.__new__" ⟨[.type "set",a],[]⟩)) _ _ s;refine aq (C0 (PySem.F.newCall_set_1 a) (aG ⟨CZ F.plain_set_new _,wl F.entry_set_new ?_⟩));rw[zI F.plain_set_new _];unfold Builtin.«set.__new__» Builtin.Frozenset.newClass;have i:=sub_set_self;obtain⟨j,g,d,c,f⟩:=s;dsimp only
 wp_walk
 refine ua (aG ?_);dsimp only;simp only[newObj];refine aq (wpAny_alloc (aG ?_));refine aG (h ⟨#[],0,_,[],cG _ rfl,.nil,qX _,λe b=>by simp at b,by decide,rfl,rfl,λh=>absurd rfl h⟩)
end
end L2
set_option maxHeartbeats 8000000
namespace L2
theorem KN:entryFor table "set.__iter__"=aa Builtin.«frozenset.__iter__»:=entryFor_alias (id':="frozenset.__iter__") (by kernel_rfl) rfl (by decide +kernel) (by kernel_rfl)
theorem Fz:Slot "set_iterator" "__next__" "set_iterator.__next__" :=
 .of (owner:="set_iterator") (n:="__next__") (by rw[typeLookup_type,builtinLookup_eq_fast];kernel_rfl) (by decide +kernel) (by decide +kernel) (by decide +kernel) (by first|exact .inl (by decide +kernel)|exact .inr (by decide +kernel)) (by rw[isSubtype_type];kernel_rfl)
theorem Ot:entryFor table "set_iterator.__next__"=aa Builtin.«set_iterator.__next__»:=entryFor_of_fast (by kernel_rfl)
theorem PB(a:ai):argsOk "set_iterator.__next__" ⟨[a],[]⟩:=by unfold argsOk;kernel_rfl
theorem D_:Slot "set_iterator" "__iter__" "set_iterator.__iter__" :=
 .of (owner:="set_iterator") (n:="__iter__") (by rw[typeLookup_type,builtinLookup_eq_fast];kernel_rfl) (by decide +kernel) (by decide +kernel) (by decide +kernel) (by first|exact .inl (by decide +kernel)|exact .inr (by decide +kernel)) (by rw[isSubtype_type];kernel_rfl)
theorem Py:entryFor table "set_iterator.__iter__"=aa Builtin.«dict_keyiterator.__iter__»:=entryFor_alias (id':="dict_keyiterator.__iter__") (by kernel_rfl) rfl (by decide +kernel) (by kernel_rfl)
theorem Ko(a:ai):argsOk "set_iterator.__iter__" ⟨[a],[]⟩:=by unfold argsOk;kernel_rfl
def jn(first:ai)(i:Nat)(a:ag)(n b:Nat):Obj:={cls:=.type "set_iterator",data:=.fields #[first,.int i 0,.ref a,.int n 0,.int b 0]}
section
variable{P:aV}{w:aL}{A:aX}{E:ai->am->Prop}{s:am}
theorem xh{I a:ag}{first:ai}{i n d:Nat}{Q:ai->am->Prop}(h:s.heap.get? I=aa (jn first i a n d))(c:Q (.ref I) s):ar (ax P w) A (nR (.ref I)) Q E s:=by
 have b:s.TypeIs (.ref I) "set_iterator":=⟨_,h,rfl⟩
 refine JE b D_ (lX D_ b Py ?_ (Ko _));show ar _ _ (ret (.ref I)) _ _ s;exact aG ⟨_,rfl,"set_iterator",_,b,Fz.lookup,c⟩
theorem ql{I a:ag}{first:ai}{i:Nat}{f:Array (Int×ai)}{g:Nat}{t:kE}{Q:Option ai->am->Prop}(n:s.heap.get? a=aa {cls:=.type "set",dict:=ae,data:=.set f g t})(m:t.fits f.size=ah)(l:s.heap.get? I=aa (jn first i a f.size g))(h:ar (ax P w) A.in1 (if let .int slot _:=first then do
    match <-n0 a slot.toNat (i:Int).toNat (g:Int).toNat with
    |some (x,next)=>do
     l5 (.ref I) 0 (dq next)
     l5 (.ref I) 1 (dq ((i:Int)+1))
     ret x
    |none=>do l5 (.ref I) 2 .none;wm (<-qZ (.type "StopIteration") [])
   else do
    let aa places <-seqItems? first|unsupported "internal:set_iterator"
    match places[(i:Int).toNat]? with
    |some (.int d _)=>do
     let x <-setNextDrawn a d.toNat (g:Int).toNat
     l5 (.ref I) 1 (dq ((i:Int)+1))
     ret x
    |some _=>unsupported "internal:set_iterator"
    |none=>do l5 (.ref I) 0 (dq 0);l5 (.ref I) 2 .none;wm (<-qZ (.type "StopIteration") []))
   (λc b=>∃r,c=.done (.ret r)/\Q (aa r) b) (λe b=>ar (ax P w) A (do if <-isInstance e (.type "StopIteration")then pure ae else throw e) Q E b) s) :
  ar (ax P w) A (mI (.ref I)) Q E s:=by
 have j:s.TypeIs (.ref I) "set_iterator":=⟨_,l,rfl⟩
 unfold mI;refine aq (C1 (v7 (name:=tX "__next__") j Fz (lX Fz j Ot ?_ (PB _))));unfold Builtin.«set_iterator.__next__» slotArgs;refine aq (aG ?_);refine aq (wpAny_fieldsOf l rfl ?_);show ar _ _ (setEntries a >>= _) _ _ s;refine aq (wpAny_setEntries_of n rfl m ?_);have u:(((f.size:Nat):Int) != ((f.size:Nat):Int))=aj:=by simp
 rw[u];simp only[l0,if_false];refine dZ ?_ (λc b q=>?_) (λe b q=>q) (Q:=λc b=>∃r,c=.done (.ret r)/\Q (aa r) b) (E:=λe b=>ar (ax P w) A (do if <-isInstance e (.type "StopIteration")then pure ae else throw e) Q E b)
 .exact h
 .obtain⟨r,p,o⟩:=q;exact⟨r,p,aG o⟩
end
theorem Cd{a:Type}:∀{l:List a}{i:Nat} (h:i<l.length),(l[i]::l.eraseIdx i).Perm l
 |[],i,h=>by simp at h
 |x::r,0,h=>by simp
 |x::r,i+1,h=>by have q:=Cd (l:=r) (i:=i) (by simpa using h);simp only[List.getElem_cons_succ,List.eraseIdx_cons_succ];exact(List.Perm.swap x _ _).trans (List.Perm.cons x q)
theorem FV{f:Type}(next:Nat->Nat):∀(c k:Nat) (a:List f) (b:Array f),c=a.length->(pickOrder.go next c k a b).toList.Perm (b.toList++a)
 |0,k,a,b,h=>by have:a=[]:=t6 h.symm;subst this;simp[pickOrder.go]
 |c+1,k,a,b,h=>by
  have d:next k % a.length<a.length:=Nat.mod_lt _ ∅
  unfold pickOrder.go;rw[fE d];dsimp only;have g:=FV next c (k+1) (a.eraseIdx (next k % a.length)) (b.push a[next k % a.length]) (by rw[List.length_eraseIdx,if_pos d];lia)
  refine g.trans ?_;rw[wj,gH];exact zJ _ (Cd d)
theorem FK{a:Type}(next:Nat->Nat)(xs:Array a):(wo next xs).toList.Perm xs.toList:=by
 have:=FV next xs.size 0 xs.toList #[] (by simp)
 simpa[wo]using this
section
variable{P:aV}{w:aL}{A:aX}{E:ai->am->Prop}{s:am}
theorem Q9{a:Source}{n:Nat}{Q:Nat->am->Prop}(b:n≠0)(h:∀k d,k<n->Q k {s with drawn:=d}):ar (ax P w) A (choose a n) Q E s:=λc p hΓ=>by unfold choose;rw[Sem.wp_choose];refine⟨b,?_⟩;exact h _ _ (Nat.mod_lt _ (Nat.pos_of_ne_zero b))
theorem FO{c:Type}:∀(n:Nat) (xs:List c) (s:am) (Q:List c->am->Prop),n=xs.length->(∀a d,a.Perm xs->Q a {s with drawn:=d})->ar (ax P w) A (drawOrder n xs) Q E s
 |0,[],s,Q,_,h=>by unfold drawOrder;exact aG (h [] s.drawn (qX _))
 |0,x::xs,s,Q,hn,h=>by simp at hn
 |n+1,[],s,Q,hn,h=>by simp at hn
 |n+1,x::xs,s,Q,hn,h=>by unfold drawOrder;refine aq (Q9 (by simp) λk d b=>?_);rw[fE b];dsimp only;refine aq (FO n ((x::xs).eraseIdx k) _ _ (by rw[List.length_eraseIdx,if_pos b];lia) λa g f=>?_);refine aG (h _ g ?_);exact(List.Perm.cons _ f).trans (Cd b)
theorem xt{Q:Option ai->am->Prop}{R:Fin->am->Prop}(f:A.handled=ae)(g:∀c,(∀b o,s.heap.get? b=aa o->c.get? b=aa o)->Q ae {s with heap:=c}):ar (ax P w) A.in1 (do wm (<-qZ (.type "StopIteration") [])) R (λe d=>ar (ax P w) A (do if <-isInstance e (.type "StopIteration")then pure ae else throw e) Q E d) s:=by
 refine aq ?_;simp only[qZ,newTuple];refine aq (j1 ?_ (by size_fits));refine aq (m:=wp _ _) (C0 (a:=Value.none) (by first|rfl | (simp only[wp];rfl)) ?_);refine j1 ?_ (by size_fits);simp only[wm];refine aq (wpAny_handled ?_);rw[show A.in1.handled=ae from f];refine aq (aG (wpAny_throw ?_));refine aq (JF (T:="StopIteration") (b:=ah) ⟨_,cG _ rfl,rfl⟩ isSubtype_stop ?_);exact aG (g _ λb o e=>bK _ (bK _ e))
theorem BI{I a:ag}{first d:ai}{i n f:Nat}{Q:Unit->am->Prop}(c:s.heap.get? I=aa (jn first i a n f))(h:∀b,li I s.heap b->b.get? I=aa (jn d i a n f)->Q () {s with heap:=b}):ar (ax P w) A (l5 (.ref I) 0 d) Q E s:=by refine mO c rfl (by simp[jn]) (h _ (pC ..) ?_);rw[mM _ c (by rfl)];rfl
theorem AM{I a:ag}{first:ai}{i n d:Nat}{Q:Unit->am->Prop}(c:s.heap.get? I=aa (jn first i a n d))(h:∀b,li I s.heap b->b.get? I=aa (jn first (i+1) a n d)->Q () {s with heap:=b}):ar (ax P w) A (l5 (.ref I) 1 (dq ((i:Int)+1))) Q E s:=by refine mO c rfl (by simp[jn]) (h _ (pC ..) ?_);rw[mM _ c (by rfl)];rfl
theorem yb{I a:ag}{first:ai}{i n d:Nat}{Q:Unit->am->Prop}(c:s.heap.get? I=aa (jn first i a n d))(h:∀b,li I s.heap b->(∃o,b.get? I=aa o)->Q () {s with heap:=b}):ar (ax P w) A (l5 (.ref I) 2 .none) Q E s:=by refine mO c rfl (by simp[jn]) (h _ (pC ..) ⟨_,mM _ c (by rfl)⟩)
abbrev qz(a:Array (Int×ai))(b:Nat)(t:kE):Obj:={cls:=.type "set",dict:=ae,data:=.set a b t}
theorem QH{I a:ag}{d:Array (Int×ai)}{g:Nat}{t:kE}(x:a≠I)(n:t.fits d.size=ah)(f:eD w=ah)(C:A.handled=ae):Walks P w A I [I,a] [I] d.size (λi v=>((wo (w.params.setOrder a g) d).toList.map (·.2))[i]?=aa v) (λi h=>h.get? I=aa (jn (dq 0) i a d.size g)/\h.get? a=aa (qz d g t)):=by
 have hsz:(wo (w.params.setOrder a g) d).size=d.size:=by have:=(FK (w.params.setOrder a g) d).length_eq;simpa using this
 have j:∀(s:am) (i:Nat) (Q:Option (ai×Nat)->am->Prop) (E:ai->am->Prop),s.heap.get? a=aa (qz d g t) ->
   Q (((wo (w.params.setOrder a g) d)[i]?).map λe=>(e.2,0)) s->ar (ax P w) A.in1 (n0 a (0:Int).toNat (i:Int).toNat (g:Int).toNat) Q E s:=λs i Q E u B=>by
  unfold n0;refine aq (t9 u rfl n ?_);unfold zK;refine aq (aq (ua (aG ?_)));show ar _ _ (if eD w=ah then _ else _) _ _ s;rw[if_pos f];simp only[lm,bne_self_eq_false,l0,if_false];unfold setWalk;refine aq (aq (t9 u rfl n ?_));unfold zK;refine aq (aq (ua (aG ?_)));show ar _ _ (if eD w=ah then _ else _) _ _ s;rw[if_pos f];refine aq (ua (aG (aG ?_)));exact B
 refine⟨λb f=>by simp at f;simp[f],λi h H c k=>⟨k I (by simp) _ c.1,k a (by simp) _ c.2⟩,λi s Q E G c l=>?_,λs Q E c l=>?_,λi s Q E c l=>xh c.1 l⟩
 .refine ql c.2 n c.1 ?_;refine aq (j s i _ _ c.2 ?_);have y:i<(wo (w.params.setOrder a g) d).size:=∅
  rw[ub y];dsimp only[pD];refine aq (BI c.1 λq m F=>?_);refine aq (AM (s:={s with heap:=q}) F λp r D=>?_);refine aG ⟨_,rfl,l _ p s.toks ?_ ⟨D,?_⟩ λb o f e=>?_⟩
  .rw[eR];simp[ub y]
  .exact(r.2 a x).trans ((m.2 a x).trans c.2)
  .exact(r.2 b (by simpa using f)).trans ((m.2 b (by simpa using f)).trans e)
 .refine ql c.2 n c.1 ?_;refine aq (j s d.size _ _ c.2 ?_);rw[Array.getElem?_eq_none ∅];dsimp only[Option.map_none];refine aq (yb c.1 λq m _=>?_);exact xt (s:={s with heap:=q}) C λp z=>l p s.toks λb o f e=>z b o ((m.2 b (by simpa using f)).trans e)
theorem Uz{I a T:ag}{f:Array (Int×ai)}{J:Nat}{t:kE}{c:List Nat}(cp:a≠I)(Z:T≠I)(C:t.fits f.size=ah)(G:c.Perm (dY f.size))(Y:A.handled=ae):Walks P w A I [I,a,T] [I] f.size (λi v=>(c.filterMap λj=>(f[j]?).map (·.2))[i]?=aa v) (λi h=>h.get? I=aa (jn (.ref T) i a f.size J)/\h.get? a=aa (qz f J t)/\h.get? T=aa {cls:=.type "tuple",data:=.seq (c.map λ(k:Nat)=>dq k).toArray}):=by
 have L:c.length=f.size:=by simpa using G.length_eq
 have p:∀j∈c,j<f.size:=λj B=>by simpa using G.mem_iff.mp B
 have fm:∀(l:List Nat),(∀j∈l,j<f.size)->∀(i j:Nat),l[i]?=aa j->∃e:Int×ai,f[j]?=aa e/\(l.filterMap λj=>(f[j]?).map (·.2))[i]?=aa e.2:=by
  intro l
  induction l with
  |nil=>intro _ i j h;simp at h
  |cons x r O=>
   intro H i j h;have S:x<f.size:=H x (lP ..);have F:f[x]?=aa f[x]:=ub S;cases i with
   |zero=>simp at h;subst h;exact⟨_,F,by rw[vY,F];rfl⟩
   |succ i=>obtain⟨e,z,y⟩:=O (λj B=>H j (kA _ B)) i j (by simpa using h);exact⟨e,z,by rw[vY,F];simpa using y⟩
 have g:∀(s:am) (Q:Option (Array ai)->am->Prop) (E:ai->am->Prop),s.heap.get? T=aa {cls:=.type "tuple",data:=.seq (c.map λ(k:Nat)=>dq k).toArray}->Q (aa (c.map λ(k:Nat)=>dq k).toArray) s->ar (ax P w) A.in1 (seqItems? (.ref T)) Q E s:=λs Q E W X=>by exact wpAny_seqItems W rfl X
 refine⟨λb m=>by simp at m;simp[m],λi h h' d k=>⟨k I (by simp) _ d.1,k a (by simp) _ d.2.1,k T (by simp) _ d.2.2⟩,λi s Q E hi d q=>?_,λs Q E d q=>?_,λi s Q E d q=>xh d.1 q⟩
 .refine ql d.2.1 C d.1 ?_;refine aq (g s _ _ d.2.2 ?_);have K:i<c.length:=∅
  have u:((c.map λ(k:Nat)=>dq k).toArray)[(i:Int).toNat]?=aa (dq (c[i]:Nat)):=by simp[K]
  dsimp only;rw[u];obtain⟨e,z,y⟩:=fm c p i c[i] (fE K);show ar _ _ (setNextDrawn a _ _ >>= _) _ _ s;refine aq ?_;unfold setNextDrawn;refine aq (t9 d.2.1 rfl C ?_);simp only[lm,bne_self_eq_false,l0,if_false];rw[z];refine aG ?_;refine aq (AM d.1 λD n e2=>?_);refine aG ⟨_,rfl,q _ D s.toks y ⟨e2,(n.2 a cp).trans d.2.1,(n.2 T Z).trans d.2.2⟩ λb o m e=>(n.2 b (by simpa using m)).trans e⟩
 .refine ql d.2.1 C d.1 ?_;refine aq (g s _ _ d.2.2 ?_);have u:((c.map λ(k:Nat)=>dq k).toArray)[(f.size:Int).toNat]?=ae:=by simp[L]
  dsimp only;rw[u];refine aq (BI d.1 λh1 N u=>?_);refine aq (yb (s:={s with heap:=h1}) u λD n _=>?_);exact xt (s:={s with heap:=D}) Y λh3 M=>q h3 s.toks λb o m e=>M b o ((n.2 b (by simpa using m)).trans ((N.2 b (by simpa using m)).trans e))
theorem LB(j k:Nat):UO #[j] k=if j<k then 1 else 0:=by
 unfold UO;simp only[cH,eG,pt];unfold JG;simp;split
 .rename_i h;unfold JG;simp
 .unfold JG;simp
theorem LV{I a:ag}{g:Array (Int×ai)}{n:Nat}{t:kE}(K:a≠I)(u:t.fits g.size=ah)(f:eD w=aj)(M:t.led=ah)(m:g.size=1)(S:A.handled=ae):Walks P w A I [I,a] [I] 1 (λi v=>(g.toList.map (·.2))[i]?=aa v) (λi h=>h.get? I=aa (jn (dq (if i=0 then 0 else((t.place.getD 0 0:Nat):Int)+1)) i a g.size n)/\h.get? a=aa (qz g n t)):=by
 have y:t.place.size=1:=by simp only[SetTable.fits,gG,beq_iff_eq]at u;lia
 obtain⟨j,G⟩:=Array.size_eq_one_iff.mp y;have J:((t.place.getD 0 0:Nat):Int)=(j:Int):=by rw[G];rfl
 obtain⟨e,H⟩:=Array.size_eq_one_iff.mp m;have l:∀(s:am) (d:Nat) (i:Nat) (Q:Option (ai×Nat)->am->Prop) (E:ai->am->Prop),s.heap.get? a=aa (qz g n t) ->
   Q (if j<d then ae else aa (e.2,j+1)) s->ar (ax P w) A.in1 (n0 a d i n) Q E s:=λs d i Q E T r=>by
  unfold n0;refine aq (t9 T rfl u ?_);unfold zK;refine aq (aq (ua (aG ?_)));show ar _ _ (if eD w=ah then _ else _) _ _ s;rw[if_neg (by rw[f];decide)];refine zL (λz=>absurd (show(!t.plain&&decide (g.size > 1))=ah from z) (by rw[m];simp)) (λ_=>?_);refine aq ?_;refine dZ (Q:=λ_ D=>D=s) (E:=E) ?_ (λ_ D N=>?_) (λ_ _ x=>x)
  .refine zL (λz=>absurd (show(!t.led&&!g.isEmpty)=ah from z) (by rw[M];simp)) (λ_=>aG rfl)
  .subst N;rw[G,LB,H];by_cases L:j<d
   .rw[if_pos L]at r ⊢;exact aG r
   .rw[if_neg L]at r ⊢;exact aG r
 refine⟨λb f=>by simp at f;simp[f],λi h Y c k=>⟨k I (by simp) _ c.1,k a (by simp) _ c.2⟩,λi s Q E X c p=>?_,λs Q E c p=>?_,λi s Q E c p=>xh c.1 p⟩
 .obtain rfl:i=0:=∅
  refine ql c.2 u c.1 ?_;show ar _ _ (n0 a (0:Int).toNat ((0:Nat):Int).toNat (n:Int).toNat >>= _) _ _ s;simp only[lm,Int.toNat_zero];refine aq (l s 0 0 _ _ c.2 ?_);rw[if_neg (Nat.not_lt_zero j)];dsimp only;refine aq (BI c.1 λm q C=>?_);refine aq (AM (s:={s with heap:=m}) C λB F W=>?_);refine aG ⟨_,rfl,p _ B s.toks ?_ ⟨?_,?_⟩ λb o f e=>?_⟩
  .rw[H];rfl
  .rw[W,if_neg (by decide),J];rfl
  .exact(F.2 a K).trans ((q.2 a K).trans c.2)
  .exact(F.2 b (by simpa using f)).trans ((q.2 b (by simpa using f)).trans e)
 .refine ql c.2 u c.1 ?_;rw[if_neg (by decide),J];show ar _ _ (n0 a ((j:Int)+1).toNat ((1:Nat):Int).toNat (n:Int).toNat >>= _) _ _ s;have C:((j:Int)+1).toNat=j+1:=∅
  rw[C,lm,lm];refine aq (l s (j+1) 1 _ _ c.2 ?_);rw[if_pos (n4 j)];dsimp only;refine aq (yb c.1 λm q _=>?_);exact xt (s:={s with heap:=m}) S λB O=>p B s.toks λb o f e=>O b o ((q.2 b (by simpa using f)).trans e)
theorem Hg:∀{a:List ai}{b:List Str} (i:Nat) (v:ai),eh a b->a[i]?=aa v->∃t,v=.str (b.getD i lS) t
 |_,_,i,v,.nil,h=>by simp at h
 |_,_,0,v,.cons y t _,h=>by simp at h;exact⟨t,by rw[<-h];rfl⟩
 |_,_,i+1,v,.cons y t hr,h=>by simp only[JH]at h;obtain⟨c,e⟩:=Hg i v hr h;exact⟨c,by rw[e];rfl⟩
set_option maxRecDepth 100000 in
theorem Uv{l:ag}{a:Array ai}{Q:ai->am->Prop}(hh:A.handled=ae)(hl:s.heap.IsList l a){J:Nat->aD->Prop}(hJ:∀i h d,J i h->(∀b o,b<=s.heap.objs.size->h.get? b=aa o->d.get? b=aa o)->J i d) (T:J 0 (s.heap.push {cls:=.type "set",dict:=ae,data:=.set #[] 0 (.fresh 0 0 (!eD w))}))(g9:∀(i:Nat) (v:ai) (f:am) (E:ai->am->Prop) (Q:Bool->am->Prop),i<a.size->a[i]?=aa v->J i f.heap->(∀d m b,f.toks<=m->li s.heap.objs.size f.heap d->J (i+1) d->Q b {f with heap:=d,toks:=m})->ar (ax P w) A.in1.in1.in1 (setAdd s.heap.objs.size v) Q E f)(h:∀(d:aD) (m:Nat),J a.size d->(∀b o,b<s.heap.objs.size->s.heap.get? b=aa o->d.get? b=aa o)->Q (.ref s.heap.objs.size) {s with heap:=d,toks:=m}):ar (ax P w) A (call (.type "set") [.ref l]) Q E s:=by
 obtain⟨c,tl,hmro⟩:=F.called_set.mro;have K:=F.called_set.made;have oq:=F.called_set.sub;refine v4 (codeAny_of_tree ?_);show ar _ _ (callAny (.type "set") _) _ _ _;refine aG ⟨Code.quiet_builtin _ (by decide +kernel),wl F.entry_type_call ?_⟩;rw[Around.under_plain (weight_type_call_type "set" [.ref l] []) rfl];have h1:=F.called_set.notType;have h2:=F.called_set.canCreate;have hct:=PySem.F.typeCall_set_1 (.ref l)
 repeat any_goals (first|assumption|wp_step)
 refine ph (Oc (P:=P) (w:=w) (.ref l) (E:=E) (Q:=λp f=>p=.ref s.heap.objs.size/\f={s with heap:=s.heap.push {cls:=.type "set",dict:=ae,data:=.set #[] 0 (.fresh 0 0 (!eD w))}}/\True) λS0=>⟨rfl,rfl,trivial⟩) λr f I=>?_;cases r with
 |error e=>exact I
 |ok fl=>
  cases fl with
  |ret p=>
   obtain⟨rfl,rfl,S0⟩:=I;have hS:=cG (h:=s.heap) (o:=({cls:=.type "set",dict:=ae,data:=.set #[] 0 (.fresh 0 0 (!eD w))}:Obj));have O:(s.heap.push {cls:=.type "set",dict:=ae,data:=.set #[] 0 (.fresh 0 0 (!eD w))}).get? s.heap.objs.size=aa {cls:=.type "set",dict:=ae,data:=.set #[] 0 (.fresh 0 0 (!eD w))}:=cG _ rfl;have hT:Shared.TypeIs {s with heap:=s.heap.push {cls:=.type "set",dict:=ae,data:=.set #[] 0 (.fresh 0 0 (!eD w))}} (.ref s.heap.objs.size) "set":=⟨_,O,rfl⟩
   have hli:=F.called_set.init.lookup;have hbi:=F.called_set.init.bind (.ref s.heap.objs.size)
   repeat any_goals (first|assumption|wp_step)
   refine ph (codeAny_call_builtin (R:=wants (λr Y=>r=.none/\∃d m,Y={s with heap:=d,toks:=m}/\J a.size d /\ (∀b o,b<s.heap.objs.size->s.heap.get? b=aa o->d.get? b=aa o)) E) F.called_set.init.plain F.entry_set_init (check_set_init_1 hT ?_)) λr2 Y C=>?_
   .obtain⟨⟨ocls,n,H,g⟩,pM,jh,nl,Z⟩:=hl;simp only at jh Z;subst jh;subst Z;have q:(s.heap.push {cls:=.type "set",dict:=ae,data:=.set #[] 0 (.fresh 0 0 (!eD w))}).get? l=aa {cls:=.type "list",dict:=n,data:=.seq a nl,slots:=g}:=bK _ pM;have hsls:=PySem.F.sub_list_set;have hslf:=PySem.F.sub_list_frozenset;have cp:(Value.type "list" == Value.type "dict")=aj:=by decide
    have X:(s.heap.push {cls:=.type "set",dict:=ae,data:=.set #[] 0 (.fresh 0 0 (!eD w))}).IsList l a:=⟨_,q,rfl,nl,rfl⟩
    unfold Builtin.«set.__init__» noKeywords Builtin.Frozenset.updateFrom;generalize S:nR=PI
    wp_walk
    subst S;refine Jx X (aq (wpAny_runValue ?_));have x:l<s.heap.objs.size:=bN pM;have M:A.in1.in1.in1.handled=ae:=by simp[hh]
    have j:(s.heap.push {cls:=.type "set",dict:=ae,data:=.set #[] 0 (.fresh 0 0 (!eD w))}).objs.size=s.heap.objs.size+1:=v_ ..;have u:l≠(s.heap.push {cls:=.type "set",dict:=ae,data:=.set #[] 0 (.fresh 0 0 (!eD w))}).objs.size:=by rw[j];exact cZ (lr x)
    have N:s.heap.objs.size∉[(s.heap.push {cls:=.type "set",dict:=ae,data:=.set #[] 0 (.fresh 0 0 (!eD w))}).objs.size,l]:=by rw[j];simp only[bI,jF,gX,or_false,not_or];exact⟨cZ (n4 _),qO x⟩
    refine NF ((Walks.list M _ l u a).toS) s.heap.objs.size N (λi h d L k=>hJ i h d L λb o z e=>k b o (by rw[j];simp only[jF];exact cZ (Nat.lt_succ_of_le z)) e) (λi v f E Q hi hv L hq=>g9 i v f E Q hi hv L hq) (a.size-0) 0 _ ∅ (lY _)
     ⟨⟨_,cG _ rfl,rfl,rfl⟩,(X.push _)⟩ (hJ 0 _ _ T λb o _ e=>bK _ e) ?_
    intro s' y D;obtain⟨d,g',d',B,G⟩:=s';obtain rfl:g'=s.gens:=y.gens;obtain rfl:d'=s.drawn:=y.drawn;obtain rfl:G=s.os:=y.os;show ar _ _ _ _ _ _;refine aG ?_;show ar _ _ (ret Value.none) _ _ _;refine aG ⟨rfl,d,B,rfl,D,λb o z e=>y.heap b o ?_ (bK _ (bK _ e))⟩;rw[j];simp only[bI,jF,gX,or_false,not_or];exact⟨cZ z,cZ (lr z)⟩
   .cases r2 with
    |error e=>exact C
    |ok W=>
     cases W with
     |ret r=>
      obtain⟨rfl,d,m,rfl,D,ou⟩:=C
      repeat any_goals (first|assumption|wp_step)
      exact h _ _ D ou
     |_=>exact C.elim
  |_=>exact I.elim
theorem O7{l:ag}{a:Array ai}{c:List Str}{Q:ai->am->Prop}(y:A.handled=ae)(u:s.heap.IsList l a)(x:eh a.toList c)(B:(met (λi=>c.getD i lS) a.size).length<4000)(h:∀(d:aD) (j:Nat),lh P w d s.heap.objs.size (met (λi=>c.getD i lS) a.size)->(∀b o,b<s.heap.objs.size->s.heap.get? b=aa o->d.get? b=aa o)->Q (.ref s.heap.objs.size) {s with heap:=d,toks:=j}):ar (ax P w) A (call (.type "set") [.ref l]) Q E s:=by
 refine Uv y u (J:=λi h=>lh P w h s.heap.objs.size (met (λi=>c.getD i lS) i)) (λi h d S k=>S.at λo e=>k _ o (bd _) e)
  ⟨#[],0,_,[],cG _ rfl,.nil,qX _,λe z=>by simp at z,by decide,rfl,rfl,λh=>absurd rfl h⟩ (λi v f E Q m r S q=>?_) h
 obtain⟨t,rfl⟩:=Hg i v x (by rw[pE];exact r);unfold setAdd;refine j0 ?_;have p:(kF P w).is (c.getD i lS) (.str (c.getD i lS) t)=ah:=by show vX _ (.str _ t)=ah;simp[vX]
 refine aq ((kF P w).pyHash (k:=c.getD i lS) p ?_);refine L4 (s:={f with toks:=f.toks+1}) S (zE (Gf _ (lO m)) B) λd b n g=>?_;rw[<-Hs (λi=>c.getD i lS)]at g;exact q d _ b (wb _) n g
end
theorem Io{n:Nat}(h:n<=4096):n<bh:=zE h (by decide)
theorem RI:typeLookup (.type "set") "__len__"=pure (aa (.builtin "set.__len__")):=F.slot_set_len.lookup
section
variable{P:aV}{w:aL}{A:aX}{E:ai->am->Prop}{s:am}
def u6(w:aL)(h:aD)(a:ag)(b:Array (Int×ai)):Prop:=∃(c:Nat) (t:kE),h.get? a=aa {cls:=.type "set",dict:=ae,data:=.set b c t}/\b.size<4090/\t.fits b.size=ah/\t.led=(!eD w)/\(b.size≠0->t.plain=aj)
theorem u6.at{w:aL}{h h':aD}{a:ag}{es:Array (Int×ai)}(S:u6 w h a es)(k:∀o,h.get? a=aa o->h'.get? a=aa o):u6 w h' a es:=by obtain⟨ep,t,e,r⟩:=S;exact⟨ep,t,k _ e,r⟩
theorem lh.e{h:aD}{a:ag}{ks:List Str}(S:lh P w h a ks):∃es ss,u6 w h a es/\eh (es.toList.map (·.2)) ss/\ss.Perm ks:=by
 obtain⟨es,ep,t,ss,f,c,b,i,hsz,g,d,m⟩:=S.ex;refine⟨es,ss,⟨ep,t,f,hsz,g,d,λj=>m λz=>j ?_⟩,c,b⟩;have l:=b.length_eq;have n:ss.length=es.size:=by rw[<-c.strs];simp
 rw[z,pt]at l;lia
structure Hc(P:aV)(w:aL)(s s':am)(a I:ag)(es:Array (Int×ai))(fp:List ag)(n:Nat)(Pv:Nat->ai->Prop)(St:Nat->aD->Prop):Prop where
 wk:∀A:aX,A.handled=ae->Walks P w A I fp [I] n Pv St
 st:St 0 s'.heap
 old:∀b o,s.heap.get? b=aa o->s'.heap.get? b=aa o
 new:s.heap.objs.size<=I
 lt:∀b∈fp,b<s'.heap.objs.size
 rest:s'={s with heap:=s'.heap,drawn:=s'.drawn}
 ord:∀aE:Array ai,ItemsOf Pv aE n->aE.toList.Perm (es.toList.map (·.2))
 len:n<4090
 fps:∀b∈fp,b=a\/s.heap.objs.size<=b
theorem yF{l:List ai}{a:Array ai}{n:Nat}(c:l.length=n)(h:ItemsOf (λi v=>l[i]?=aa v) a n):a.toList=l:=by
 refine q8 λi=>?_;by_cases b:i<n
 .have:i<a.size:=by rw[h.1];exact b
  have q:=h.2 i a[i] (ub this);rw[q];simp[this]
 .rw[n5 (by rw[jc,h.1];lia),n5 ∅]
theorem Mo{I a:ag}{d:Array (Int×ai)}{j:Nat}{t:kE}(L:a≠I)(r:t.fits d.size=ah)(g:eD w=aj)(n:d.size=0)(F:A.handled=ae):Walks P w A I [I,a] [I] 0 (λi v=>(d.toList.map (·.2))[i]?=aa v) (λi h=>h.get? I=aa (jn (dq 0) 0 a d.size j)/\h.get? a=aa (qz d j t)):=by
 have u:d=#[]:=Array.eq_empty_of_size_eq_zero n;have l:∀(s:am) (f:Nat) (i:Nat) (Q:Option (ai×Nat)->am->Prop) (E:ai->am->Prop),s.heap.get? a=aa (qz d j t) ->
   Q ae s->ar (ax P w) A.in1 (n0 a f i j) Q E s:=λs f i Q E G C=>by
  unfold n0;refine aq (t9 G rfl r ?_);unfold zK;refine aq (aq (ua (aG ?_)));show ar _ _ (if eD w=ah then _ else _) _ _ s;rw[if_neg (by rw[g];decide)];refine zL (λp=>absurd (show(!t.plain&&decide (d.size > 1))=ah from p) (by rw[n];simp)) (λ_=>?_);refine aq ?_;refine dZ (Q:=λ_ q=>q=s) (E:=E) ?_ (λ_ q y=>?_) (λ_ _ x=>x)
  .refine zL (λp=>absurd (show(!t.led&&!d.isEmpty)=ah from p) (by rw[u];simp)) (λ_=>aG rfl)
  .subst y;rw[u];have J:∀k:Nat,(#[]:Array (Int×ai))[k]?=ae:=λk=>by simp
   dsimp only;rw[J];exact aG C
 refine⟨λb g=>by simp at g;simp[g],λi h K c k=>⟨k I (by simp) _ c.1,k a (by simp) _ c.2⟩,λi s Q E D c m=>absurd D (Nat.not_lt_zero i),λs Q E c m=>?_,λi s Q E c m=>xh c.1 m⟩;refine ql c.2 r c.1 ?_;show ar _ _ (n0 a (0:Int).toNat ((0:Nat):Int).toNat (j:Int).toNat >>= _) _ _ s;simp only[lm,Int.toNat_zero];refine aq (l s 0 0 _ _ c.2 ?_);dsimp only;refine aq (yb c.1 λn B _=>?_);exact xt (s:={s with heap:=n}) F λH z=>m H s.toks λb o g e=>z b o ((B.2 b (by simpa using g)).trans e)
theorem OH{a:ag}{g:Array (Int×ai)}{Q:ai->am->Prop}(S:u6 w s.heap a g)(h:∀x I C n D St,Hc P w s x a I g C n D St->Q (.ref I) x):ar (ax P w) A (nR (.ref a)) Q E s:=by
 obtain⟨M,t,l,hsz,p,rj,dO⟩:=S;have Y:s.TypeIs (.ref a) "set":=⟨_,l,rfl⟩
 have kR:=bN l;refine JE Y F.slot_set_iter (lX F.slot_set_iter Y KN ?_ (F.args_set_iter_1 _));unfold Builtin.«frozenset.__iter__» Builtin.Frozenset.slot0 slotArgs Builtin.Frozenset.addrOf Builtin.Frozenset.sizeOf;refine aq (aG ?_);refine aq (aq (wpAny_setEntries_of l rfl p (aG ?_)));unfold setDrawn;refine aq (aq (t9 l rfl p ?_));unfold zK;refine aq (aq (ua (aG ?_)));refine aG ?_;have i:∀(first:ai) (u:am) (C:List ag) (n:Nat) (D:Nat->ai->Prop) (St:Nat->aD->Prop),u.heap.get? a=aa {cls:=.type "set",dict:=ae,data:=.set g M t} ->
   Hc P w s {u with heap:=u.heap.push (jn first 0 a g.size M)} a u.heap.objs.size g C n D St ->
   ar (ax P w) A.in1 (do
    let e <-setEpoch a
    let f <-newFields "set_iterator" [first,dq 0,Value.ref a,dq (g.size:Nat),dq (e:Nat)]
    ret f) (λi x=>∃v,i=Fin.done (Flow.ret v)/\∃Z r,x.TypeIs v Z/\typeLookup (Value.type Z) (tX "__next__")=pure (aa r)/\Q v x) E u:=λfirst u C n D St ha W=>by
  refine aq (wpAny_setEpoch_of ha rfl p ?_);refine aq (j1 ?_);exact aG ⟨_,rfl,"set_iterator",_,⟨_,cG _ rfl,rfl⟩,Fz.lookup,h _ _ C n D St W⟩
 refine zL (λK=>?_) (λK=>?_)
 .have H:(!eD w&&(!t.plain&&decide (g.size > 1)))=ah:=K;refine aq (FO g.size (dY g.size) s _ (by simp) λG d J=>?_);refine aq (wpAny_newTuple ?_ (hsz:=by rw[cz,J.length_eq,Jy];exact lO (Io ∅)));refine i _ _ _ _ _ _ (bK _ l) ⟨λO q=>Uz (T:=s.heap.objs.size) (cZ (by rw[jE];exact lr kR)) (cZ (by rw[jE];exact n4 _)) p J q,⟨cG _ rfl,?_,?_⟩,?_,?_,?_,rfl,?_,hsz,?_⟩
  .exact bK _ (bK _ l)
  .exact bK _ (cG _ rfl)
  .exact λb o e=>bK _ (bK _ e)
  .rw[jE];exact wb _
  .intro b c;simp only[bI,gX,or_false]at c;rw[jE,jE];rcases c with rfl|rfl|rfl
   .rw[jE];exact n4 _
   .exact lr (lr kR)
   .exact lr (n4 _)
  .intro N m;have e0:(G.filterMap λj=>(g[j]?).map (·.2))=(G.filterMap λj=>g[j]?).map (·.2):=by rw[List.map_filterMap]
   have y:(G.filterMap λj=>g[j]?).Perm g.toList:=by have:=J.filterMap λj=>g[j]?;rwa[filterMap_getElem?_range]at this
   rw[e0]at m;rw[yF (by rw[cz,y.length_eq];simp) m];exact y.map _
  .intro b c;simp only[bI,gX,or_false]at c;rcases c with rfl|rfl|rfl
   .rw[jE];exact .inr (wb _)
   .exact .inl rfl
   .exact .inr (bd _)
 .have H:¬(!eD w&&(!t.plain&&decide (g.size > 1)))=ah:=K;refine aq (aG ?_);cases c:eD w with
  |true=>
   refine i _ _ _ _ _ _ l ⟨λO q=>QH (cZ kR) p c q,⟨cG _ rfl,bK _ l⟩,λb o e=>bK _ e,bd _,?_,rfl,?_,hsz,λb c=>?_⟩
   .intro b c;simp only[bI,gX,or_false]at c;rw[jE];rcases c with rfl|rfl
    .exact n4 _
    .exact lr kR
   .intro N m;have y:=FK (w.params.setOrder a M) g;rw[yF (by rw[cz,y.length_eq];simp) m];exact y.map _
   .simp only[bI,gX,or_false]at c;exact c.elim (λz=>.inr (nY z.symm)) .inl
  |false=>
   have L:g.size=1\/g.size=0:=by
    by_cases X:g.size=0
    .exact .inr X
    .rw[c,dO X]at H;simp at H;lia
   rcases L with B|B
   .refine i _ _ _ _ _ _ l ⟨λO q=>LV (cZ kR) p c (by rw[rj,c];rfl) B q,⟨cG _ rfl,bK _ l⟩,λb o e=>bK _ e,bd _,?_,rfl,?_,by decide,λb c=>?_⟩
    .intro b c;simp only[bI,gX,or_false]at c;rw[jE];rcases c with rfl|rfl
     .exact n4 _
     .exact lr kR
    .intro N m;rw[yF (by simp[B]) m]
    .simp only[bI,gX,or_false]at c;exact c.elim (λz=>.inr (nY z.symm)) .inl
   .refine i _ _ _ _ _ _ l ⟨λO q=>Mo (cZ kR) p c B q,⟨cG _ rfl,bK _ l⟩,λb o e=>bK _ e,bd _,?_,rfl,?_,by decide,λb c=>?_⟩
    .intro b c;simp only[bI,gX,or_false]at c;rw[jE];rcases c with rfl|rfl
     .exact n4 _
     .exact lr kR
    .intro N m;rw[yF (by simp[B]) m]
    .simp only[bI,gX,or_false]at c;exact c.elim (λz=>.inr (nY z.symm)) .inl
theorem Lg{a:ag}{m:Array (Int×ai)}{Q:List ai->am->Prop}(J:A.handled=ae)(S:u6 w s.heap a m)(h:∀(d:am) (C:List ai),C.Perm (m.toList.map (·.2))->(∀b o,s.heap.get? b=aa o->d.heap.get? b=aa o)->d.gens=s.gens->d.os=s.os->Q C d):ar (ax P w) A (collect (.ref a)) Q E s:=by
 obtain⟨K,t,H,N,_⟩:=id S;have kR:=bN H;unfold collect;refine aq (wpAny_runValue (wl F.entry_proto_collect ?_));rw[zI F.plain_proto_collect _];show ar _ A.in1 (newList [] >>= λl=>again (.builtin "list.__iadd__" ⟨[l,.ref a],[]⟩)) _ _ s;refine aq (j1 ?_);refine aG ⟨CZ F.plain_list_iadd _,wl F.entry_list_iadd ?_⟩;rw[zI F.plain_list_iadd _];show ar _ A.in1 (Builtin.List.listExtendWith (.ref s.heap.objs.size) (.ref a) (.ref s.heap.objs.size)) _ _ _;unfold Builtin.List.listExtendWith;have j:∀u:am,u.heap.get? a=aa {cls:=.type "set",dict:=ae,data:=.set m K t}->u.TypeIs (.ref a) "set":=λu e=>⟨_,e,rfl⟩
 have D:(s.heap.push {cls:=.type "list",data:=.seq ([]:List ai).toArray}).get? a=aa {cls:=.type "set",dict:=ae,data:=.set m K t}:=bK _ H;refine aq (wpAny_typeOf (j _ D) ?_);have X:Builtin.List.listSameRef (.ref s.heap.objs.size) (.ref a)=aj:=by have:¬(s.heap.objs.size=a):=qO kR;simp[Builtin.List.listSameRef,this]
 rw[if_neg (by rw[X];decide)];refine aq (OH (S.at λo e=>bK _ e) λr I Y n Pv St W=>?_);have v:=W.old a _ D;refine aq (j0 ?_);unfold Builtin.List.listLengthHint;refine aq (wpAny_specialOf (j _ v) RI ?_)
 wp_delta
 refine aq (JF (T:="set") (b:=ah) (j _ v) (by rw[isSubtype_type];kernel_rfl) ?_);show ar _ A.in1 (typeOf (Value.ref a) >>= _) _ _ _;refine aq (wpAny_typeOf (T:="set") (j _ v) ?_);refine aG ?_;rw[if_pos (by decide)];refine aq (nZ ?_);have O:(s.heap.push {cls:=.type "list",data:=.seq ([]:List ai).toArray}).get? s.heap.objs.size=aa {cls:=.type "list",data:=.seq ([]:List ai).toArray}:=cG _ rfl;have i:=W.old _ _ O;unfold Builtin.List.listTouch;refine aq (aq (C3 i rfl ?_ (by decide) (by show 1<=bh+1;decide)));have g:=get?_update_seq i (λa:Array ai=>a.push Value.none);refine C3 g rfl ?_ (by show 1<=bh;decide) (by show 0<=bh+1;decide);have B:=get?_update_seq g (λa:Array ai=>a.pop);have L:s.heap.objs.size∉Y:=λz=>by
  rcases W.fps _ z with q|q
  .exact absurd kR (by rw[<-q];exact fL _)
  .rw[jE]at q;exact absurd (n4 _) (Nat.not_lt.mpr q)
 have G:∀b o,b≠s.heap.objs.size->r.heap.get? b=aa o->(((r.heap.update s.heap.objs.size (kC λa=>a.push Value.none)).update s.heap.objs.size (kC λa=>a.pop))).get? b=aa o:=λb o f e=>by rw[JI _ _ _ _ f,JI _ _ _ _ f];exact e
 have Z:St 0 (((r.heap.update s.heap.objs.size (kC λa=>a.push Value.none)).update s.heap.objs.size (kC λa=>a.pop))):=(W.wk A.in1 J).frame 0 _ _ W.st λb f o e=>G b o (λz=>L (z ▸ f)) e;refine aG ⟨CZ F.plain_extend_loop _,codeAny_extend_loopS (W.wk A.in1 J).toS (lO (Io (by have:=W.len;lia))) _ L _ n 0 _ _ _ rfl (lY _) Z B (ItemsOf.nil _) λd c c' x y M=>?_⟩;show ar _ A (load s.heap.objs.size >>= _) _ _ d;refine aq (wpAny_load y ?_);refine aG (h d c.toList (W.ord c M) (λb o e=>?_) ?_ ?_)
 .have p:=bN e;refine x.heap b o (λf=>?_) (G b o (cZ p) (W.old b o (bK _ e)));rcases bI.mp f with z|z
  .exact absurd p (by rw[z];exact fL _)
  .rw[jF.mp z]at p;have:=W.new;rw[jE]at this;exact absurd p (Nat.not_lt.mpr (Nat.le_of_succ_le this))
 .rw[x.gens,W.rest]
 .rw[x.os,W.rest]
theorem O6{a:ag}{ks:List Str}{Q:List ai->am->Prop}(p:A.handled=ae)(S:lh P w s.heap a ks)(h:∀(c:am) (d:List ai) (ss:List Str),eh d ss->ss.Perm ks->d.length<4090->(∀b o,s.heap.get? b=aa o->c.heap.get? b=aa o)->c.gens=s.gens->c.os=s.os->Q d c):ar (ax P w) A (collect (.ref a)) Q E s:=by
 obtain⟨r,ss,S,q,n⟩:=S.e;have m:r.size<4090:=by obtain⟨_,_,_,z,_⟩:=S;exact z
 refine Lg p S λc d pv l j i=>?_;obtain⟨u,g,f⟩:=AL pv q;exact h c d u g (f.trans n) (by have:=pv.length_eq;simp at this;lia) l j i
end
def gB(a:List Tx):List Tx:=a.foldl (λks x=>if x∈ks then ks else ks++[x]) []
theorem ET(b:List Tx):met (λi=>(b.map tS).getD i lS) b.length=(gB b).map tS:=by
 have d:∀(l:List Tx) (a:List Tx),(l.map tS).foldl ko (a.map tS)=(l.foldl (λks x=>if x∈ks then ks else ks++[x]) a).map tS:=by
  intro l
  induction l with
  |nil=>intro a;rfl
  |cons x r g=>
   intro a;rw[cn,jf,jf];have:ko (a.map tS) (tS x)=(if x∈a then a else a++[x]).map tS:=by
    unfold ko;have f:tS x∈a.map tS↔x∈a:=by rw[cS];exact⟨λζ=>by obtain⟨y,j,e⟩:=ζ;rw[<-sB e];exact j,λh=>⟨x,h,rfl⟩⟩
    by_cases h:x∈a
    .rw[if_pos h,if_pos (f.mpr h)]
    .rw[if_neg h,if_neg (λz=>h (f.mp z)),zF];rfl
   rw[this,g]
 have e:(dY b.length).map (λi=>(b.map tS).getD i lS)=b.map tS:=by
  refine q8 λi=>?_;rw[eR];by_cases c:i<b.length
  .rw[List.getElem?_range c];simp[c]
  .rw[n5 (by simpa using c),n5 (by simpa using c)];rfl
 unfold met;rw[e];exact d b []
theorem GY(l c:List Tx):(c.Nodup->(l.foldl (λks x=>if x∈ks then ks else ks++[x]) c).Nodup)/\∀x,x∈l.foldl (λks x=>if x∈ks then ks else ks++[x]) c↔x∈c\/x∈l:=by
 induction l generalizing c with
 |nil=>exact⟨λh=>h,λx=>by simp⟩
 |cons y r g=>
  rw[jf];obtain⟨m,j⟩:=g (if y∈c then c else c++[y]);refine⟨λh=>m ?_,λx=>?_⟩
  .split
   .exact h
   .rename_i d;rw[C4];exact⟨h,by simp,λa i b f=>by simp at f;subst f;exact λe=>d (e ▸ i)⟩
  .rw[j x,bI];split
   .rename_i d;constructor
    .rintro(h|h)
     .exact .inl h
     .exact .inr (.inr h)
    .rintro(h|rfl|h)
     .exact .inl h
     .exact .inl d
     .exact .inr h
   .rw[kB,jF,or_assoc]
theorem T9(l:List Tx):(gB l).Nodup:=(GY l []).1 List.nodup_nil
theorem yi(l:List Tx)(x:Tx):x∈gB l↔x∈l:=by rw[gB,(GY l []).2 x];simp
theorem Ru(l:List Tx):(gB l).length<=l.length:=by
 have b:∀(l a:List Tx),(l.foldl (λks x=>if x∈ks then ks else ks++[x]) a).length<=a.length+l.length:=by
  intro l
  induction l with
  |nil=>intro a;simp
  |cons x r c=>intro a;rw[jf];refine c0 (c _) ?_;split <;> simp <;> lia
 simpa[gB]using b l []
section
variable{X:Cx}
def p9(X:Cx)(a:ag)(b:List Tx):HO:=.ext λh=>lh X.prog X.w h a (b.map tS)
theorem NT(z:X.calm=ah):eU X (.type "set") (λxs H Q=>∃(p:ag) (c:List Tx),xs=[.ref p]/\cy X.K H p (cL c)/\(gB c).length<4000/\∀a,H a=ae->Q (.ref a) (upd H a (p9 X a (gB c)))):=by
 intro L s B H xs C Q I r h;obtain⟨p,c,rfl,x,f,q⟩:=h;obtain⟨u,rfl,l⟩:=vals1 r;cases l;obtain⟨d,g,v,E⟩:=I.list x;have y:=g.length;rw[y0]at y;refine O7 (P:=X.prog) (w:=X.w) (I.ok.hd z) v.isList (by simpa using Ae g) (by rw[cH,show d.length=c.length by lia,ET,cz];exact f) λA j S k=>?_;have i:lh X.prog X.w A s.heap.objs.size ((gB c).map tS):=by
  have e:d.toArray.size=c.length:=by rw[cH];lia
  rw[e,ET]at S;exact S
 refine⟨.ref s.heap.objs.size,_,I.laid (t':=j) (o:=p9 X s.heap.objs.size (gB c)) (λb o e=>k b o (bN e) e) (bd _) ?_,rfl,q _ I.fresh⟩;obtain⟨J,K,t,D,e,_⟩:=i.ex;exact⟨i,⟨_,e⟩,λG F n m=>n.at m⟩
end
structure cC(K:ay)(mg:Str->Option ai)(x:Str)(st:ba):Prop where
 ex:∃f fd,mg x=aa (.ref f)/\qg K x x st f fd
theorem Hq{H:Hp}{p:ag}{o:HO}(h:H p=ae):Same H (upd H p o):=λb u q=>by rw[bj (ni q h)];exact q
theorem yP{a:Type}{xs:List a}{k:Int}(b:0<=k)(h:k.toNat<xs.length):fj xs k=aa xs[k.toNat]:=by
 have e:((k.toNat:Nat):Int)=k:=∅
 have q:=RN (xs:=xs) (j:=k.toNat) (v:=xs[k.toNat]) (by simp[h]);rwa[e]at q
def FE(N:List Str)(d a:d7)(x:Str)(c:List Str)(b:List Nat):Bool :=
 decide (a.kind=.function)&&a.names.all (λy=>(decide (y.2≠.cell)||decide (a.names.lookup y.1=aa .cell))&&(decide (y.2≠.local)||decide (a.names.lookup y.1=aa .local))&&(decide (y.2≠.free)||decide (d.names.lookup y.1=aa .cell)||decide (d.names.lookup y.1=aa .free)))
 && (decide (a.names.lookup x=aa .local)||decide (a.names.lookup x=aa .cell))&&decide c.Nodup&&decide (c.head?=aa x)&&decide (c.length=b.length+1)&&(b.zip c.tail).all λp=>(decide (N[p.1]?=aa p.2)&&decide (a.names.lookup p.2=aa .free))||(decide (N.length<=p.1)&&decide (a.names.lookup p.2=aa .local))
theorem jq.of{X:Cx}{a:d7}{x:Str}{N':List Str}{cap:List Nat}(N:List Str)(f:d7)(l:X.N=N)(c:X.env.scope=f)(h:FE N f a x N' cap=ah):jq X a x N' cap:=by
 subst l c;simp only[FE,gG,decide_eq_true_eq,lZ,CV]at h;obtain⟨⟨⟨⟨⟨⟨r,d⟩,q⟩,p⟩,o⟩,n⟩,m⟩:=h;refine⟨r,λy b e=>(d y b).1.1.elim (λz=>absurd e z) λz=>z,λy b e=>?_,q,λy b e=>?_,p,o,n,λi j y u s=>?_⟩
 .rcases(d y b).1.2 with z|z
  .exact absurd e z
  .exact z
 .rcases(d y b).2 with(z|z)|z
  .exact absurd e z
  .exact .inl z
  .exact .inr z
 .have g:(j,y)∈cap.zip N'.tail:=by
   refine List.mem_iff_getElem?.mpr ⟨i,?_⟩;rw[List.getElem?_zip_eq_some];refine⟨s,?_⟩;rw[<-List.drop_one,C5,zC];exact u
  exact m _ g
theorem T7(a b:Tx):eX (tV a) (tV b)=decide (a=b):=by show(tS a == tS b)=_;rw[lQ];simp only[beq_iff_eq,decide_eq_true_eq];exact⟨sB,λh=>by rw[h]⟩
end L2
namespace Pu
open L2
abbrev St:=L2.St
inductive PV where
 |non|bl (b:Bool)|int (i:Int)|str (x:Tx)|tup (xs:List PV)|lst (xs:List PV)|raw (v:V)|exc (c:ai)
def jo(a:ag)(c:ai):HO:=.ext λh=>∃o b,h.get? a=aa o/\o.cls=c/\o.data=.fields b/\o.dict=ae
def bo:Nat:=1000000
theorem mE:bo<=bh:=by rw[lR];decide
def cU:HO->Prop
 |.lst _=>True
 |.dK _=>True
 |.dT _=>True
 |.ins _ _ _=>True
 |.own _=>True
 |_=>False
mutual
def aU(K:ay)(H:Hp)(F:ag->Prop):PV->V->Prop
 |.non,v=>v=.non
 |.bl b,v=>v=.bl b
 |.int i,v=>v=.int i
 |.str x,v=>v=tV x/\x.length<=bo
 |.tup xs,v=>∃a d,v=.ref a/\H a=aa (.tup d)/\Reps K H F xs d
 |.lst xs,v=>∃a d,v=.ref a/\Rd H a (.lst d)/\F a/\Reps K H F xs d
 |.raw u,v=>v=u
 |.exc c,v=>∃a,v=.ref a/\H a=aa (jo a c)
def Reps(K:ay)(H:Hp)(F:ag->Prop):List PV->List V->Prop
 |[],a=>a=[]
 |x::xs,a=>∃v r,a=v::r/\aU K H F x v/\Reps K H F xs r
end
section
variable{K:ay}{H H':Hp}{F b:ag->Prop}
mutual
theorem aU.mono(g:∀a,F a->b a)(f:∀a xs,F a->Rd H a (.lst xs)->Rd H' a (.lst xs))(d:∀a o,H a=aa o->¬cU o->H' a=aa o):∀(x:PV) (v:V),aU K H F x v->aU K H' b x v
 |.non,_,h=>h
 |.bl _,_,h=>h
 |.int _,_,h=>h
 |.str _,_,h=>h
 |.raw _,_,h=>h
 |.exc _,_,⟨a,e,h⟩=>⟨a,e,d a _ h id⟩
 |.tup xs,_,⟨a,c,e,j,i⟩=>⟨a,c,e,d a _ j id,Reps.mono g f d xs c i⟩
 |.lst xs,_,⟨a,c,e,j,l,i⟩=>⟨a,c,e,f a c l j,g a l,Reps.mono g f d xs c i⟩
theorem Reps.mono(g:∀a,F a->b a)(f:∀a xs,F a->Rd H a (.lst xs)->Rd H' a (.lst xs))(d:∀a o,H a=aa o->¬cU o->H' a=aa o):∀(xs:List PV) (c:List V),Reps K H F xs c->Reps K H' b xs c
 |[],_,h=>h
 |x::xs,_,⟨v,r,e,j,i⟩=>⟨v,r,e,aU.mono g f d x v j,Reps.mono g f d xs r i⟩
end
theorem Reps.len:∀{xs:List PV}{a:List V},Reps K H F xs a->a.length=xs.length
 |[],_,h=>by rw[show _=[] from h];rfl
 |_::_,_,⟨_,_,e,_,b⟩=>by rw[e,eG,eG,Reps.len b]
theorem Reps.get:∀{xs:List PV}{c:List V}{i:Nat}{x:PV},Reps K H F xs c->xs[i]?=aa x->∃v,c[i]?=aa v/\aU K H F x v
 |[],_,_,_,_,e=>by simp at e
 |x::xs,_,0,y,⟨v,r,e,h1,_⟩,q=>by simp at q;subst q;subst e;exact⟨v,rfl,h1⟩
 |x::xs,_,i+1,y,⟨v,r,e,_,h2⟩,q=>by obtain⟨w,a,b⟩:=Reps.get (i:=i) (x:=y) h2 (by simpa using q);subst e;exact⟨w,by simpa using a,b⟩
theorem Reps.back:∀{xs:List PV}{c:List V}{i:Nat}{v:V},Reps K H F xs c->c[i]?=aa v->∃x,xs[i]?=aa x/\aU K H F x v
 |[],_,_,_,h,e=>by rw[show _=[] from h]at e;simp at e
 |x::xs,_,0,y,⟨v,r,e,h1,_⟩,q=>by subst e;simp at q;subst q;exact⟨x,rfl,h1⟩
 |x::xs,_,i+1,y,⟨v,r,e,_,h2⟩,q=>by subst e;obtain⟨w,a,b⟩:=Reps.back (i:=i) (v:=y) h2 (by simpa using q);exact⟨w,by simpa using a,b⟩
theorem Reps.app:∀{xs a:List PV}{c b:List V},Reps K H F xs c->Reps K H F a b->Reps K H F (xs++a) (c++b)
 |[],_,_,_,h,g=>by rw[show _=[] from h];exact g
 |x::xs,_,_,_,⟨v,r,e,f,d⟩,g=>by subst e;exact⟨v,_,rfl,f,Reps.app d g⟩
theorem Reps.one{x:PV}{v:V}(h:aU K H F x v):Reps K H F [x] [v]:=⟨v,[],rfl,h,rfl⟩
theorem Reps.drop:∀(n:Nat) {xs:List PV}{a:List V},Reps K H F xs a->Reps K H F (xs.drop n) (a.drop n)
 |0,_,_,h=>h
 |_+1,[],_,h=>by rw[show _=[] from h];rfl
 |n+1,_::_,_,⟨_,_,e,_,h2⟩=>by subst e;exact Reps.drop n h2
theorem Reps.take:∀(n:Nat) {xs:List PV}{a:List V},Reps K H F xs a->Reps K H F (xs.take n) (a.take n)
 |0,_,_,_=>by rw[C6,C6];rfl
 |_+1,[],_,h=>by rw[show _=[] from h];rfl
 |n+1,_::_,_,⟨v,_,e,h1,h2⟩=>by subst e;exact⟨v,_,rfl,h1,Reps.take n h2⟩
theorem Reps.set{x:PV}{v:V}(b:aU K H F x v):∀(n:Nat) {xs:List PV}{a:List V},Reps K H F xs a->Reps K H F (xs.set n x) (a.set n v)
 |_,[],_,h=>by rw[show _=[] from h];rfl
 |0,_::_,_,⟨_,r,e,_,h2⟩=>by subst e;exact⟨v,r,rfl,b,h2⟩
 |n+1,_::_,_,⟨w,_,e,h1,h2⟩=>by subst e;exact⟨w,_,rfl,h1,Reps.set b n h2⟩
end
structure bp(O O' F F':ag->Prop)(H H':Hp):Prop where
 fro:∀a,F a->F' a
 keep:∀b o,H b=aa o->¬O b->H' b=aa o
 there:∀b o,H b=aa o->∃o',H' b=aa o'
 fnew:∀a,F' a->F a\/H a=ae\/O a
 onew:∀a,O' a->O a\/H a=ae
theorem bp.refl(O F:ag->Prop)(H:Hp):bp O O F F H H:=⟨λ_ h=>h,λ_ _ h _=>h,λ_ o h=>⟨o,h⟩,λ_ h=>.inl h,λ_ h=>.inl h⟩
theorem bp.trans{O i f F m l:ag->Prop}{H d j:Hp}(g:bp O i F m H d)(k:bp i f m l d j):bp O f F l H j where
 fro:=λa h=>k.fro a (g.fro a h)
 keep:=λb o h n=>k.keep b o (g.keep b o h n) λz=>(g.onew b z).elim n λq=>by rw[q]at h;cases h
 there:=λb o h=>let ⟨o',c⟩:=g.there b o h;k.there b o' c
 fnew:=λa h=>by
  have back:d a=ae->H a=ae\/O a:=λz=>by
   cases q:H a with
   |none=>exact .inl rfl
   |some o=>obtain⟨o',c⟩:=g.there a o q;rw[z]at c;cases c
  rcases k.fnew a h with z|z|z
  .exact g.fnew a z
  .exact .inr (back z)
  .exact .inr ((g.onew a z).symm)
 onew:=λa h=>by
  rcases k.onew a h with z|z
  .exact g.onew a z
  .cases q:H a with
   |none=>exact .inr rfl
   |some o=>obtain⟨o',c⟩:=g.there a o q;rw[z]at c;cases c
def Fit(O F:ag->Prop)(H:Hp):Prop:=∀b,O b->¬F b/\∃o,H b=aa o/\cU o
section
variable{K:ay}{O c F b:ag->Prop}{H H':Hp}
theorem bp.imm(g:bp O c F b H H')(f:Fit O F H){a:ag}{o:HO}(h:H a=aa o)(n:¬cU o):H' a=aa o :=
 g.keep _ _ h λz=>by
  obtain⟨_,j,d,i⟩:=f a z;rw[h]at d;cases d;exact n i
theorem bp.lst(g:bp O c F b H H')(f:Fit O F H){a:ag}{xs:List V}(d:F a)(h:Rd H a (.lst xs)):Rd H' a (.lst xs):=by
 have no:¬O a:=λz=>(f a z).1 d;rcases h with h|⟨o,h⟩
 .exact .inl (g.keep _ _ h no)
 .exact .inr ⟨o,g.keep _ _ h no⟩
theorem aU.grow(g:bp O c F b H H')(f:Fit O F H){x:PV}{v:V}(h:aU K H F x v):aU K H' b x v:=aU.mono g.fro (λ_ _ a q=>g.lst f a q) (λ_ _ q n=>g.imm f q n) x v h
theorem Reps.grow(g:bp O c F b H H')(f:Fit O F H){x:List PV}{v:List V}(h:Reps K H F x v):Reps K H' b x v:=Reps.mono g.fro (λ_ _ a q=>g.lst f a q) (λ_ _ q n=>g.imm f q n) x v h
end
theorem _root_.L2.Same.rd{H b:Hp}{a:ag}{u:HO}(e:Same H b)(h:Rd H a u):Rd b a u:=h.elim (λz=>.inl (e _ _ z)) λ⟨o,z⟩=>.inr ⟨o,e _ _ z⟩
structure Al(F F':ag->Prop)(H H':Hp):Prop where
 fro:∀a,F a->F' a
 same:Same H H'
 fnew:∀a,F' a->F a\/(H a=ae/\∃o,H' a=aa o)
theorem Al.refl(F:ag->Prop)(H:Hp):Al F F H H:=⟨λ_ h=>h,Same.refl H,λ_ h=>.inl h⟩
theorem Al.grow{F d O:ag->Prop}{H c:Hp}(a:Al F d H c):bp O O F d H c :=⟨a.fro,λb o h _=>a.same b o h,λb o h=>⟨o,a.same b o h⟩,λb h=>(a.fnew b h).imp id λz=>.inl z.1,λ_ h=>.inl h⟩
theorem Al.rep{K:ay}{F c:ag->Prop}{H b:Hp}(a:Al F c H b){x:PV}{v:V}(h:aU K H F x v):aU K b c x v:=aU.mono a.fro (λ_ _ _ q=>a.same.rd q) (λ_ _ q _=>a.same _ _ q) x v h
theorem Al.reps{K:ay}{F c:ag->Prop}{H b:Hp}(a:Al F c H b){x:List PV}{v:List V}(h:Reps K H F x v):Reps K b c x v:=Reps.mono a.fro (λ_ _ _ q=>a.same.rd q) (λ_ _ q _=>a.same _ _ q) x v h
theorem Al.trans{F i g:ag->Prop}{H f d:Hp}(a:Al F i H f)(b:Al i g f d):Al F g H d :=
 ⟨λc h=>b.fro c (a.fro c h),a.same.trans b.same,λc h=>by
  rcases b.fnew c h with z|⟨z,w⟩
  .rcases a.fnew c z with y|⟨y,o,q⟩
   .exact .inl y
   .exact .inr ⟨y,o,b.same _ _ q⟩
  .exact .inr ⟨a.same.free z,w⟩⟩
theorem Al.new{F:ag->Prop}{H:Hp}{l:ag}{o:HO}(h:H l=ae):Al F (λa=>F a\/a=l) H (upd H l o) :=⟨λ_ h=>.inl h,Hq h,λa z=>z.imp id λe=>by subst e;exact⟨h,o,upd_same⟩⟩
theorem Al.new0{F:ag->Prop}{H:Hp}{l:ag}{o:HO}(h:H l=ae):Al F F H (upd H l o):=⟨λ_ h=>h,Hq h,λa z=>.inl z⟩
inductive PO where
 |lst (xs:List PV)|dK (kvs:List (aF×PV))|lls (j5:List (List PV))|ins (C:ag) (fs:List (Str×PV))|dT (kvs:List (List aF×PV))|inl (C:ag) (fs:List (Str×PV)) (y:Str) (xs:List PV)
def ge:PO->Bool
 |.lls _=>aj
 |.inl ..=>aj
 |_=>ah
inductive Slot where
 |none|val (v:PV)|own (o:PO)
abbrev ak:=List Slot
def iu(K:ay)(H:Hp)(F:ag->Prop)(a:List (aF×PV))(b:List (aF×V)):Prop:=fY (λ(p:aF×PV) (q:aF×V)=>p.1=q.1/\aU K H F p.2 q.2) a b
def vb(K:ay)(H:Hp)(F:ag->Prop)(fs:List (Str×PV))(a:List (Str×V)):Prop:=fY (λ(p:Str×PV) (q:Str×V)=>p.1=q.1/\aU K H F p.2 q.2) fs a
def jz(K:ay)(H:Hp)(F:ag->Prop)(a:List (List aF×PV))(b:List (List aF×V)):Prop:=fY (λ(p:List aF×PV) (q:List aF×V)=>p.1=q.1/\aU K H F p.2 q.2) a b
def zj(K:ay)(H:Hp)(F:ag->Prop)(c:List (List PV))(d:List ag):Prop:=fY (λ(xs:List PV) (b:ag)=>∃a,H b=aa (.lst a)/\Reps K H F xs a) c d
def eZ(K:ay)(H:Hp)(F:ag->Prop)(j:PO)(a:ag)(S:ag->Prop):Prop :=
 match j with
 |.lst xs=>(∃g,H a=aa (.lst g)/\Reps K H F xs g)/\∀b,S b↔b=a
 |.dK f=>(∃d,H a=aa (.dK d)/\iu K H F f d)/\∀b,S b↔b=a
 |.lls l=>∃h,H a=aa (.lst (h.map .ref))/\zj K H F l h/\h.Nodup/\a∉h/\∀b,S b↔b=a\/b∈h
 |.ins C fs=>(∃i d,H a=aa (.ins C i d)/\vb K H F fs d)/\∀b,S b↔b=a
 |.dT f=>(∃d,H a=aa (.dT d)/\jz K H F f d)/\∀b,S b↔b=a
 |.inl C fs y xs=>∃i d b g,H a=aa (.ins C i (d++[(y,.ref b)]))/\vb K H F fs d/\fs.lookup y=ae/\H b=aa (.lst g)/\Reps K H F xs g/\a≠b/\∀c,S c↔c=a\/c=b
structure aN(K:ay)(F:ag->Prop)(S:Nat->ag->Prop)(ε:ak)(σ:St)(H:Hp):Prop where
 len:ε.length=σ.length
 ex:∀a,F a->∃o,H a=aa o
 val:∀(i:Nat) (pv:PV),ε[i]?=aa (.val pv)->∃v,σ[i]?=aa (aa v)/\aU K H F pv v
 own:∀(i:Nat) (po:PO),ε[i]?=aa (.own po)->∃a,σ[i]?=aa (aa (.ref a))/\eZ K H F po a (S i)
 foot:∀(i:Nat) (b:ag),S i b->(∃po,ε[i]?=aa (.own po))/\¬F b/\∃o,H b=aa o/\cU o
 dist:∀(i j:Nat) (b:ag),S i b->S j b->i=j
def U(S:Nat->ag->Prop)(b:ag):Prop:=∃i,S i b
section
variable{K:ay}{F d:ag->Prop}{S:Nat->ag->Prop}{g:ak}{f:St}{H H':Hp}
theorem aN.fit(r:aN K F S g f H):Fit (U S) F H:=λb ⟨i,h⟩=>(r.foot i b h).2
theorem iu.mono{a:List (aF×PV)}{b:List (aF×V)}(i:∀x v,aU K H F x v->aU K H' d x v)(h:iu K H F a b):iu K H' d a b:=by
 unfold iu at h ⊢
 induction h with
 |nil=>exact .nil
 |cons r _ c=>exact .cons ⟨r.1,i _ _ r.2⟩ c
theorem vb.mono{fs:List (Str×PV)}{a:List (Str×V)}(c:∀x v,aU K H F x v->aU K H' d x v)(h:vb K H F fs a):vb K H' d fs a:=by
 unfold vb at h ⊢
 induction h with
 |nil=>exact .nil
 |cons r _ b=>exact .cons ⟨r.1,c _ _ r.2⟩ b
theorem jz.mono{a:List (List aF×PV)}{b:List (List aF×V)}(i:∀x v,aU K H F x v->aU K H' d x v)(h:jz K H F a b):jz K H' d a b:=by
 unfold jz at h ⊢
 induction h with
 |nil=>exact .nil
 |cons r _ c=>exact .cons ⟨r.1,i _ _ r.2⟩ c
theorem zj.mono{c:List (List PV)}{a:List ag}(j:∀x v,Reps K H F x v->Reps K H' d x v)(i:∀b o,b∈a->H b=aa o->H' b=aa o)(h:zj K H F c a):zj K H' d c a:=by
 unfold zj at h ⊢
 induction h with
 |nil=>exact .nil
 |cons r _ m=>obtain⟨l,q,p⟩:=r;exact .cons ⟨l,i _ _ (by simp) q,j _ _ p⟩ (m λb o n=>i b o (by simp[n]))
theorem eZ.mono{po:PO}{a:ag}{Sa:ag->Prop}(j:∀x v,aU K H F x v->aU K H' d x v)(l:∀x v,Reps K H F x v->Reps K H' d x v)(c:∀b o,Sa b->H b=aa o->H' b=aa o)(h:eZ K H F po a Sa):eZ K H' d po a Sa:=by
 cases po with
 |lst xs=>obtain⟨⟨m,e,q⟩,w⟩:=h;exact⟨⟨m,c a _ ((w a).mpr rfl) e,l _ _ q⟩,w⟩
 |dK p=>obtain⟨⟨i,e,q⟩,w⟩:=h;exact⟨⟨i,c a _ ((w a).mpr rfl) e,q.mono j⟩,w⟩
 |lls G=>obtain⟨E,e,q,A,z,w⟩:=h;exact⟨E,c a _ ((w a).mpr (.inl rfl)) e,q.mono l λb o B=>c b o ((w b).mpr (.inr B)),A,z,w⟩
 |ins C fs=>obtain⟨⟨r,i,e,q⟩,w⟩:=h;exact⟨⟨r,i,c a _ ((w a).mpr rfl) e,q.mono j⟩,w⟩
 |dT p=>obtain⟨⟨i,e,q⟩,w⟩:=h;exact⟨⟨i,c a _ ((w a).mpr rfl) e,q.mono j⟩,w⟩
 |inl C fs y xs=>obtain⟨r,i,b,m,e,q,n,D,s,u,w⟩:=h;exact⟨r,i,b,m,c a _ ((w a).mpr (.inl rfl)) e,q.mono j,n,c b _ ((w b).mpr (.inr rfl)) D,l _ _ s,u,w⟩
theorem aN.al(r:aN K F S g f H)(a:Al F d H H'):aN K d S g f H' where
 len:=r.len
 ex:=λb h=>(a.fnew b h).elim (λz=>let ⟨o,q⟩:=r.ex b z;⟨o,a.same _ _ q⟩) λz=>z.2
 val:=λi pv e=>let ⟨v,l,j⟩:=r.val i pv e;⟨v,l,a.rep j⟩
 own:=λi n e=>let ⟨b,l,j⟩:=r.own i n e;⟨b,l,j.mono (λ_ _ q=>a.rep q) (λ_ _ q=>a.reps q) λc o _ q=>a.same _ _ q⟩
 foot:=λi b h=>by
  obtain⟨l,j,o,m,p⟩:=r.foot i b h;refine⟨l,λz=>?_,o,a.same _ _ m,p⟩;rcases a.fnew b z with y|⟨y,_⟩
  .exact j y
  .rw[m]at y;cases y
 dist:=r.dist
end
inductive R(α:Type) where
 |ok (a:α) (ε:ak)|er (c:ai) (ε:ak)|no
def R.bind{d b:Type}(r:R d)(k:d->ak->R b):R b:=match r with
 |.ok a ε=>k a ε
 |.er c ε=>.er c ε
 |.no=>.no
def aQ{b:Type}(o:Option b)(ε:ak):R b:=match o with
 |some a=>.ok a ε
 |none=>.no
@[simp] theorem R.bind_ok{b c:Type}(a:b)(ε:ak)(k:b->ak->R c):(R.ok a ε).bind k=k a ε:=rfl
@[simp] theorem R.bind_er{b d:Type}(c:ai)(a:ak)(k:b->ak->R d):(R.er c a:R b).bind k=.er c a:=rfl
@[simp] theorem R.bind_no{a b:Type}(k:a->ak->R b):(R.no:R a).bind k=.no:=rfl
@[simp] theorem b7{c:Type}(a:c)(b:ak):aQ (aa a) b=.ok a b:=rfl
@[simp] theorem Vn{b:Type}(a:ak):aQ (ae:Option b) a=.no:=rfl
def Ok(K:ay)(E:XK)(h:St)(F:ag->Prop)(S:Nat->ag->Prop)(H:Hp){i:Type}(r:R i)(C:i->ak->(ag->Prop)->(Nat->ag->Prop)->Hp->Prop):Prop:=match r with
 |.ok a b=>∀g f d,aN K g f b h d->bp (U S) (U f) F g H d->C a b g f d
 |.er c b=>∀x g f d,aN K g f b h d->bp (U S) (U f) F g H d->E c x d
 |.no=>False
section
variable{K:ay}{E:XK}{b:St}{F:ag->Prop}{S:Nat->ag->Prop}{H:Hp}{d i:Type}{C C':d->ak->(ag->Prop)->(Nat->ag->Prop)->Hp->Prop}{D:i->ak->(ag->Prop)->(Nat->ag->Prop)->Hp->Prop}
theorem Ok.imp{r:R d}(h:Ok K E b F S H r C)(f:∀a j n l m,aN K n l j b m->bp (U S) (U l) F n H m->C a j n l m->C' a j n l m):Ok K E b F S H r C':=by
 cases r with
 |ok a j=>exact λn l m r g=>f a j n l m r g (h n l m r g)
 |er c j=>exact h
 |no=>exact h
theorem Ok.from{r:R i}{q:ag->Prop}{o:Nat->ag->Prop}{p:Hp}(h:Ok K E b F S H r D)(g:bp (U S) (U o) F q H p):Ok K E b q o p r D:=by
 cases r with
 |ok a f=>exact λn l m j g'=>h n l m j (g.trans g')
 |er c f=>exact λx n l m j g'=>h x n l m j (g.trans g')
 |no=>exact h
theorem Ok.bind{r:R d}{k:d->ak->R i}(h:Ok K E b F S H (r.bind k) D):Ok K E b F S H r (λa ε1 m j l=>Ok K E b m j l (k a ε1) D):=by
 cases r with
 |ok a f=>exact λp n o r g=>Ok.from h g
 |er c f=>exact h
 |no=>exact h
end
structure Bx(p:Prop):Prop where
 run:p
def ig(X:Cx)(e:aB):TE:=λa H Q=>Bx (∀b s,Inv X b a H s->ar (ax X.prog X.w) X.A (a6 e X.env) (EP X b a Q) X.xe s)
def Am(X:Cx)(e:aB):TT:=λa H Q=>Bx (∀b s,Inv X b a H s->ar (ax X.prog X.w) X.A (nP e X.env (a6 e X.env)) (TP X b a Q) X.xe s)
def wpS(X:Cx)(c:ba):TS:=λD b H=>Bx (∀a s,Inv X a b H s->ar (ax X.prog X.w) X.A (exec c X.env) (SP X a D) X.xe s)
def oO(X:Cx)(c:List ba):TS:=λD b H=>Bx (∀a s,Inv X a b H s->ar (ax X.prog X.w) X.A (execs c X.env) (SP X a D) X.xe s)
section
variable{X:Cx}{e:aB}{b:ba}{a:List ba}
theorem bT:PE X e (ig X e):=λc s _ _ _ I h=>h.run c s I
theorem ny:PT X e (Am X e):=λc s _ _ _ I h=>h.run c s I
theorem FG:PS X b (wpS X b):=λc s _ _ _ I h=>h.run c s I
theorem qD:lf X a (oO X a):=λc s _ _ _ I h=>h.run c s I
theorem b9{t:TE}(h:PE X e t){c:St}{H:Hp}{Q:VK}(q:t c H Q):ig X e c H Q:=⟨λd s I=>h d s c H Q I q⟩
theorem vO{t:TT}(h:PT X e t){c:St}{H:Hp}{Q:Bool->Hp->Prop}(q:t c H Q):Am X e c H Q:=⟨λd s I=>h d s c H Q I q⟩
theorem gC{t:TS}(h:PS X b t){c:St}{H:Hp}{D:kX}(q:t D c H):wpS X b D c H:=⟨λd s I=>h d s c H D I q⟩
theorem BV{t:TS}(h:lf X a t){c:St}{H:Hp}{D:kX}(q:t D c H):oO X a D c H:=⟨λd s I=>h d s c H D I q⟩
end
def DE(X:Cx)(E:XK)(e:aB)(d:ak->R PV):Prop :=
 ∀F S b a H Q,aN X.K F S b a H->Ok X.K E a F S H (d b) (λpv _ f _ c=>∀v,aU X.K c f pv v->Q v c)->ig X e a H Q
def DN(X:Cx)(E:XK)(e:aB)(d:ak->R PO):Prop :=
 ∀F S g c H Q,aN X.K F S g c H->Ok X.K E c F S H (d g) (λj _ i l f=>∀a h,eZ X.K f i j a h->(∀b,h b->H b=ae/\¬i b/\¬U l b/\∃o,f b=aa o/\cU o)->Q (.ref a) f)->ig X e c H Q
def DT(X:Cx)(E:XK)(e:aB)(d:ak->R Bool):Prop :=
 ∀F S c a H Q,aN X.K F S c a H->Ok X.K E a F S H (d c) (λb _ _ _ f=>Q b f)->Am X e a H Q
end Pu
namespace Pu
open L2
section
variable{X:Cx}{E:XK}{a b c:aB}{m db A:ak->R PV}{pos:Pos}
def dC(pv:PV):ak->R PV:=λε=>.ok pv ε
theorem aM{i j pos}:DE X E (.Constant (.int i) j pos) (dC (.int i)):=λF S f d H Q r h=>b9 TX (h F S H r (bp.refl ..) _ rfl)
theorem kj{i j pos}:DE X E (.Constant (.bool i) j pos) (dC (.bl i)):=λF S f d H Q r h=>b9 Qo (h F S H r (bp.refl ..) _ rfl)
theorem Ai{j pos}:DE X E (.Constant .none j pos) (dC .non):=λF S f d H Q r h=>b9 QK (h F S H r (bp.refl ..) _ rfl)
theorem cD(l:Tx){x:Str}{j pos}(d:x=tS l:=by decide +kernel)(f:l.length<=bo:=by decide):DE X E (.Constant (.str x) j pos) (dC (.str l)):=λF S i g H Q r h=>b9 O5 (h F S H r (bp.refl ..) _ (by rw[d];exact⟨rfl,f⟩))
def dV(i:Nat):ak->R PV:=λε=>match ε[i]? with
 |some (.val pv)=>.ok pv ε
 |_=>.no
theorem aw(i:Nat){x:Str}{pos:Pos}(g:X.N[i]?=aa x:=by rfl)(d:ez X.env.scope x:=by first|exact Or.inl rfl|exact Or.inr (Or.inl rfl)|exact Or.inr (Or.inr rfl))(f:(x==("__debug__":Str))=aj:=by decide)(n:(x==("__classdict__":Str))=aj:=by decide):DE X E (.Name x pos) (dV i):=λF S q o H Q r h=>by
 unfold dV at h;split at h
 .rename_i p e;obtain⟨v,l,j⟩:=r.val i p e;exact b9 (fI g d f n) ⟨v,l,h F S H r (bp.refl ..) v j⟩
 .exact h.elim
theorem B_{x:Str}{i:Int}{pos:Pos}(h:∃t,X.mg x=aa (.int i t))(d:Gl X x:=by rfl)(f:(x==("__debug__":Str))=aj:=by decide):DE X E (.Name x pos) (dC (.int i)):=λF S j g H Q r q=>by obtain⟨t,e⟩:=h;exact b9 (Bw (v:=.int i) d e ⟨t,rfl⟩ f) (q F S H r (bp.refl ..) _ rfl)
theorem qF{x:Str}{l:Tx}{pos:Pos}(h:∃t,X.mg x=aa (.str (tS l) t))(f:Gl X x:=by rfl)(d:l.length<=bo:=by decide)(g:(x==("__debug__":Str))=aj:=by decide):DE X E (.Name x pos) (dC (.str l)):=λF S j i H Q r q=>by obtain⟨t,e⟩:=h;exact b9 (Bw (v:=tV l) f e ⟨t,rfl⟩ g) (q F S H r (bp.refl ..) _ ⟨rfl,d⟩)
def aN.frz{K:ay}{F:ag->Prop}{S:Nat->ag->Prop}{p:ak}{s:St}{H:Hp}{i:Nat}{xs:List PV}(r:aN K F S p s H)(e:p[i]?=aa (.own (.lst xs))):∃a w I,aN K w I (p.set i (.val (.lst xs))) s H/\bp (U S) (U I) F w H H/\s[i]?=aa (aa (.ref a))/\aU K H w (.lst xs) (.ref a):=by
 obtain⟨a,G,⟨J,C,L⟩,D⟩:=r.own i _ e;have B:i<p.length:=(cM.mp e).1;have g:∀b,F b->F b\/b=a:=λb h=>.inl h;have mono:∀x v,aU K H F x v->aU K H (λb=>F b\/b=a) x v:=aU.mono g (λ_ _ _ q=>q) (λ_ _ q _=>q);have d:∀x v,Reps K H F x v->Reps K H (λb=>F b\/b=a) x v:=Reps.mono g (λ_ _ _ q=>q) (λ_ _ q _=>q);have y:aU K H (λb=>F b\/b=a) (.lst xs) (.ref a):=⟨a,J,rfl,.inl C,.inr rfl,d _ _ L⟩
 refine⟨a,λb=>F b\/b=a,λj b=>S j b/\j≠i,⟨by rw[gn];exact r.len,λb h=>?_,λj pv q=>?_,λj po q=>?_,λj b h=>?_,λj k b N M=>r.dist j k b N.1 M.1⟩,?_,G,y⟩
 .rcases h with h|rfl
  .exact r.ex b h
  .exact⟨_,C⟩
 .by_cases f:i=j
  .subst f;rw[fM B]at q;cases q;exact⟨_,G,y⟩
  .rw[d8 f]at q;obtain⟨v,n,l⟩:=r.val j pv q;exact⟨v,n,mono _ _ l⟩
 .by_cases f:i=j
  .subst f;rw[fM B]at q;cases q
  .rw[d8 f]at q;obtain⟨v,n,l⟩:=r.own j po q;refine⟨v,n,?_⟩;have u:=l.mono (H':=H) mono d λ_ _ _ z=>z;have O:(λb=>S j b/\j≠i)=S j:=by funext b;simp[dN f]
   rw[O];exact u
 .obtain⟨⟨po,n⟩,l,u⟩:=r.foot j b h.1;refine⟨⟨po,by rw[d8 (dN h.2)];exact n⟩,λz=>?_,u⟩;rcases z with z|rfl
  .exact l z
  .exact h.2 (r.dist j i b h.1 ((D b).mpr rfl))
 .refine⟨λ_ h=>.inl h,λb o h _=>h,λb o h=>⟨o,h⟩,λb h=>?_,λb ⟨j,h⟩=>.inl ⟨j,h.1⟩⟩;rcases h with h|rfl
  .exact .inl h
  .exact .inr (.inr ⟨i,(D b).mpr rfl⟩)
def dM(i:Nat):ak->R PV:=λd=>match d[i]? with
 |some (.own (.lst xs))=>.ok (.lst xs) (d.set i (.val (.lst xs)))
 |_=>.no
theorem Ug(i:Nat){x:Str}{pos:Pos}(l:X.N[i]?=aa x:=by rfl)(f:ez X.env.scope x:=by first|exact Or.inl rfl|exact Or.inr (Or.inl rfl)|exact Or.inr (Or.inr rfl))(j:(x==("__debug__":Str))=aj:=by decide)(q:(x==("__classdict__":Str))=aj:=by decide):DE X E (.Name x pos) (dM i):=λF S w v H Q r h=>by
 unfold dM at h;split at h
 .rename_i p e;obtain⟨a,u,s,d,g,o,n⟩:=r.frz e;exact b9 (fI l f j q) ⟨_,o,h u s H d g _ n⟩
 .exact h.elim
def P2(K:ay)(r:R2)(f:PV->PV->Option PV):Prop:=∀(F:ag->Prop) (H:Hp) (x y:PV) (v u:V) (Q:VK) (pv:PV),aU K H F x v->aU K H F y u->f x y=aa pv->(∀w g d,Al F g H d->aU K d g pv w->Q w d)->r v u H Q
def d2(f:PV->PV->Option PV)(m db:ak->R PV):ak->R PV:=λε=>(m ε).bind λx ε1=>(db ε1).bind λy d=>aQ (f x y) d
theorem za{r:R2}{f:PV->PV->Option PV}(I:P2 X.K r f)(K:DE X E a m)(J:DE X E b db){F:ag->Prop}{S:Nat->ag->Prop}{l:ak}{d:St}{H:Hp}{Q:VK}(D:aN X.K F S l d H)(h:Ok X.K E d F S H (d2 f m db l) (λpv _ q _ i=>∀v,aU X.K i q pv v->Q v i)):ig X a d H λx p=>ig X b d p λy o=>r x y o Q:=by
 refine K F S l d H _ D ((Ok.bind h).imp λx j T O p s W L v B=>?_);refine J T O j d p _ s ((Ok.bind L).imp λy z P N o G M g u C=>?_);cases e:f x y with
 |none=>rw[e]at g;exact g.elim
 |some pv=>rw[e]at g;exact I P o x y v u Q pv (B.grow M s.fit) C e λw q i al n=>g q N i (G.al al) al.grow w n
theorem cr{d:Operator}{r:R2}{f:PV->PV->Option PV}(j:bX X (iy d) r)(i:P2 X.K r f)(n:DE X E a m)(l:DE X E b db):DE X E (.BinOp a d b pos) (d2 f m db):=λF S p o H Q g h=>b9 (Kt j bT bT) (za i n l g h)
theorem tu{d:CmpOp}{r:R2}{f:PV->PV->Option PV}(j:bX X (eE d) r)(i:P2 X.K r f)(o:DE X E a m)(n:DE X E b db)(l:qN d b=aj):DE X E (.Compare a [d] [b] pos) (d2 f m db):=λF S q p H Q g h=>b9 (RS j bT bT l) (za i o n g h)
def mw:PV->Option Bool
 |.bl b=>aa b
 |_=>ae
def dB(d:ak->R PV):ak->R Bool:=λε=>(d ε).bind λx ε1=>aQ (mw x) ε1
theorem Ix{K:ay}{H:Hp}{F:ag->Prop}{x:PV}{v:V}{k:Bool}(h:aU K H F x v)(e:mw x=aa k):v=.bl k:=by
 cases x <;> simp[mw]at e;subst e;exact h
theorem uJ{F:ag->Prop}{S:Nat->ag->Prop}{j:ak}{i:St}{H:Hp}{Q:Bool->Hp->Prop}{d:ak->R PV}(h:Ok X.K E i F S H (dB d j) (λk _ _ _ g=>Q k g)):Ok X.K E i F S H (d j) (λpv _ s _ g=>∀v,aU X.K g s pv v->∃k,v=.bl k/\Q k g):=by
 refine(Ok.bind h).imp λx l r p q o u f v n=>?_;cases e:mw x with
 |none=>rw[e]at f;exact f.elim
 |some k=>rw[e]at f;exact⟨k,Ix n e,f r p q o (bp.refl ..)⟩
theorem gb{d:CmpOp}{r:R2}{f:PV->PV->Option PV}(j:bX X (eE d) r)(i:P2 X.K r f)(o:DE X E a m)(n:DE X E b db)(l:qN d b=aj):DT X E (.Compare a [d] [b] pos) (dB (d2 f m db)):=λF S s q H Q g h=>vO (NR j bT bT l) (za (Q:=λx p=>∃k,x=.bl k/\Q k p) i o n g (uJ h))
theorem qJ{e:aB}{d:ak->R PV}(n:DE X E e d)(l:∀f,nP e X.env f=(do let v <-f;standAt e.pos;nQ [v] (truthy v)):=by intro _;rfl):DT X E e (dB d):=λF S i g H Q j h=>vO (R8 bT l) (n F S i g H _ j (uJ h))
def nr(f g:PV->PV->Option PV)(m db A:ak->R PV):ak->R PV:=λj=>(m j).bind λx i=>(db i).bind λy d=>(aQ ((f x y).bind mw) d).bind λk d=>
 match k with
 |true=>(A d).bind λz h=>aQ (g y z) h
 |false=>.ok (.bl aj) d
theorem Ih{r O:R2}{f g:PV->PV->Option PV}(hp:P2 X.K r f)(eI:P2 X.K O g)(ha:DE X E a m)(hb:DE X E b db)(hc:DE X E c A){F:ag->Prop}{S:Nat->ag->Prop}{B:ak}{j:St}{H:Hp}{Q:VK}(rl:aN X.K F S B j H)(h:Ok X.K E j F S H (nr f g m db A B) (λpv _ l _ i=>∀v,aU X.K i l pv v->Q v i)):Az r O (ig X a) (ig X b) (ig X c) j H Q:=by
 refine ha F S B j H _ rl ((Ok.bind h).imp λx s F1 S1 H1 N g1 h1 v rv=>?_);refine hb F1 S1 s j H1 _ N ((Ok.bind h1).imp λy n T L P r2 g2 d u M=>?_);cases e:f x y with
 |none=>rw[e]at d;exact d.elim
 |some pv=>
  rw[e]at d;refine hp T P x y v u _ pv (rv.grow g2 N.fit) M e λw l i al D=>?_;cases K:mw pv with
  |none=>rw[iR,K]at d;exact d.elim
  |some k=>
   rw[iR,K]at d;refine⟨k,Ix D K,?_⟩;have I:=r2.al al;cases k with
   |false=>exact ng (Ok.from d al.grow l L i I (bp.refl ..) _ rfl)
   |true=>
    have h3:Ok X.K E j T L P ((A n).bind λz q=>aQ (g y z) q) (λpv _ l _ i=>∀v,aU X.K i l pv v->Q v i):=d;refine nA (hc l L n j i _ I ((Ok.bind (Ok.from h3 al.grow)).imp λz W F4 S4 H4 r4 g4 p Z G=>?_));cases J:g y z with
    |none=>rw[J]at p;exact p.elim
    |some pz=>rw[J]at p;exact eI F4 H4 y z u Z Q pz ((al.rep M).grow g4 I.fit) G J λY F5 H5 o C=>p F5 S4 H5 (r4.al o) o.grow Y C
theorem T5{i d:CmpOp}{r j:R2}{f g:PV->PV->Option PV}(o:bX X (eE i) r)(v:bX X (eE d) j)(n:P2 X.K r f)(w:P2 X.K j g)(u:DE X E a m)(s:DE X E b db)(q:DE X E c A)(p:lastMarks [i,d] [b,c]=aj:=by with_unfolding_all rfl):DE X E (.Compare a [i,d] [b,c] pos) (nr f g m db A):=λF S y x H Q l h=>b9 (QE o v bT bT bT p) (Ih n w u s q l h)
theorem Ma{i d:CmpOp}{r j:R2}{f g:PV->PV->Option PV}(o:bX X (eE i) r)(v:bX X (eE d) j)(n:P2 X.K r f)(w:P2 X.K j g)(u:DE X E a m)(s:DE X E b db)(q:DE X E c A)(p:lastMarks [i,d] [b,c]=aj:=by with_unfolding_all rfl):DT X E (.Compare a [i,d] [b,c] pos) (dB (nr f g m db A)):=λF S B z H Q l h=>vO (Rg o v bT bT bT p) (Ih (Q:=λx y=>∃k,x=.bl k/\Q k y) n w u s q l (uJ h))
variable{n B:ak->R Bool}{rest:List aB}
def DW(X:Cx)(E:XK)(e:aB)(d:ak->R Bool):Prop:=∀F S g f H Q,aN X.K F S g f H->Ok X.K E f F S H (d g) (λb _ _ _ i=>Q b i)->∀(h:Sem ai) af s,Inv X af f H s->ar (ax X.prog X.w) X.A (nP e X.env h) (TP X af f Q) X.xe s
def M0(X:Cx)(e:aB):TT:=λd H Q=>∀(f:Sem ai) af s,Inv X af d H s->ar (ax X.prog X.w) X.A (nP e X.env f) (TP X af d Q) X.xe s
theorem Ij{e:aB}:PW X e (M0 X e):=λd f s _ _ _ I h=>h d f s I
theorem DW.dt{e:aB}{d:ak->R Bool}(h:DW X E e d):DT X E e d:=λF S ε f H Q g q=>⟨λi s I=>h F S ε f H Q g q _ i s I⟩
def mZ(n B:ak->R Bool):ak->R Bool:=λε=>(n ε).bind λk d=>match k with
 |true=>B d
 |false=>.ok aj d
def j_(n B:ak->R Bool):ak->R Bool:=λε=>(n ε).bind λk d=>match k with
 |true=>.ok ah d
 |false=>B d
def kb(n:ak->R Bool):ak->R Bool:=λf=>(n f).bind λk d=>.ok (!k) d
theorem K4(h:DT X E a n):DW X E (.BoolOp .And [a] pos) n:=λF S f d H Q g q i j s I=>Qn ny i j s d H Q I (h F S f d H Q g q)
theorem uP(h:DT X E a n):DW X E (.BoolOp .Or [a] pos) n:=λF S f d H Q g q i j s I=>OI ny i j s d H Q I (h F S f d H Q g q)
theorem Of(u:DT X E a n)(r:DW X E (.BoolOp .And (b::rest) pos) B):DW X E (.BoolOp .And (a::b::rest) pos) (mZ n B):=λF S o d H Q p q v w s I=>by
 refine Ox ny Ij v w s d H Q I (u F S o d H _ p ((Ok.bind q).imp λk f l i j g x h=>?_));cases k with
 |true=>exact nA (r l i f d j Q g h)
 |false=>exact ng (h l i j g (bp.refl ..))
theorem uT(u:DT X E a n)(r:DW X E (.BoolOp .Or (b::rest) pos) B):DW X E (.BoolOp .Or (a::b::rest) pos) (j_ n B):=λF S o d H Q p q v w s I=>by
 refine QD ny Ij v w s d H Q I (u F S o d H _ p ((Ok.bind q).imp λk f l i j g x h=>?_));cases k with
 |true=>exact nA (h l i j g (bp.refl ..))
 |false=>exact ng (r l i f d j Q g h)
theorem oH(j:DT X E a n):DT X E (.UnaryOp .Not a pos) (kb n):=λF S g d H Q h q=>vO (MA ny) (j F S g d H _ h ((Ok.bind q).imp λk f r o p i s l=>l r o p i (bp.refl ..)))
def lB(m db:ak->R PV):ak->R PV:=λf=>(dB m f).bind λk d=>match k with
 |true=>db d
 |false=>.ok (.bl aj) d
def yG(m db:ak->R PV):ak->R PV:=λf=>(dB m f).bind λk d=>match k with
 |true=>.ok (.bl ah) d
 |false=>db d
def tw(m:ak->R PV):ak->R PV:=λf=>(dB m f).bind λk d=>.ok (.bl (!k)) d
theorem Ii{d:ak->R PV}{q:Type}{D:q->ak->(ag->Prop)->(Nat->ag->Prop)->Hp->Prop}{k:Bool->ak->R q}{F:ag->Prop}{S:Nat->ag->Prop}{p:ak}{o:St}{H:Hp}{P:Bool->Hp->Prop}(h:Ok X.K E o F S H ((dB d p).bind k) D) (f:∀c g l j i,aN X.K l j g o i->bp (U S) (U j) F l H i->Ok X.K E o l j i (k c g) D->P c i):Ok X.K E o F S H (d p) (λpv _ y _ r=>∀v,aU X.K r y pv v->∃c,v=.bl c/\P c r):=by have u:=(Ok.bind h).imp (C':=λc g l j i=>P c i) λc g l j i s x w=>f c g l j i s x w;exact uJ u
theorem uz{op}{d:ak->R PV}(h:DE X E a d):DE X E (.BoolOp op [a] pos) d:=λF S g f H Q i q=>b9 (NG bT) (h F S g f H Q i q)
theorem sW(s:DE X E a m)(r:DE X E (.BoolOp .And (b::rest) pos) db):DE X E (.BoolOp .And (a::b::rest) pos) (lB m db):=λF S o f H Q p q=>by
 refine b9 (KM bT bT) (s F S o f H _ p (Ii q λk d l i j g u h=>?_));cases k with
 |true=>exact nA (r l i d f j Q g h)
 |false=>exact ng (h l i j g (bp.refl ..) _ rfl)
theorem R3(j:DE X E a m):DE X E (.UnaryOp .Not a pos) (tw m):=λF S g d H Q h q=>b9 (Sy bT) (j F S g d H _ h (Ii q λk f r o p i s l=>l r o p i (bp.refl ..) _ rfl))
def cc{d:Type}(t:ak->R Bool)(m db:ak->R d):ak->R d:=λε=>(t ε).bind λk ε1=>match k with
 |true=>m ε1
 |false=>db ε1
theorem Hb(r:DT X E c n)(u:DE X E a m)(s:DE X E b db):DE X E (.IfExp c a b pos) (cc n m db):=λF S o f H Q p q=>by
 refine b9 (OB ny bT bT) (r F S o f H _ p ((Ok.bind q).imp λk d l i j g v h=>?_));cases k with
 |true=>exact nA (u l i d f j Q g h)
 |false=>exact ng (s l i d f j Q g h)
def P1(K:ay)(r:V->Hp->VK->Prop)(f:PV->Option PV):Prop:=∀(F:ag->Prop) (H:Hp) (x:PV) (v:V) (Q:VK) (pv:PV),aU K H F x v->f x=aa pv->(∀w g d,Al F g H d->aU K d g pv w->Q w d)->r v H Q
def d1(f:PV->Option PV)(m:ak->R PV):ak->R PV:=λε=>(m ε).bind λx ε1=>aQ (f x) ε1
theorem QT{r:V->Hp->VK->Prop}{f:PV->Option PV}(z:P1 X.K r f)(C:DE X E a m){F:ag->Prop}{S:Nat->ag->Prop}{j:ak}{d:St}{H:Hp}{Q:VK}(u:aN X.K F S j d H)(h:Ok X.K E d F S H (d1 f m j) (λpv _ p _ i=>∀v,aU X.K i p pv v->Q v i)):ig X a d H λx o=>r x o Q:=by
 refine C F S j d H _ u ((Ok.bind h).imp λx q G D o y I g v s=>?_);cases e:f x with
 |none=>rw[e]at g;exact g.elim
 |some pv=>rw[e]at g;exact z G o x v Q pv s e λw p i al l=>g p D i (y.al al) al.grow w l
theorem oS{d:UnaryOp}{r:V->Hp->VK->Prop}{f:PV->Option PV}(j:zp X (unaryOp d) r)(i:P1 X.K r f)(l:DE X E a m):DE X E (.UnaryOp d a pos) (d1 f m):=λF S p o H Q g h=>b9 (Sn j bT) (QT i l g h)
end
def p8(X:Cx)(d:List aB):TA:=λb H Q=>Bx (∀a c s,Inv X c b H s->ar (ax X.prog X.w) X.A (spliced (c7 a (aR d X.env))) (AP X c b Q) X.xe s)
def DA(X:Cx)(E:XK)(h:List aB)(d:ak->R (List PV)):Prop :=
 ∀F S c a H Q,aN X.K F S c a H->Ok X.K E a F S H (d c) (λb _ i _ g=>∀f,Reps X.K g i b f->Q f g)->p8 X h a H Q
section
variable{X:Cx}{E:XK}{a b c e:aB}{j:List aB}{D db G d:ak->R PV}{m:ak->R (List PV)}{pos:Pos}
theorem im{j:List aB}:PA X j (p8 X j):=λpos f s _ _ _ I h=>h.run pos f s I
theorem qe{t:TA}(h:PA X j t){f:St}{H:Hp}{Q:List V->Hp->Prop}(q:t f H Q):p8 X j f H Q:=⟨λpos g s I=>h pos g s f H Q I q⟩
def aC:ak->R (List PV):=λε=>.ok [] ε
def ap(d:ak->R PV)(m:ak->R (List PV)):ak->R (List PV):=λε=>(d ε).bind λx ε1=>(m ε1).bind λxs f=>.ok (x::xs) f
theorem aI:DA X E [] aC:=λF S i g H Q f h=>qe ki (h F S H f (bp.refl ..) _ rfl)
theorem O3(y:DE X E e d)(w:DA X E j m)(u:aR (e::j) X.env=(aj,a6 e X.env)::aR j X.env:=by rfl):DA X E (e::j) (ap d m):=λF S n g H Q q h=>by refine qe (i4 bT im u) (y F S n g H _ q ((Ok.bind h).imp λx f M I K i N A v p=>?_));refine w M I f g K _ i ((Ok.bind A).imp λxs l L C J r B z o s=>?_);exact z L C J r (bp.refl ..) _ ⟨v,o,rfl,p.grow B i.fit,s⟩
theorem aN.more{K:ay}{F N:ag->Prop}{S:Nat->ag->Prop}{p:ak}{n:St}{H:Hp}(r:aN K F S p n H)(s:∀b,N b->¬U S b/\∃o,H b=aa o):aN K (λb=>F b\/N b) S p n H:=by
 have mono:∀x v,aU K H F x v->aU K H (λb=>F b\/N b) x v:=aU.mono (λ_ h=>.inl h) (λ_ _ _ q=>q) (λ_ _ q _=>q);have f:∀x v,Reps K H F x v->Reps K H (λb=>F b\/N b) x v:=Reps.mono (λ_ h=>.inl h) (λ_ _ _ q=>q) (λ_ _ q _=>q);refine⟨r.len,λb h=>h.elim (r.ex b) λz=>(s b z).2,λi pv e=>?_,λi u e=>?_,λi b h=>?_,r.dist⟩
 .obtain⟨v,l,g⟩:=r.val i pv e;exact⟨v,l,mono _ _ g⟩
 .obtain⟨v,l,g⟩:=r.own i u e;exact⟨v,l,g.mono mono f λ_ _ _ z=>z⟩
 .obtain⟨l,g,y⟩:=r.foot i b h;exact⟨l,λz=>z.elim g λw=>(s b w).1 ⟨i,h⟩,y⟩
def uW:PO->Option PV
 |.lst xs=>aa (.lst xs)
 |_=>ae
def dF(d:ak->R PO):ak->R PV:=λε=>(d ε).bind λf ε1=>aQ (uW f) ε1
theorem DN.de{d:ak->R PO}(h:DN X E e d):DE X E e (dF d):=λF S ε s H Q x q=>by
 unfold dF at q;refine h F S ε s H Q x ?_;cases i:d ε with
 |no=>rw[i]at q;exact q.elim
 |er c u=>rw[i]at q;exact q
 |ok B ε1=>
  rw[i]at q;intro O l n A f a r I p;cases B with
  |dK g=>exact q.elim
  |lls P=>exact q.elim
  |ins C fs=>exact q.elim
  |dT g=>exact q.elim
  |inl C fs y xs=>exact q.elim
  |lst xs=>
   have M:∀b,r b->¬U l b/\∃o,n b=aa o:=λb z=>let ⟨_,_,x3,o,x4,_⟩:=p b z;⟨x3,o,x4⟩
   obtain⟨⟨v,K,J⟩,L⟩:=I;have N:bp (U S) (U l) F (λb=>O b\/r b) H n:=⟨λb z=>.inl (f.fro b z),f.keep,f.there,λb z=>z.elim (f.fnew b) λw=>.inr (.inl (p b w).1),f.onew⟩
   exact q _ l n (A.more M) N _ ⟨a,v,rfl,.inl K,.inr ((L a).mpr rfl),Reps.mono (λ_ z=>.inl z) (λ_ _ _ z=>z) (λ_ _ z _=>z) _ _ J⟩
def br(xs:List PV):Option PV:=if xs.length<=1000 then aa (.tup xs)else ae
def dE(xs:List PV):Option PO:=if xs.length<=1000 then aa (.lst xs)else ae
def dL{g:Type}(f:List PV->Option g)(m:ak->R (List PV)):ak->R g:=λε=>(m ε).bind λxs ε1=>aQ (f xs) ε1
def PL(K:ay)(r:List V->Hp->VK->Prop)(f:List PV->Option PV):Prop:=∀(F:ag->Prop) (H:Hp) (xs:List PV) (h:List V) (Q:VK) (pv:PV),Reps K H F xs h->f xs=aa pv->(∀w i g,Al F i H g->aU K g i pv w->Q w g)->r h H Q
def nc(K:ay)(r:List V->Hp->VK->Prop)(f:List PV->Option PO):Prop:=∀(F:ag->Prop) (H:Hp) (xs:List PV) (i:List V) (Q:VK) (l:PO),(∀a,F a->∃o,H a=aa o)->Reps K H F xs i->f xs=aa l ->
 (∀a h g n,Al F h H g->eZ K g h l a n->(∀b,n b->H b=ae/\¬h b/\∃o,g b=aa o/\cU o)->Q (.ref a) g)->r i H Q
theorem BF{r:List V->Hp->VK->Prop}{f:List PV->Option PV}(A:PL X.K r f)(B:DA X E j m){F:ag->Prop}{S:Nat->ag->Prop}{n:ak}{g:St}{H:Hp}{Q:VK}(x:aN X.K F S n g H)(h:Ok X.K E g F S H (dL f m n) (λpv _ q _ l=>∀v,aU X.K l q pv v->Q v l)):p8 X j g H λxs p=>r xs p Q:=by
 refine B F S n g H _ x ((Ok.bind h).imp λxs s I C p y J i u z=>?_);cases e:f xs with
 |none=>rw[e]at i;exact i.elim
 |some pv=>rw[e]at i;exact A I p xs u Q pv z e λw q l al o=>i q C l (y.al al) al.grow w o
theorem kM{O i F l:ag->Prop}{H f:Hp}(g:bp O i F l H f){b:ag}(h:f b=ae):H b=ae:=by
 cases q:H b with
 |none=>rfl
 |some o=>obtain⟨o',e⟩:=g.there b o q;rw[h]at e;cases e
theorem yu{r:List V->Hp->VK->Prop}{f:List PV->Option PO}(O:nc X.K r f)(P:DA X E j m){F:ag->Prop}{S:Nat->ag->Prop}{s:ak}{l:St}{H:Hp}{Q:VK}(L:aN X.K F S s l H)(h:Ok X.K E l F S H (dL f m s) (λv _ q Z g=>∀a p,eZ X.K g q v a p->(∀b,p b->H b=ae/\¬q b/\¬U Z b/\∃o,g b=aa o/\cU o)->Q (.ref a) g)):p8 X j l H λxs x=>r xs x Q:=by
 refine P F S s l H _ L ((Ok.bind h).imp λxs B F1 Y x u T n K N=>?_);cases e:f xs with
 |none=>rw[e]at n;exact n.elim
 |some v=>
  rw[e]at n;refine O F1 x xs K Q v u.ex N e λa q g p al M W=>n q Y g (u.al al) al.grow a p M λb z=>?_;obtain⟨y,J,o,I,C⟩:=W b z;refine⟨kM T y,J,λ⟨i,w⟩=>?_,o,I,C⟩;obtain⟨_,_,o',A,_⟩:=u.foot i b w;rw[y]at A;cases A
theorem A1{n:Nat}(h:n<=1000):n<=bh:=lO (HE h)
theorem N2{K:ay}:PL K (λxs H Q=>xs.length<=bh/\∀p,H p=ae->Q (.ref p) (upd H p (.tup xs))) br:=λF H xs h Q pv f e q=>by
 unfold br at e;split at e
 .cases e;refine⟨by rw[f.len];exact A1 (by assumption),λp g=>q _ F _ (Al.new0 g) ⟨p,h,rfl,upd_same,(Al.new0 g).reps f⟩⟩
 .cases e
theorem xW{K:ay}{F:ag->Prop}{H:Hp}{l:ag}{xs:List PV}{f:List V}(h:H l=ae)(g:Reps K H F xs f):eZ K (upd H l (.lst f)) F (.lst xs) l (λb=>b=l):=⟨⟨f,upd_same,(Al.new0 h).reps g⟩,λb=>l6⟩
theorem yt{F:ag->Prop}{H:Hp}{l:ag}{o:HO}(g:H l=ae)(i:∀a,F a->∃o,H a=aa o)(h:cU o):∀b,b=l->H b=ae/\¬F b/\∃f,(upd H l o) b=aa f/\cU f:=λb z=>by
 subst z;exact⟨g,(λw=>by obtain⟨o,q⟩:=i b w;rw[g]at q;cases q),o,upd_same,h⟩
theorem S6{K:ay}:nc K (λxs H Q=>xs.length<=bh/\∀p,H p=ae->Q (.ref p) (upd H p (.lst xs))) dE:=λF H xs i Q l h g e q=>by
 unfold dE at e;split at e
 .cases e;exact⟨by rw[g.len];exact A1 (by assumption),λp f=>q p F _ _ (Al.new0 f) (xW f g) (yt f h trivial)⟩
 .cases e
theorem b_{x1}(h:DA X E j m):DE X E (.Tuple j x1 pos) (dL br m):=λF S i g H Q f q=>b9 (Mp im) (BF N2 h f q)
theorem su(h:DA X E j m):DN X E (.List j pos) (dL dE m):=λF S i g H Q f q=>b9 (Tu im) (yu S6 h f q)
theorem jx(h:DA X E j m):DE X E (.List j pos) (dF (dL dE m)):=(su h).de
variable{x:Str}{p:Pos}{A T:String}{r:List V->Hp->VK->Prop}{f:List PV->Option PV}{B:List PV->Option PO}
theorem dz(v:eU X (.builtin A) r)(l:PL X.K r f)(o:X.mg x=ae)(i:fe x=aa (.builtin A))(w:DA X E (e::j) m)(s:Gl X x:=by rfl)(n:x≠"__name__":=by decide)(h:(x==("__debug__":Str))=aj:=by decide)(u:aR (e::j) X.env=(aj,a6 e X.env)::aR j X.env:=by rfl) (y:(c7 pos (aR j X.env)).any (·.1)=aj:=by rfl):DE X E (.Call (.Name x p) (e::j) [] pos) (dL f m):=λF S C z H Q g q=>b9 (nJ v s o i im n h u y) (BF l w g q)
theorem xF(v:eU X (.builtin A) r)(l:nc X.K r B)(o:X.mg x=ae)(i:fe x=aa (.builtin A))(w:DA X E (e::j) m)(s:Gl X x:=by rfl)(n:x≠"__name__":=by decide)(h:(x==("__debug__":Str))=aj:=by decide)(u:aR (e::j) X.env=(aj,a6 e X.env)::aR j X.env:=by rfl) (y:(c7 pos (aR j X.env)).any (·.1)=aj:=by rfl):DN X E (.Call (.Name x p) (e::j) [] pos) (dL B m):=λF S C z H Q g q=>b9 (nJ v s o i im n h u y) (yu l w g q)
theorem vV(v:eU X (.type T) r)(l:PL X.K r f)(o:X.mg x=ae)(i:fe x=aa (.type T))(w:DA X E (e::j) m)(s:Gl X x:=by rfl)(n:x≠"__name__":=by decide)(h:(x==("__debug__":Str))=aj:=by decide)(u:aR (e::j) X.env=(aj,a6 e X.env)::aR j X.env:=by rfl) (y:(c7 pos (aR j X.env)).any (·.1)=aj:=by rfl):DE X E (.Call (.Name x p) (e::j) [] pos) (dL f m):=λF S C z H Q g q=>b9 (BY v s o i im n h u y) (BF l w g q)
theorem Go(v:eU X (.type T) r)(l:nc X.K r B)(o:X.mg x=ae)(i:fe x=aa (.type T))(w:DA X E (e::j) m)(s:Gl X x:=by rfl)(n:x≠"__name__":=by decide)(h:(x==("__debug__":Str))=aj:=by decide)(u:aR (e::j) X.env=(aj,a6 e X.env)::aR j X.env:=by rfl) (y:(c7 pos (aR j X.env)).any (·.1)=aj:=by rfl):DN X E (.Call (.Name x p) (e::j) [] pos) (dL B m):=λF S C z H Q g q=>b9 (BY v s o i im n h u y) (yu l w g q)
theorem fi{r:R2}{f:PV->PV->Option PV}(l:mV X r)(n:P2 X.K r f)(q:DE X E a D)(o:DE X E b db)(i:Br b:=by exact λ_ _=>rfl):DE X E (.Subscript a b pos) (d2 f D db):=λF S u s H Q g h=>b9 (Op l bT bT i) (za n q o g h)
def BA(X:Cx)(e:Option aB):TO:=λg H Q=>Bx (∀h s,Inv X h g H s->ar (ax X.prog X.w) X.A (evalPart e X.env) (λu l=>∃o i,Inv X h g i l/\nV u o/\Q o i) X.xe s)
theorem Ep{o:Option aB}:L2.PO X o (BA X o):=λg s _ _ _ I h=>h.run g s I
theorem IG{o:Option aB}{t:TO}(h:L2.PO X o t){g:St}{H:Hp}{Q:Option Int->Hp->Prop}(q:t g H Q):BA X o g H Q:=⟨λi s I=>h i s g H Q I q⟩
def DO(X:Cx)(E:XK)(e:Option aB)(d:ak->R (Option Int)):Prop:=∀F S h g H Q,aN X.K F S h g H->Ok X.K E g F S H (d h) (λo _ _ _ i=>Q o i)->BA X e g H Q
def dv:ak->R (Option Int):=λε=>.ok ae ε
def lG:PV->Option Int
 |.int i=>aa i
 |_=>ae
def cI(d:ak->R PV):ak->R (Option Int):=λε=>(d ε).bind λx ε1=>aQ ((lG x).map aa) ε1
theorem kh:DO X E ae dv:=λF S l i H Q g h=>IG Od (h F S H g (bp.refl ..))
theorem jk(w:DE X E e d):DO X E (aa e) (cI d):=λF S o l H Q s h=>by
 refine IG (Qi bT) (w F S o l H _ s ((Ok.bind h).imp λx n C y z u I g v q=>?_));cases x <;> first|exact(show False from g).elim|skip
 rename_i i;exact⟨i,q,g C y z u (bp.refl ..)⟩
def cO{i:Type}(f:PV->Option Int->Option Int->Option i)(d:ak->R PV)(o n:ak->R (Option Int)):ak->R i:=λε=>(d ε).bind λx ε1=>(o ε1).bind λl h=>(n h).bind λu g=>aQ (f x l u) g
def GN(K:ay)(r:V->Option Int->Option Int->Hp->VK->Prop)(f:PV->Option Int->Option Int->Option PV):Prop:=∀(F:ag->Prop) (H:Hp) (x:PV) (h i:Option Int) (v:V) (Q:VK) (pv:PV),aU K H F x v->f x h i=aa pv->(∀w l g,Al F l H g->aU K g l pv w->Q w g)->r v h i H Q
theorem jU{r:V->Option Int->Option Int->Hp->VK->Prop}{f:PV->Option Int->Option Int->Option PV}{C I:Option aB}{K J:ak->R (Option Int)}{W:Pos}(Z:nq X r)(hp:GN X.K r f)(he:DE X E e d)(hl:DO X E C K)(Y:DO X E I J):DE X E (.Subscript e (.Slice C I ae W) pos) (cO f d K J):=λF S M i H Q O h=>by
 refine b9 (Pe Z bT Ep Ep) (he F S M i H _ O ((Ok.bind h).imp λx o F1 S1 H1 z g1 h1 v N=>?_));refine hl F1 S1 o i H1 _ z ((Ok.bind h1).imp λl n F2 S2 H2 y g2 h2=>?_);refine Y F2 S2 n i H2 _ y ((Ok.bind h2).imp λu L F3 S3 H3 P g3 g=>?_);cases s:f x l u with
 |none=>rw[s]at g;exact g.elim
 |some pv=>rw[s]at g;exact hp F3 H3 x l u v Q pv ((N.grow g2 z.fit).grow g3 y.fit) s λw F' H' al q=>g F' S3 H' (P.al al) al.grow w q
end
inductive aO where
 |next|ret (s:Slot)|brk|cont
def i6(K:ay)(H:Hp)(F:ag->Prop)(s:Slot)(v:V)(c:ag->Prop):Prop:=match s with
 |.val pv=>aU K H F pv v/\∀b,¬c b
 |.own d=>∃a,v=.ref a/\eZ K H F d a c
 |.none=>False
def iC(b:List Nat)(c a:St):Prop:=∀i∈b,a[i]?=c[i]?
theorem iC.refl(a:List Nat)(b:St):iC a b b:=λ_ _=>rfl
theorem iC.trans{c:List Nat}{g f d:St}(a:iC c g f)(b:iC c f d):iC c g d:=λi h=>(b i h).trans (a i h)
theorem iC.set{a:List Nat}{b:St}{i:Nat}{x:Option V}(h:i∉a):iC a b (b.set i x):=λj c=>by rw[d8 (by rintro rfl;exact h c)]
def vM(f:ag->Prop)(c:Nat->ag->Prop)(d:Hp)(a:ag->Prop):Prop:=∀b,a b->¬f b/\¬U c b/\∃o,d b=aa o/\cU o
def ir(K:ay)(E:XK)(i:List Nat)(j:St)(F:ag->Prop)(S:Nat->ag->Prop)(H:Hp)(r:R aO)(D:kX):Prop:=match r with
 |.ok .next f=>∀g h a d,aN K g h f a d->bp (U S) (U h) F g H d->iC i j a->D.nx a d
 |.ok .brk f=>∀g h a d,aN K g h f a d->bp (U S) (U h) F g H d->iC i j a->D.bk a d
 |.ok .cont f=>∀g h a d,aN K g h f a d->bp (U S) (U h) F g H d->iC i j a->D.ct a d
 |.ok (.ret s) f=>∀v g h a d l,aN K g h f a d->bp (U S) (λb=>U h b\/l b) F g H d->iC i j a->i6 K d g s v l->vM g h d l->D.rt v d
 |.er c f=>∀x g h a d,aN K g h f a d->bp (U S) (U h) F g H d->iC i j a->E c x d
 |.no=>False
def DS(X:Cx)(E:XK)(b:List Nat)(f:ba)(d:ak->R aO):Prop:=∀F S c a H D,aN X.K F S c a H->ir X.K E b a F S H (d c) D->wpS X f D a H
def gL(X:Cx)(E:XK)(b:List Nat)(f:List ba)(d:ak->R aO):Prop:=∀F S c a H D,aN X.K F S c a H->ir X.K E b a F S H (d c) D->oO X f D a H
section
variable{K:ay}{E:XK}{b:List Nat}{d i:St}{F m:ag->Prop}{S j:Nat->ag->Prop}{H l:Hp}{D:kX}
theorem ir.from{r:R aO}(h:ir K E b d F S H r D)(g:bp (U S) (U j) F m H l)(p:iC b d i):ir K E b i m j l r D:=by
 cases r with
 |no=>exact h
 |er c y=>exact λx w q a u n g' o=>h x w q a u n (g.trans g') (p.trans o)
 |ok f y=>
  cases f with
  |next=>exact λw q a u n g' o=>h w q a u n (g.trans g') (p.trans o)
  |brk=>exact λw q a u n g' o=>h w q a u n (g.trans g') (p.trans o)
  |cont=>exact λw q a u n g' o=>h w q a u n (g.trans g') (p.trans o)
  |ret s=>exact λv w q a u z n g' o=>h v w q a u z n (g.trans g') (p.trans o)
theorem ir.bindE{o:Type}{r:R o}{k:o->ak->R aO}(h:ir K E b d F S H (r.bind k) D):Ok K E d F S H r (λa f m j l=>ir K E b d m j l (k a f) D):=by
 cases r with
 |no=>exact h
 |er c g=>exact λx u q s p n=>h x u q d s p n (iC.refl _ _)
 |ok a g=>exact λu q s p n=>h.from n (iC.refl _ _)
end
section
variable{X:Cx}{E:XK}{pin:List Nat}{l:ba}{rest:List ba}{d d1 d2:ak->R aO}{e:aB}{de:ak->R PV}{pos:Pos}
def dX:ak->R aO:=λa=>.ok .next a
theorem ii:gL X E pin [] dX:=λF S c a H D b h=>BV L7 (h F S a H b (bp.refl ..) (iC.refl _ _))
def aK(d1 d2:ak->R aO):ak->R aO:=λε=>match d1 ε with
 |.ok .next ε1=>d2 ε1
 |r=>r
theorem bg(u:DS X E pin l d1)(q:gL X E pin rest d2):gL X E pin (l::rest) (aK d1 d2):=λF S i m H D n h=>by
 refine BV (K1 FG qD) (u F S i m H {D with nx:=oO X rest D} n ?_);unfold aK at h;split at h
 .rename_i g w;rw[w];exact λz x b y o v p=>q z x g b y D o (h.from v p)
 .rename_i r j;generalize d1 i=r1 at h j;cases r1 with
  |no=>exact h
  |er c a=>exact h
  |ok f a=>
   cases f with
   |next=>exact absurd rfl (j a)
   |brk=>exact h
   |cont=>exact h
   |ret s=>exact h
theorem bq(f:DS X E pin l d1):gL X E pin [l] d1:=λF S b a H D c h=>BV (L3 FG) (f F S b a H D c h)
def tJ(f:aO):ak->R aO:=λa=>.ok f a
def zb(d:ak->R PV):ak->R aO:=λb=>(d b).bind λ_ a=>.ok .next a
def cq(d:ak->R PV):ak->R aO:=λε=>(d ε).bind λx a=>.ok (.ret (.val x)) a
theorem bp.cup{O c F i:ag->Prop}{H f:Hp}(g:bp O c F i H f):bp O (λb=>c b\/False) F i H f:=⟨g.fro,g.keep,g.there,g.fnew,λa h=>h.elim (g.onew a) gm⟩
theorem dQ(j:DE X E e de):DS X E pin (.Return (aa e) pos) (cq de):=λF S c a H D g h=>gC (xL bT) (j F S c a H _ g (h.bindE.imp λx b p n o i q m v f=>m v p n a o (λ_=>False) i (bp.refl ..).cup (iC.refl _ _) ⟨f,λ_ z=>z⟩ λ_ z=>z.elim))
theorem Tw:DS X E pin (.Return ae pos) (tJ (.ret (.val .non))):=λF S c a H D b h=>gC Uh (h _ F S a H (λ_=>False) b (bp.refl ..).cup (iC.refl _ _) ⟨rfl,λ_ z=>z⟩ λ_ z=>z.elim)
def pY(d:ak->R PO):ak->R aO:=λε=>(d ε).bind λx ε1=>.ok (.ret (.own x)) ε1
theorem Gk{dn:ak->R PO}(u:DN X E e dn):DS X E pin (.Return (aa e) pos) (pY dn):=λF S j g H D p h=>by
 refine gC (xL bT) (u F S j g H _ p ?_);unfold pY at h;cases i:dn j with
 |no=>rw[i]at h;exact h.elim
 |er c o=>rw[i]at h;exact λx J B G r v=>h x J B g G r v (iC.refl _ _)
 |ok K n=>rw[i]at h;intro I A C q f a y s m;exact h _ I A g C y q ⟨f.fro,f.keep,f.there,f.fnew,λb z=>z.elim (f.onew b) λw=>.inr (m b w).1⟩ (iC.refl _ _) ⟨a,rfl,s⟩ λb z=>let ⟨_,x2,x3,x4⟩:=m b z;⟨x2,x3,x4⟩
def k7(i:Nat):ak->R aO:=λa=>match a[i]? with
 |some (.own b)=>.ok (.ret (.own b)) (a.set i .none)
 |_=>.no
theorem aN.drop{K:ay}{F:ag->Prop}{S:Nat->ag->Prop}{ε:ak}{m:St}{H:Hp}(r:aN K F S ε m H)(i:Nat):aN K F (λj b=>S j b/\j≠i) (ε.set i .none) m H:=by
 have no:∀{j s},(ε.set i .none)[j]?=aa s->s≠.none->j≠i/\ε[j]?=aa s:=λ{j s} e p=>by
  by_cases c:i=j
  .subst c;by_cases q:i<ε.length
   .rw[fM q]at e;exact absurd (cY e).symm p
   .rw[n5 (by rw[gn];lia)]at e;cases e
  .rw[d8 c]at e;exact⟨dN c,e⟩
 refine⟨by rw[gn];exact r.len,r.ex,λj pv e=>r.val j pv (no e (by intro z;cases z)).2,λj po e=>?_,λj b h=>?_,λj k b g f=>r.dist j k b g.1 f.1⟩
 .obtain⟨c,e⟩:=no e (by intro z;cases z);obtain⟨a,g,f⟩:=r.own j po e;have u:(λb=>S j b/\j≠i)=S j:=by funext b;simp[c]
  exact⟨a,g,by rw[u];exact f⟩
 .obtain⟨⟨po,o⟩,n⟩:=r.foot j b h.1;exact⟨⟨po,by rw[d8 (dN h.2)];exact o⟩,n⟩
theorem yH(i:Nat){x:Str}{p:Pos}(s:X.N[i]?=aa x:=by rfl)(n:ez X.env.scope x:=by first|exact Or.inl rfl|exact Or.inr (Or.inl rfl)|exact Or.inr (Or.inr rfl))(r:(x==("__debug__":Str))=aj:=by decide)(v:(x==("__classdict__":Str))=aj:=by decide):DS X E pin (.Return (aa (.Name x p)) pos) (k7 i):=λF S y f H D c h=>by
 unfold k7 at h;split at h
 .rename_i g e;obtain⟨a,u,m⟩:=c.own i g e;refine gC (xL (fI s n r v)) ⟨_,u,h _ F (λj b=>S j b/\j≠i) f H (S i) (c.drop i) ⟨λ_ z=>z,λ_ _ z _=>z,λ_ o z=>⟨o,z⟩,λ_ z=>.inl z,λb z=>?_⟩ (iC.refl _ _) ⟨a,rfl,m⟩ λb z=>?_⟩
  .rcases z with⟨j,z,_⟩|z
   .exact .inl ⟨j,z⟩
   .exact .inl ⟨i,z⟩
  .exact⟨(c.foot i b z).2.1,λ⟨j,w,q⟩=>q (c.dist j i b w z),(c.foot i b z).2.2⟩
 .exact h.elim
theorem aN.set{K:ay}{F:ag->Prop}{S:Nat->ag->Prop}{ε:ak}{g:St}{H:Hp}{i:Nat}{pv:PV}{v:V}(r:aN K F S ε g H)(h:aU K H F pv v):aN K F (λj b=>S j b/\j≠i) (ε.set i (.val pv)) (g.set i (aa v)) H:=by
 have o:=r.drop i;have len:(ε.set i (.val pv)).length=(g.set i (aa v)).length:=by rw[gn,gn];exact r.len
 refine⟨len,r.ex,λj p e=>?_,λj po e=>?_,λj b h=>?_,o.dist⟩
 .by_cases c:i=j
  .subst c;have f:i<ε.length:=by have:=(cM.mp e).1;rw[gn]at this;exact this
   rw[fM f]at e;cases e;exact⟨v,fM (by rw[<-r.len];exact f),h⟩
  .rw[d8 c]at e;obtain⟨w,n,m⟩:=r.val j p e;exact⟨w,by rw[d8 c];exact n,m⟩
 .have c:i≠j:=by
   rintro rfl;have f:i<ε.length:=by have:=(cM.mp e).1;rw[gn]at this;exact this
   rw[fM f]at e;cases e
  rw[d8 c]at e;obtain⟨a,n,m⟩:=r.own j po e;have u:(λb=>S j b/\j≠i)=S j:=by funext b;simp[dN c]
  exact⟨a,by rw[d8 c];exact n,by rw[u];exact m⟩
 .obtain⟨⟨po,q⟩,s⟩:=o.foot j b h;refine⟨⟨po,?_⟩,s⟩;rw[d8 (dN h.2)]at q ⊢;exact q
theorem bp.less{S:Nat->ag->Prop}{F:ag->Prop}{H:Hp}(i:Nat):bp (U S) (U λj b=>S j b/\j≠i) F F H H:=⟨λ_ z=>z,λ_ _ z _=>z,λ_ o z=>⟨o,z⟩,λ_ z=>.inl z,λb ⟨j,z⟩=>.inl ⟨j,z.1⟩⟩
theorem aN.setOwn{K:ay}{F:ag->Prop}{S:Nat->ag->Prop}{o:ak}{v:St}{H:Hp}{i:Nat}{q:PO}{a:ag}{Sa:ag->Prop}(r:aN K F S o v H)(n:i<o.length)(h:eZ K H F q a Sa)(s:vM F S H Sa):aN K F (λj b=>(S j b/\j≠i)\/(j=i/\Sa b)) (o.set i (.own q)) (v.set i (aa (.ref a))) H:=by
 have A:=r.drop i;refine⟨by rw[gn,gn];exact r.len,r.ex,λj p e=>?_,λj g e=>?_,λj b h=>?_,λj k b f c=>?_⟩
 .have m:i≠j:=by rintro rfl;rw[fM n]at e;cases e
  rw[d8 m]at e;obtain⟨w,f,c⟩:=r.val j p e;exact⟨w,by rw[d8 m];exact f,c⟩
 .by_cases m:i=j
  .subst m;rw[fM n]at e;cases e;have u:(λb=>(S i b/\i≠i)\/(i=i/\Sa b))=Sa:=by funext b;simp
   exact⟨a,fM (by rw[<-r.len];exact n),by rw[u];exact h⟩
  .rw[d8 m]at e;obtain⟨C,f,c⟩:=r.own j g e;have u:(λb=>(S j b/\j≠i)\/(j=i/\Sa b))=S j:=by funext b;simp[dN m]
   exact⟨C,by rw[d8 m];exact f,by rw[u];exact c⟩
 .rcases h with h|⟨rfl,h⟩
  .obtain⟨⟨g,x⟩,B⟩:=A.foot j b h;refine⟨⟨g,?_⟩,B⟩;rw[d8 (dN h.2)]at x ⊢;exact x
  .obtain⟨z,D,y⟩:=s b h;exact⟨⟨q,fM n⟩,z,y⟩
 .rcases f with f|⟨rfl,f⟩ <;> rcases c with c|⟨rfl,c⟩
  .exact r.dist j k b f.1 c.1
  .exact absurd ⟨j,f.1⟩ (s b c).2.1
  .exact absurd ⟨k,c.1⟩ (s b f).2.1
  .rfl
def bW(i:Nat)(d:ak->R PV):ak->R aO:=λa=>(d a).bind λx ε1=>.ok .next (ε1.set i (.val x))
theorem fG(i:Nat){x:Str}{p:Pos}(u:X.N.Nodup)(s:DE X E e de)(o:i∉pin:=by decide)(q:X.N[i]?=aa x:=by rfl)(m:Loc X.env.scope x:=by first|exact Or.inl rfl|exact Or.inr rfl)(n:jZ e (aa (.Name x p)) pos.line X.env=pure aj:=by rfl)(r:X.fn x=ah\/X.env.scope.names.lookup x=aa .local:=by first|exact .inl rfl|exact .inr rfl):DS X E pin (.Assign [.Name x p] e pos) (bW i de):=λF S c a H D g h=>gC (Ci u q m bT n r) (s F S c a H _ g (h.bindE.imp λx b z B y j A w v f=>w z _ _ y (j.set f) (bp.less i) (iC.set o)))
def dy(i:Nat)(d:ak->R PO):ak->R aO:=λε=>(d ε).bind λx ε1=>if i<ε1.length then .ok .next (ε1.set i (.own x))else .no
theorem kt(i:Nat){x:Str}{p:Pos}{dn:ak->R PO}(K:X.N.Nodup)(J:DN X E e dn)(C:i∉pin:=by decide)(G:X.N[i]?=aa x:=by rfl)(A:Loc X.env.scope x:=by first|exact Or.inl rfl|exact Or.inr rfl)(B:jZ e (aa (.Name x p)) pos.line X.env=pure aj:=by rfl)(I:X.fn x=ah\/X.env.scope.names.lookup x=aa .local:=by first|exact .inl rfl|exact .inr rfl):DS X E pin (.Assign [.Name x p] e pos) (dy i dn):=λF S q o H D u h=>by
 refine gC (Ci K G A bT B I) (J F S q o H _ u ?_);unfold dy at h;cases n:dn q with
 |no=>rw[n]at h;exact h.elim
 |er c s=>rw[n]at h;exact λx Q M O w L=>h x Q M o O w L (iC.refl _ _)
 |ok T g=>
  rw[n]at h;simp only[R.bind_ok]at h;intro P Y N v f a W y r;by_cases m:i<g.length
  .rw[if_pos m]at h;refine h P _ _ N (v.setOwn m y λb z=>(r b z).2) ⟨f.fro,f.keep,f.there,f.fnew,λb ⟨j,z⟩=>?_⟩ (iC.set C);rcases z with z|⟨_,z⟩
   .exact f.onew b ⟨j,z.1⟩
   .exact .inr (r b z).1
  .rw[if_neg m]at h;exact h.elim
theorem il{c:aB}{a b:List ba}{t:ak->R Bool}(r:DT X E c t)(u:gL X E pin a d1)(s:gL X E pin b d2):DS X E pin (.If c a b pos) (cc t d1 d2):=λF S p g H D q h=>by
 refine gC (TM ny qD qD) (r F S p g H _ q (h.bindE.imp λk f o m n i v j=>?_));cases k with
 |true=>exact nA (u o m f g n D i j)
 |false=>exact ng (s o m f g n D i j)
def yc:ak->R aO:=λ_=>.no
theorem Ch{a:List ba}:gL X E pin a yc:=λ_ _ _ _ _ _ _ h=>h.elim
def e_(r:R aO):R aO:=match r with
 |.er _ _=>.no
 |r=>r
theorem nh(h:DS X.nox E0 pin l d):DS X E pin l (λa=>e_ (d a)):=λF S a b H D i q=>Bx.mk λm s I=>by
 have q:ir X.K E pin b F S H (e_ (d a)) D:=q;have j:ir X.K E0 pin b F S H (d a) D:=by
  cases e:d a with
  |no=>rw[e]at q;exact q
  |er c g=>rw[e]at q;exact q.elim
  |ok f g=>rw[e]at q;cases f <;> exact q
 exact dZ ((h F S a b H D i j).run m s (I.wish _)) (λ_ _ z=>z.unwish) λ_ _ z=>z.elim
def nL(X:Cx)(f a:aB):TI:=λb H h=>Bx (∀c s,Inv X c b H s->ar (ax X.prog X.w) X.A (a6 a X.env) (λv g=>ar (ax X.prog X.w) X.A (nR v) (xz X c b f h) X.xe g) X.xe s)
theorem zq{b a:aB}:PI X b a (nL X b a):=λc s _ _ _ I h=>h.run c s I
theorem Nt{f a:aB}{t:TI}(h:PI X f a t){b:St}{H:Hp}{c:It->Hp->Prop}(q:t b H c):nL X f a b H c:=⟨λg s I=>h g s b H c I q⟩
def DI(X:Cx)(E:XK)(q a:aB)(d:ak->R (List PV)):Prop:=∀F S m c H n,aN X.K F S m c H ->
 Ok X.K E c F S H (d m) (λg _ p r i=>∀J f o,Reps X.K i p g f->f.length<=bh->Walk J f o->(∀h j b,bp (U r) (U h) p j i b->o b)->n J i)->nL X q a c H n
def fX(i:Nat)(db:ak->R aO):List PV->ak->R aO
 |[],b=>.ok .next b
 |x::xs,b=>match db (b.set i (.val x))with
  |.ok .next a=>fX i db xs a
  |.ok .cont a=>fX i db xs a
  |.ok .brk a=>.ok .next a
  |r=>r
def dj(i:Nat)(a:ak->R (List PV))(db:ak->R aO):ak->R aO:=λε=>(a ε).bind λxs ε1=>fX i db xs ε1
theorem kP(i:Nat){x:Str}{p:Pos}{o:aB}{r:List ba}{Z:ak->R (List PV)}{C:ak->R aO}(wL:vZ (ax X.prog X.w) X.A X.env X.xe)(hc:X.calm=ah)(hN:X.N.Nodup)(hi:DI X E (.Name x p) o Z)(hb:gL X E pin r C)(hp:i∉pin:=by decide) (A:X.N[i]?=aa x:=by rfl) (O:Loc X.env.scope x:=by first|exact Or.inl rfl|exact Or.inr rfl) (hs:∀x,mJ o X.env x=pure x:=by intro _;rfl)(hf:X.fn x=ah\/X.env.scope.names.lookup x=aa .local:=by first|exact .inl rfl|exact .inr rfl):DS X E pin (.For (.Name x p) o r [] pos) (dj i Z C):=λF S ε σ H D rl h=>by
 refine gC (GJ wL hc zq (vW hN A O hf) qD hs) (hi F S ε σ H _ rl (h.bindE.imp λxs I F1 S1 H1 Y g1 h1 J vs RR W hz hw keep=>?_));refine Hy hw (λk a n=>∃u w m,aN X.K u w m a n/\bp (U S1) (U w) F1 u H1 n/\ir X.K E pin a u w n (fX i C (xs.drop k) m) D) ⟨F1,S1,I,Y,bp.refl ..,h1⟩ (λk a n _ ⟨u,w,m,_,g,_⟩=>keep w u n g) ?_ ?_
 .rintro k v a n hv ⟨u,w,m,M,B,q⟩;obtain⟨x,A,rx⟩:=W.back hv;have hk:k<xs.length:=(cM.mp A).1;have ed:xs.drop k=x::xs.drop (k+1):=by rw[uc hk];congr 1;exact(cM.mp A).2
  rw[ed]at q;have K:=rx.grow B Y.fit;have r2:=M.set (i:=i) K;have P:bp (U w) (U λj b=>w j b/\j≠i) u u n n:=bp.less i;show oO X r _ (a.set i (aa v)) n;refine hb u _ _ _ n _ r2 ?_;unfold fX at q;have q:=q.from P (iC.set (x:=aa v) hp);cases e:C (m.set i (.val x))with
  |no=>rw[e]at q;exact q
  |er c y=>rw[e]at q;exact q
  |ok f y=>
   rw[e]at q;cases f with
   |next=>exact λT Q G H3 L z N=>⟨T,Q,y,L,(B.trans P).trans z,q.from z N⟩
   |cont=>exact λT Q G H3 L z N=>⟨T,Q,y,L,(B.trans P).trans z,q.from z N⟩
   |brk=>exact q
   |ret s=>exact q
 .rintro a n ⟨u,w,m,M,B,q⟩;have O:vs.length=xs.length:=W.len;rw[O,C7]at q;exact q u w a n M (bp.refl ..) (iC.refl _ _)
def i8(t:ak->R Bool)(b:ak->R aO):Nat->ak->R aO
 |0,_=>.no
 |n+1,ε=>(t ε).bind λk ε1=>match k with
  |false=>.ok .next ε1
  |true=>match b ε1 with
   |.ok .next a=>i8 t b n a
   |.ok .cont a=>i8 t b n a
   |.ok .brk a=>.ok .next a
   |r=>r
theorem OX{c:aB}{n:List ba}{t:ak->R Bool}{j:ak->R aO}(O:ak->Nat)(P:vZ (ax X.prog X.w) X.A X.env X.xe)(W:DT X E c t)(Y:gL X E pin n j):DS X E pin (.While c n [] pos) (λv=>i8 t j (O v) v):=λF S v σ H D Q h=>by
 refine gC (S9 P ny qD) ⟨λm b u=>∃y x a,aN X.K y x a b u/\ir X.K E pin b y x u (i8 t j m a) D,⟨O v,F,S,v,Q,h⟩,?_⟩;rintro m i H1 ⟨F1,Z,A,T,q⟩;cases m with
 |zero=>exact q.elim
 |succ m=>
  refine W F1 Z A i H1 _ T (q.bindE.imp λk p M J K N g2 g=>?_);cases k with
  |false=>exact ng (g M J i K N (bp.refl ..) (iC.refl _ _))
  |true=>
   refine nA ⟨λb u=>∃y x a,aN X.K y x a b u/\ir X.K E pin b y x u (i8 t j m a) D,λb u w=>⟨m,n4 m,w⟩,Y M J p i K _ N ?_⟩;have g:ir X.K E pin i M J K (match j p with
    |.ok .next a=>i8 t j m a
    |.ok .cont a=>i8 t j m a
    |.ok .brk a=>.ok .next a
    |r=>r) D:=g
   cases e:j p with
   |no=>rw[e]at g;exact g
   |er c o=>rw[e]at g;exact g
   |ok f o=>
    rw[e]at g;cases f with
    |next=>exact λL I z H3 B G C=>⟨L,I,o,B,g.from G C⟩
    |cont=>exact λL I z H3 B G C=>⟨L,I,o,B,g.from G C⟩
    |brk=>exact g
    |ret s=>exact g
end
def y8(K:ay)(E:XK)(i:List V)(F:ag->Prop)(S:Nat->ag->Prop)(H:Hp)(r:R Slot)(Q:VK):Prop:=match r with
 |.ok s h=>∀v d f a g,aN K d f h (i.map aa) a->bp (U S) (λb=>U f b\/g b) F d H a->i6 K a d s v g->vM d f a g->(∀b,g b->H b=ae)->Q v a
 |.er c h=>∀x d f a,aN K d f h (i.map aa) a->bp (U S) (U f) F d H a->E c x a
 |.no=>False
def bt(K:ay)(g:ak->R Slot):Sp:=λa H Q E=>∃F S b,aN K F S b (a.map aa) H/\y8 K E a F S H (g b) Q
structure cf(CX:gx)(P:aV)(w:aL)(K:ay)(mg:Str->Option ai)(base:aD)(x:Str)(k:Nat)(ps:List Str)(sp:Sp):Prop where
 ex:∃f fd,mg x=aa (.ref f)/\jP P w K mg base CX k f fd ps sp/\Binds K fd ps []/\nU K (.ref f)=ah
def back:ak->ak->Option ak
 |[],_=>aa []
 |.own _::a,.own c::b=>(back a b).map (.own c::·)
 |.own _::_,_=>ae
 |s::a,_::b=>(back a b).map (s::·)
 |_::_,[]=>ae
theorem yq:∀{a c b:ak},back a c=aa b->b.length=a.length/\∀(i:Nat) (s:Slot),b[i]?=aa s->(∃g f,a[i]?=aa (.own g)/\c[i]?=aa (.own f)/\s=.own f)\/(a[i]?=aa s/\∀g,s≠.own g)
 |[],_,b,h=>by cases h;exact⟨rfl,λi s e=>by simp at e⟩
 |.own g::a,.own f::c,b,h=>by
  unfold back at h;cases e:back a c with
  |none=>rw[e]at h;cases h
  |some r=>
   rw[e]at h;cases h;obtain⟨l,q⟩:=yq e;refine⟨by simp[l],λi s d=>?_⟩;cases i with
   |zero=>simp at d;subst d;exact .inl ⟨g,f,rfl,rfl,rfl⟩
   |succ i=>simpa using q i s (by simpa using d)
 |.own g::a,.none::c,b,h=>by cases h
 |.own g::a,.val _::c,b,h=>by cases h
 |.own g::a,[],b,h=>by cases h
 |.none::a,[],b,h=>by cases h
 |.val _::a,[],b,h=>by cases h
 |.none::a,x::c,b,h=>by
  have h:(back a c).map (Slot.none::·)=aa b:=by unfold back at h;cases x <;> exact h
  cases e:back a c with
  |none=>rw[e]at h;cases h
  |some r=>
   rw[e]at h;cases h;obtain⟨l,q⟩:=yq e;refine⟨by simp[l],λi s d=>?_⟩;cases i with
   |zero=>simp at d;subst d;exact .inr ⟨rfl,λ_ z=>by cases z⟩
   |succ i=>simpa using q i s (by simpa using d)
 |.val pv::a,x::c,b,h=>by
  have h:(back a c).map (Slot.val pv::·)=aa b:=by unfold back at h;cases x <;> exact h
  cases e:back a c with
  |none=>rw[e]at h;cases h
  |some r=>
   rw[e]at h;cases h;obtain⟨l,q⟩:=yq e;refine⟨by simp[l],λi s d=>?_⟩;cases i with
   |zero=>simp at d;subst d;exact .inr ⟨rfl,λ_ z=>by cases z⟩
   |succ i=>simpa using q i s (by simpa using d)
def bG(n:Nat)(d:ak->R aO):ak->R Slot:=λf=>match d (f++bu n .none)with
 |.ok (.ret r) a=>(aQ (back f a) []).bind λb _=>.ok r b
 |.ok .next a=>(aQ (back f a) []).bind λb _=>.ok (.val .non) b
 |.er c a=>(aQ (back f a) []).bind λb _=>.er c b
 |_=>.no
section
variable{K:ay}{F x:ag->Prop}{S o:Nat->ag->Prop}{c l m:ak}{f:St}{H u:Hp}{d:List V}
theorem aN.start(r:aN K F S c (d.map aa) H)(n:Nat):aN K F S (c++bu n .none) (d.map aa++bu n ae) H:=by
 have A:c.length=(d.map aa).length:=r.len;have no:∀{j:Nat}{s:Slot},(c++bu n Slot.none)[j]?=aa s->s≠.none->c[j]?=aa s:=λ{j s} e y=>by
  by_cases B:j<c.length
  .rw[jC B]at e;exact e
  .rw[qQ ∅,List.getElem?_replicate]at e;split at e
   .exact absurd (cY e).symm y
   .cases e
 have p:∀{j:Nat}{v:Option V},(d.map aa)[j]?=aa v->(d.map aa++bu n ae)[j]?=aa v:=λ{j v} e=>by rw[jC (cM.mp e).1];exact e
 refine⟨by simp[A],r.ex,λj pv e=>?_,λj a e=>?_,λj b h=>?_,r.dist⟩
 .obtain⟨v,i,g⟩:=r.val j pv (no e (by intro z;cases z));exact⟨v,p i,g⟩
 .obtain⟨v,i,g⟩:=r.own j a (no e (by intro z;cases z));exact⟨v,p i,g⟩
 .obtain⟨⟨a,q⟩,w⟩:=r.foot j b h;exact⟨⟨a,by rw[jC (cM.mp q).1];exact q⟩,w⟩
theorem FH{g:PO}{a:ag}{n:ag->Prop}(h:eZ K H F g a n)(j:ge g=ah):∀b,n b↔b=a:=by
 cases g with
 |lst xs=>exact h.2
 |dK i=>exact h.2
 |lls p=>cases j
 |ins C fs=>exact h.2
 |dT i=>exact h.2
 |inl C fs y xs=>cases j
theorem Og{g:PO}{a:ag}{i:ag->Prop}(h:eZ K H F g a i):i a:=by
 cases g with
 |lst xs=>exact(h.2 a).mpr rfl
 |dK b=>exact(h.2 a).mpr rfl
 |lls j=>obtain⟨n,_,_,_,_,w⟩:=h;exact(w a).mpr (.inl rfl)
 |ins C fs=>exact(h.2 a).mpr rfl
 |dT b=>exact(h.2 a).mpr rfl
 |inl C fs y xs=>obtain⟨_,_,_,_,_,_,_,_,_,_,w⟩:=h;exact(w a).mpr (.inl rfl)
theorem aN.back{Y:ag->Prop}{D:List Nat}{n:Nat}(C:aN K F S c (d.map aa) H)(r:aN K x o l f u)(g:bp (U S) Y F x H u)(p:iC D (d.map aa++bu n ae) f)(Q:∀(i:Nat) (s:PO),c[i]?=aa (.own s)->i∈D)(T:back c l=aa m):∃B,aN K x B m (d.map aa) u/\(∀b,U B b->U o b)/\((∀(i:Nat) (s:PO),c[i]?=aa (.own s)->ge s=ah)->∀b,U S b->U B b):=by
 obtain⟨M,G⟩:=yq T;have inj:∀(i:Nat) (s:PO),c[i]?=aa (.own s)->∃a,(d.map aa)[i]?=aa (aa (.ref a))/\f[i]?=aa (aa (.ref a))/\eZ K H F s a (S i):=λi s e=>by obtain⟨a,y,A⟩:=C.own i s e;refine⟨a,y,?_,A⟩;rw[p i (Q i s e),jC (cM.mp y).1];exact y
 have bk:∀(i:Nat) (s:PO),c[i]?=aa (.own s)->∃w,m[i]?=aa (.own w)/\l[i]?=aa (.own w):=λi s e=>by
  have N:i<m.length:=by rw[M];exact(cM.mp e).1
  rcases G i m[i] (by simp[N])with⟨p1,p2,q1,q2,q3⟩|⟨q1,q2⟩
  .exact⟨p2,by rw[fE N,q3],q2⟩
  .rw[e]at q1;exact absurd (cY q1).symm (q2 s)
 refine⟨λi b=>o i b/\∃s,c[i]?=aa (.own s),⟨by rw[M];exact C.len,r.ex,λi pv e=>?_,λi s e=>?_,λi b h=>?_,λi j b y A=>r.dist i j b y.1 A.1⟩,λb ⟨i,h⟩=>⟨i,h.1⟩,λP b ⟨i,h⟩=>?_⟩
 .rcases G i _ e with⟨_,_,_,_,z⟩|⟨q1,_⟩
  .cases z
  .obtain⟨v,y,A⟩:=C.val i pv q1;exact⟨v,y,A.grow g C.fit⟩
 .rcases G i _ e with⟨p1,p2,q1,q2,q3⟩|⟨_,q2⟩
  .cases q3;obtain⟨a,y,A,O⟩:=inj i p1 q1;obtain⟨X,E,I⟩:=r.own i s q2;rw[A]at E;cases E;refine⟨a,y,?_⟩;have W:(λb=>o i b/\∃s,c[i]?=aa (.own s))=o i:=by funext b;exact propext ⟨λz=>z.1,λz=>⟨z,p1,q1⟩⟩
   rw[W];exact I
  .exact absurd rfl (q2 s)
 .obtain⟨s,q⟩:=h.2;obtain⟨w,L,J⟩:=bk i s q;exact⟨⟨w,L⟩,(r.foot i b h.1).2⟩
 .obtain⟨⟨s,q⟩,_⟩:=C.foot i b h;obtain⟨a,y,A,O⟩:=inj i s q;obtain⟨w,L,J⟩:=bk i s q;obtain⟨X,E,I⟩:=r.own i w J;rw[A]at E;cases E;have e:b=a:=(FH O (P i s q) b).mp h;exact⟨i,e ▸ Og I,s,q⟩
end
theorem yZ{K:ay}{E:XK}{a:List V}{F:ag->Prop}{S:Nat->ag->Prop}{H:Hp}{r:R Slot}{Q:VK}(h:y8 K E a F S H r Q):r≠.no:=λz=>by rw[z]at h;exact h
theorem EH{K:ay}{g:ak->R Slot}{m:Nat}(f:∀a,g a≠.no->a.length=m):∀b H Q E,bt K g b H Q E->b.length=m:=λb H Q E ζ=>by obtain⟨F,S,a,c,ok⟩:=ζ;have:=f a (yZ ok);have d:=c.len;rw[cz]at d;lia
theorem IJ{X:Cx}{E:XK}{u:List ba}{N P:List Str}{s:List V}{H:Hp}{Q:VK}{n:Nat}{g:ak->R Slot}{d:ak->R aO}{A:List Nat}(hn:N.length=P.length+n)(bD:∀a,g a≠.no->a.length=P.length) (kI:∀a,g a≠.no->∀(i:Nat) po,a[i]?=aa (.own po)->i∈A) (mU:∀a p m,g a=.ok p m->(∃pv,p=.val pv)\/∀(i:Nat) po,a[i]?=aa (.own po)->ge po=ah) (hg:∀a,g a≠.no->bG n d a=g a)(hb:gL X E A u d) (iz:bt X.K g s H Q E):oO X u {nx:=λ_ l=>Q .non l,rt:=Q} (L2.start N s) H:=by
 obtain⟨F,S,a,L,ok⟩:=iz;have hl:=bD a (yZ ok);have h2:=L.len;rw[cz]at h2;have es:L2.start N s=s.map aa++bu n ae:=by unfold L2.start;rw[show N.length-s.length=n by lia]
 rw[es];refine hb F S _ _ H _ (L.start n) ?_;have W:=kI a (yZ ok);have Z:=hg a (yZ ok);have K:=mU a;rw[<-Z]at ok K;unfold bG at ok K;generalize d (a++bu n .none)=r at ok K ⊢;cases r with
 |no=>exact ok
 |er c h=>
  intro x q C j l D f G;have ok:y8 X.K E s F S H ((aQ (back a h) []).bind λm _=>.er c m) Q:=ok;cases e:back a h with
  |none=>rw[e]at ok;exact ok.elim
  |some m=>rw[e]at ok;obtain⟨B,y,o,_⟩:=L.back D f G W e;exact ok x q B l y ⟨f.fro,f.keep,f.there,f.fnew,λb z=>f.onew b (o b z)⟩
 |ok fl h=>
  have I:∀(p:Slot),(∀m,back a h=aa m->(∃pv,p=.val pv)\/∀(i:Nat) po,a[i]?=aa (.own po)->ge po=ah)->y8 X.K E s F S H ((aQ (back a h) []).bind λm _=>.ok p m) Q->∀(v:V) q C j l J,aN X.K q C h j l->bp (U S) (λb=>U C b\/J b) F q H l->iC A (s.map aa++bu n ae) j->i6 X.K l q p v J->vM q C l J->Q v l:=by
   intro p O ok v q C j l J D f G T M;cases e:back a h with
   |none=>rw[e]at ok;exact ok.elim
   |some m=>
    rw[e]at ok;obtain⟨B,y,o,Y⟩:=L.back D f G W e;refine ok v q B l J y ⟨f.fro,f.keep,f.there,f.fnew,λb z=>f.onew b (z.imp (o b) id)⟩ T (λb z=>⟨(M b z).1,λw=>(M b z).2.1 (o b w),(M b z).2.2⟩) λb z=>?_;rcases O m e with⟨pv,rfl⟩|hf
    .exact absurd z (T.2 b)
    rcases f.onew b (.inr z)with w|w
    .exact absurd (o b (Y hf b w)) (M b z).2.1
    .exact w
  cases fl with
  |brk=>exact ok.elim
  |cont=>exact ok.elim
  |ret p=>exact I p (λm e=>K p m (by show(aQ (back a h) []).bind _=_;rw[e];rfl)) ok
  |next=>exact λq C j l D f G=>I (.val .non) (λ_ _=>.inl ⟨_,rfl⟩) ok .non q C j l (λ_=>False) D ⟨f.fro,f.keep,f.there,f.fnew,λb z=>z.elim (f.onew b) gm⟩ G ⟨rfl,λ_ z=>z⟩ λ_ z=>z.elim
theorem Lo{f:ag}{p:gi}{D:gx}{P:aV}{w:aL}{K:ay}{v:Str->Option ai}{j:aD}{x b:Str}{h:ba}{N l:List Str}{k n:Nat}{g:ak->R Slot}{d:ak->R aO}{m:List Nat}(Z:qg K x b h f p)(Y:cb N l (a_ h))(S:N.length=l.length+n)(hb:∀(kV o u:ai) (B:Option ag) (C y:ai) (q:List ai),q.length=l.length->gF (je x b (kg h) (gE h) (a_ h) .none kV o u B C y) ⟨q,[]⟩=pure (l.zip q))(z:∀c,g c≠.no->c.length=l.length) (J:∀c,g c≠.no->∀(i:Nat) po,c[i]?=aa (.own po)->i∈m) (G:∀c r X,g c=.ok r X->(∃pv,r=.val pv)\/∀(i:Nat) po,c[i]?=aa (.own po)->ge po=ah) (T:∀c,g c≠.no->bG n d c=g c)(M:∀(A:aX) (a:List Env) (s:am) (H:Hp) (E:XK),dW k (A.deeper (jB b (a_ h) s.heap.objs.size f p.code))->gL (jr D P w K v j N b (a_ h) f p.code A a s H E) E m (gE h) d):jP P w K v j D (k+1) f p l (bt K g):=by obtain⟨oc,od,kV,o,u,B,C,y,F,rfl,I,W⟩:=Z.ex;exact KO I W Y (EH z) λA a s H vs Q E O L=>⟨_,qD,IJ S z J G T (M A a s H E O) L⟩
theorem GM{f:ag}{u:gi}{B:gx}{P:aV}{w:aL}{K:ay}{y:Str->Option ai}{l:aD}{x b:Str}{j:ba}{N m:List Str}{k n:Nat}{g:ak->R Slot}{d:ak->R aO}{p:List Nat}(Q:qg K x b j f u)(O:cb N m (a_ j))(F:N.length=m.length+n)(I:∀(kV v C:ai) (M:Option ag) (q J:ai) (r:List ai),r.length=m.length->gF (je x b (kg j) (gE j) (a_ j) .none kV v C M q J) ⟨r,[]⟩=pure (m.zip r))(L:∀c,g c≠.no->c.length=m.length) (z:∀c,g c≠.no->∀(i:Nat) o,c[i]?=aa (.own o)->i∈p/\ge o=ah) (G:∀c,g c≠.no->bG n d c=g c)(D:∀(f:ag) (q:ai) (A:aX) (a:List Env) (s:am) (H:Hp) (E:XK),dW k (A.deeper (jB b (a_ j) s.heap.objs.size f q))->gL (jr B P w K y l N b (a_ j) f q A a s H E) E p (gE j) d):jP P w K y l B (k+1) f u m (bt K g):=Lo Q O F I L (λc h i o e=>(z c h i o e).1) (λc S T h=>.inr λi o e=>(z c (by rw[h];exact nofun) i o e).2) G λA a s H E=>D f u.code A a s H E
theorem Uy{v:gx}{P:aV}{w:aL}{K:ay}{p:Str->Option ai}{c:aD}{x:Str}{b:ba}{N j:List Str}{k n:Nat}{g:ak->R Slot}{d:ak->R aO}{l:List Nat}(D:cC K p x b)(O:cb N j (a_ b))(C:N.length=j.length+n)(u:∀(kV q y:ai) (M:Option ag) (m J:ai) (o:List ai),o.length=j.length->gF (je x x (kg b) (gE b) (a_ b) .none kV q y M m J) ⟨o,[]⟩=pure (j.zip o))(L:∀a,g a≠.no->a.length=j.length) (z:∀a,g a≠.no->∀(i:Nat) po,a[i]?=aa (.own po)->i∈l/\ge po=ah) (G:∀a,g a≠.no->bG n d a=g a)(B:∀(f:ag) (m:ai) (A:aX) (h:List Env) (s:am) (H:Hp) (E:XK),dW k (A.deeper (jB x (a_ b) s.heap.objs.size f m))->gL (jr v P w K p c N x (a_ b) f m A h s H E) E l (gE b) d):cf v P w K p c x (k+1) j (bt K g):=by obtain⟨f,I,F,r⟩:=D.ex;exact⟨f,I,F,GM r O C u L z G B,r.binds u,r.kp⟩
abbrev b0:=Sum PV Nat
def hU(K:ay)(b:St)(F:ag->Prop)(H:Hp):List b0->List V->Prop
 |[],a=>a=[]
 |.inl pv::c,a=>∃v r,a=v::r/\aU K H F pv v/\hU K b F H c r
 |.inr i::c,a=>∃v r,a=v::r/\b[i]?=aa (aa v)/\hU K b F H c r
def DG(X:Cx)(E:XK)(g:List aB)(d:ak->R (List b0)):Prop :=
 ∀F S b a H Q,aN X.K F S b a H->Ok X.K E a F S H (d b) (λh _ i _ f=>∀c,hU X.K a i f h c->Q c f)->p8 X g a H Q
section
variable{X:Cx}{E:XK}{e:aB}{b:List aB}{de:ak->R PV}{c:ak->R (List b0)}{f:Pos}
def bL:ak->R (List b0):=λε=>.ok [] ε
def gV(d:ak->R PV)(c:ak->R (List b0)):ak->R (List b0):=λε=>(d ε).bind λx g=>(c g).bind λxs a=>.ok (.inl x::xs) a
def gO(i:Nat)(c:ak->R (List b0)):ak->R (List b0):=λd=>match d[i]? with
 |some (.own _)=>(c d).bind λxs a=>.ok (.inr i::xs) a
 |_=>.no
theorem bS:DG X E [] bL:=λF S g d H Q a h=>qe ki (h F S H a (bp.refl ..) _ rfl)
theorem Mb(s:DE X E e de)(r:DG X E b c)(q:aR (e::b) X.env=(aj,a6 e X.env)::aR b X.env:=by rfl):DG X E (e::b) (gV de c):=λF S j d H Q n h=>by refine qe (i4 bT im q) (s F S j d H _ n ((Ok.bind h).imp λx a G A C g I w v m=>?_));refine r G A a d C _ g ((Ok.bind w).imp λxs i D z B o y u l p=>?_);exact u D z B o (bp.refl ..) _ ⟨v,l,rfl,m.grow y g.fit,p⟩
theorem h_(i:Nat){x:Str}{p:Pos}(v:DG X E b c)(y:X.N[i]?=aa x:=by rfl)(s:ez X.env.scope x:=by first|exact Or.inl rfl|exact Or.inr (Or.inl rfl)|exact Or.inr (Or.inr rfl))(w:(x==("__debug__":Str))=aj:=by decide)(A:(x==("__classdict__":Str))=aj:=by decide) (u:aR (.Name x p::b) X.env=(aj,a6 (.Name x p) X.env)::aR b X.env:=by rfl):DG X E (.Name x p::b) (gO i c):=λF S m j H Q d h=>by
 unfold gO at h;split at h
 .rename_i q e;obtain⟨a,g,_⟩:=d.own i q e;refine qe (i4 (fI y s w A) im u) ⟨_,g,v F S m j H _ d ((Ok.bind h).imp λxs l D B C o G z n r=>?_)⟩;exact z D B C o (bp.refl ..) _ ⟨_,n,rfl,g,r⟩
 .exact h.elim
end
def dR(a:ak):List b0->Option ak
 |[]=>aa []
 |.inl pv::b=>(dR a b).map (.val pv::·)
 |.inr i::b=>match a[i]? with
  |some (.own c)=>(dR a b).map (.own c::·)
  |_=>ae
def f_:ak->List b0->ak->ak
 |a,.inl _::c,_::b=>f_ a c b
 |a,.inr i::c,s::b=>f_ (a.set i s) c b
 |a,_,_=>a
def cm:List b0->List Nat
 |[]=>[]
 |.inl _::as=>cm as
 |.inr i::as=>i::cm as
theorem Gi:∀{as:List b0}{i:Nat},i∈cm as↔∃k:Nat,as[k]?=aa (.inr i)
 |[],i=>by simp[cm]
 |.inl _::as,i=>by
  unfold cm;rw[Gi];constructor
  .rintro⟨k,h⟩;exact⟨k+1,by simpa using h⟩
  .rintro⟨k,h⟩;cases k with
   |zero=>simp at h
   |succ k=>exact⟨k,by simpa using h⟩
 |.inr j::as,i=>by
  unfold cm;rw[bI,Gi];constructor
  .rintro(rfl|⟨k,h⟩)
   .exact⟨0,rfl⟩
   .exact⟨k+1,by simpa using h⟩
  .rintro⟨k,h⟩;cases k with
   |zero=>simp at h;exact .inl h.symm
   |succ k=>exact .inr ⟨k,by simpa using h⟩
theorem yN{d:ak}:∀{a:List b0}{c:ak},dR d a=aa c->c.length=a.length/\∀(k:Nat) (s:Slot),c[k]?=aa s->(∃pv,a[k]?=aa (.inl pv)/\s=.val pv)\/∃i f,a[k]?=aa (.inr i)/\d[i]?=aa (.own f)/\s=.own f
 |[],c,h=>by cases h;exact⟨rfl,λk s e=>by simp at e⟩
 |.inl pv::a,c,h=>by
  unfold dR at h;cases e:dR d a with
  |none=>rw[e]at h;cases h
  |some r=>
   rw[e]at h;cases h;obtain⟨l,q⟩:=yN e;refine⟨by simp[l],λk s b=>?_⟩;cases k with
   |zero=>simp at b;exact .inl ⟨pv,rfl,b.symm⟩
   |succ k=>simpa using q k s (by simpa using b)
 |.inr i::a,c,h=>by
  unfold dR at h;split at h
  .rename_i f g;cases e:dR d a with
   |none=>rw[e]at h;cases h
   |some r=>
    rw[e]at h;cases h;obtain⟨l,q⟩:=yN e;refine⟨by simp[l],λk s b=>?_⟩;cases k with
    |zero=>simp at b;exact .inr ⟨i,f,rfl,g,b.symm⟩
    |succ k=>simpa using q k s (by simpa using b)
  .cases h
theorem xH:∀(c:List b0) (a b:ak),(f_ a c b).length=a.length
 |[],a,b=>by cases b <;> rfl
 |.inl _::c,a,[]=>rfl
 |.inr _::c,a,[]=>rfl
 |.inl _::c,a,s::b=>xH c a b
 |.inr i::c,a,s::b=>by show(f_ (a.set i s) c b).length=_;rw[xH,gn]
theorem tz:∀(a:List b0) (b c:ak) (j:Nat),j∉cm a->(f_ b a c)[j]?=b[j]?
 |[],b,c,j,_=>by cases c <;> rfl
 |.inl _::a,b,[],j,_=>rfl
 |.inr _::a,b,[],j,_=>rfl
 |.inl _::a,b,s::c,j,h=>tz a b c j h
 |.inr i::a,b,s::c,j,h=>by
  have d:¬(j=i\/j∈cm a):=by simpa[cm]using h
  show(f_ (b.set i s) a c)[j]?=_;rw[tz a _ c j λz=>d (.inr z),d8 λz=>d (.inl z.symm)]
theorem uv:∀(a:List b0) (b c:ak) (j k:Nat) (s:Slot),(cm a).Nodup->j<b.length->a[k]?=aa (.inr j)->c[k]?=aa s->(f_ b a c)[j]?=aa s
 |[],b,c,j,k,s,_,_,h,_=>by simp at h
 |_::a,b,[],j,k,s,_,_,_,h=>by simp at h
 |.inl _::a,b,t::c,j,0,s,_,_,h,_=>by simp at h
 |.inl _::a,b,t::c,j,k+1,s,nd,hj,h,g=>uv a b c j k s nd hj (by simpa using h) (by simpa using g)
 |.inr i::a,b,t::c,j,0,s,nd,hj,h,g=>by simp at h g;subst h g;have d:i∉cm a:=(lj.mp nd).1;show(f_ (b.set i t) a c)[i]?=_;rw[tz a _ c i d,fM hj]
 |.inr i::a,b,t::c,j,k+1,s,nd,hj,h,g=>uv a (b.set i t) c j k s (lj.mp nd).2 (by rw[gn];exact hj) (by simpa using h) (by simpa using g)
theorem hU.len{K:ay}{c:St}{F:ag->Prop}{H:Hp}:∀{a:List b0}{b:List V},hU K c F H a b->b.length=a.length
 |[],_,h=>by rw[show _=[] from h];rfl
 |.inl _::a,_,⟨v,r,e,_,h⟩=>by rw[e,eG,eG,hU.len h]
 |.inr _::a,_,⟨v,r,e,_,h⟩=>by rw[e,eG,eG,hU.len h]
theorem hU.val{K:ay}{d:St}{F:ag->Prop}{H:Hp}:∀{as:List b0}{c:List V}{k:Nat}{pv:PV},hU K d F H as c->as[k]?=aa (.inl pv)->∃v,c[k]?=aa v/\aU K H F pv v
 |[],_,k,_,_,e=>by simp at e
 |.inl x::as,_,0,pv,⟨v,r,e,h,_⟩,q=>by simp at q;subst q e;exact⟨v,rfl,h⟩
 |.inr _::as,_,0,pv,_,q=>by simp at q
 |.inl x::as,_,k+1,pv,⟨v,r,e,_,h⟩,q=>by obtain⟨w,a,b⟩:=hU.val (k:=k) h (by simpa using q);subst e;exact⟨w,by simpa using a,b⟩
 |.inr x::as,_,k+1,pv,⟨v,r,e,_,h⟩,q=>by obtain⟨w,a,b⟩:=hU.val (k:=k) h (by simpa using q);subst e;exact⟨w,by simpa using a,b⟩
theorem hU.own{K:ay}{c:St}{F:ag->Prop}{H:Hp}:∀{as:List b0}{d:List V}{k i:Nat},hU K c F H as d->as[k]?=aa (.inr i)->∃v,d[k]?=aa v/\c[i]?=aa (aa v)
 |[],_,k,_,_,e=>by simp at e
 |.inr x::as,_,0,pv,⟨v,r,e,h,_⟩,q=>by simp at q;subst q e;exact⟨v,rfl,h⟩
 |.inl _::as,_,0,pv,_,q=>by simp at q
 |.inl x::as,_,k+1,pv,⟨v,r,e,_,h⟩,q=>by obtain⟨w,a,b⟩:=hU.own (k:=k) h (by simpa using q);subst e;exact⟨w,by simpa using a,b⟩
 |.inr x::as,_,k+1,pv,⟨v,r,e,_,h⟩,q=>by obtain⟨w,a,b⟩:=hU.own (k:=k) h (by simpa using q);subst e;exact⟨w,by simpa using a,b⟩
section
variable{K:ay}{F A:ag->Prop}{S m:Nat->ag->Prop}{c s f:ak}{u:St}{H y:Hp}{as:List b0}{d:List V}
def kY(as:List b0)(S:Nat->ag->Prop)(k:Nat)(b:ag):Prop:=∃i,as[k]?=aa (.inr i)/\S i b
theorem yz(b:ag)(h:U (kY as S) b):U S b:=let ⟨_,i,_,h⟩:=h;⟨i,h⟩
theorem zn:∀{as:List b0}{i k l:Nat},(cm as).Nodup->as[k]?=aa (.inr i)->as[l]?=aa (.inr i)->k=l
 |[],_,_,_,_,h,_=>by simp at h
 |.inl _::as,i,0,_,_,h,_=>by simp at h
 |.inl _::as,i,_,0,_,_,h=>by simp at h
 |.inl _::as,i,k+1,l+1,nd,h1,h2=>by rw[zn (as:=as) (i:=i) (k:=k) (l:=l) nd (by simpa using h1) (by simpa using h2)]
 |.inr j::as,i,0,0,_,_,_=>rfl
 |.inr j::as,i,0,l+1,nd,h1,h2=>by simp at h1;subst h1;exact absurd (Gi.mpr ⟨l,by simpa using h2⟩) (lj.mp nd).1
 |.inr j::as,i,k+1,0,nd,h1,h2=>by simp at h2;subst h2;exact absurd (Gi.mpr ⟨k,by simpa using h1⟩) (lj.mp nd).1
 |.inr j::as,i,k+1,l+1,nd,h1,h2=>by rw[zn (as:=as) (i:=i) (k:=k) (l:=l) (lj.mp nd).2 (by simpa using h1) (by simpa using h2)]
theorem aN.cal(r:aN K F S c u H)(C:hU K u F H as d)(L:dR c as=aa s)(J:(cm as).Nodup):aN K F (kY as S) s (d.map aa) H:=by
 obtain⟨G,B⟩:=yN L;have D:∀{k:Nat}{v:V},d[k]?=aa v->(d.map aa)[k]?=aa (aa v):=λ{k v} e=>by rw[eR,e];rfl
 refine⟨by rw[G,cz,C.len],r.ex,λk pv e=>?_,λk E e=>?_,λk b h=>?_,λk l b g o=>?_⟩
 .rcases B k _ e with⟨p,q1,n⟩|⟨_,_,_,_,z⟩
  .cases n;obtain⟨v,x,w⟩:=C.val q1;exact⟨v,D x,w⟩
  .cases z
 .rcases B k _ e with⟨_,_,z⟩|⟨i,p,q1,n,q3⟩
  .cases z
  .cases q3;obtain⟨v,x,w⟩:=C.own q1;obtain⟨a,b1,b2⟩:=r.own i E n;rw[w]at b1;cases b1;have M:kY as S k=S i:=by
    funext b;exact propext ⟨λζ=>by obtain⟨j,g,o⟩:=ζ;rw[q1]at g;cases g;exact o,λh=>⟨i,q1,h⟩⟩
   exact⟨a,D x,by rw[M];exact b2⟩
 .obtain⟨i,g,o⟩:=h;obtain⟨⟨E,q⟩,n⟩:=r.foot i b o;have I:k<s.length:=by rw[G];exact(cM.mp g).1
  refine⟨?_,n⟩;rcases B k s[k] (by simp[I])with⟨_,z,_⟩|⟨j,p,z1,z2,z3⟩
  .rw[g]at z;cases z
  .exact⟨p,by rw[fE I,z3]⟩
 .obtain⟨i,x,w⟩:=g;obtain⟨j,b1,b2⟩:=o;have:=r.dist i j b w b2;subst this;exact zn J x b1
theorem aN.called{O':ag->Prop}(r:aN K F S c u H)(ha:hU K u F H as d)(hs:dR c as=aa s)(P:(cm as).Nodup)(N:aN K A m f (d.map aa) y)(g:bp (U (kY as S)) O' F A H y)(hO:∀b,U m b->O' b)(uk:∀(k:Nat) i,as[k]?=aa (.inr i)->∃D,f[k]?=aa (.own D)):∃Y,aN K A Y (f_ c as f) u y/\bp (U S) (U Y) F A H y/\∀b,U Y b->U m b\/U S b:=by
 have up:∀{k:Nat}{v:V},(d.map aa)[k]?=aa (aa v)->d[k]?=aa v:=λ{k v} e=>by
  rw[eR]at e;cases q:d[k]? with
  |none=>rw[q]at e;cases e
  |some x=>rw[q]at e;cases e;rfl
 have fit:Fit (U (kY as S)) F H:=λb h=>r.fit b (yz b h);have L:∀i D,c[i]?=aa (.own D)->i<c.length:=λi D e=>(cM.mp e).1;have lt:∀(k:Nat) i,as[k]?=aa (.inr i)->i<c.length:=λk i e=>by
  obtain⟨hl,hg⟩:=yN hs;have E:k<s.length:=by rw[hl];exact(cM.mp e).1
  rcases hg k s[k] (by simp[E])with⟨_,z,_⟩|⟨j,p,z1,z2,z3⟩
  .rw[e]at z;cases z
  .rw[e]at z1;cases z1;exact L _ _ z2
 refine⟨λj b=>(∃k:Nat,as[k]?=aa (.inr j)/\m k b)\/(j∉cm as/\S j b),⟨by rw[xH];exact r.len,N.ex,λj pv e=>?_,λj D e=>?_,λj b h=>?_,λi j b B C=>?_⟩,⟨g.fro,λb o e n=>g.keep b o e λz=>n (yz b z),g.there,λa z=>(g.fnew a z).imp id λw=>w.imp id (yz a),λb ⟨j,z⟩=>?_⟩,λb ⟨j,z⟩=>?_⟩
 .by_cases I:j∈cm as
  .obtain⟨k,E⟩:=Gi.mp I;obtain⟨D,q⟩:=uk k j E;rw[uv as c f j k _ P (lt k j E) E q]at e;cases e
  .rw[tz as c f j I]at e;obtain⟨v,B,C⟩:=r.val j pv e;exact⟨v,B,C.grow g fit⟩
 .by_cases I:j∈cm as
  .obtain⟨k,E⟩:=Gi.mp I;obtain⟨po',q⟩:=uk k j E;rw[uv as c f j k _ P (lt k j E) E q]at e;cases e;obtain⟨a,B,C⟩:=N.own k D q;obtain⟨v,Q,X⟩:=ha.own E;rw[up B]at Q;cases Q;have W:(λb=>(∃k:Nat,as[k]?=aa (.inr j)/\m k b)\/(j∉cm as/\S j b))=m k:=by
    funext b;refine propext ⟨λz=>?_,λz=>.inl ⟨k,E,z⟩⟩;rcases z with⟨l,z1,z2⟩|⟨z,_⟩
    .rw[zn P E z1];exact z2
    .exact absurd I z
   exact⟨a,X,by rw[W];exact C⟩
  .rw[tz as c f j I]at e;obtain⟨a,B,C⟩:=r.own j D e;have W:(λb=>(∃k:Nat,as[k]?=aa (.inr j)/\m k b)\/(j∉cm as/\S j b))=S j:=by
    funext b;refine propext ⟨λz=>?_,λz=>.inr ⟨I,z⟩⟩;rcases z with⟨l,z1,z2⟩|⟨_,z⟩
    .exact absurd (Gi.mpr ⟨l,z1⟩) I
    .exact z
   have h3:eZ K y A D a (S j):=by refine C.mono (λ_ _ q=>q.grow g fit) (λ_ _ q=>q.grow g fit) λb o z q=>g.keep b o q λ⟨l,i,M,J⟩=>?_;have:=r.dist i j b J z;subst this;exact I (Gi.mpr ⟨l,M⟩)
   exact⟨a,B,by rw[W];exact h3⟩
 .rcases h with⟨k,B,C⟩|⟨B,C⟩
  .obtain⟨⟨D,q⟩,T⟩:=N.foot k b C;exact⟨⟨D,uv as c f j k _ P (lt k j B) B q⟩,T⟩
  .obtain⟨⟨D,q⟩,T,o,O,q4⟩:=r.foot j b C;have no:¬U (kY as S) b:=λζ=>by obtain⟨l,i,M,J⟩:=ζ;have:=r.dist i j b J C;subst this;exact B (Gi.mpr ⟨l,M⟩)
   refine⟨⟨D,by rw[tz as c f j B];exact q⟩,λz=>?_,o,g.keep b o O no,q4⟩;rcases g.fnew b z with w|w|w
   .exact T w
   .rw[O]at w;cases w
   .exact no w
 .have G:∀{i j:Nat}{b:ag},(∃k:Nat,as[k]?=aa (.inr i)/\m k b)->(j∉cm as/\S j b)->False:=λ{i j b} ⟨k,M,J⟩ ⟨w3,Z⟩=>by
   obtain⟨_,_,o,O,_⟩:=r.foot j b Z;rcases g.onew b (hO b ⟨k,J⟩)with⟨l,i',z1,z2⟩|z
   .have:=r.dist i' j b z2 Z;subst this;exact w3 (Gi.mpr ⟨l,z1⟩)
   .rw[O]at z;cases z
  rcases B with B|B <;> rcases C with C|C
  .obtain⟨k,Q,X⟩:=B;obtain⟨l,b1,b2⟩:=C;have:=N.dist k l b X b2;subst this;rw[Q]at b1;cases b1;rfl
  .exact(G B C).elim
  .exact(G C B).elim
  .exact r.dist i j b B.2 C.2
 .rcases z with⟨k,_,z⟩|⟨_,z⟩
  .rcases g.onew b (hO b ⟨k,z⟩)with w|w
   .exact .inl (yz b w)
   .exact .inr w
  .exact .inl ⟨j,z⟩
 .rcases z with⟨k,_,z⟩|⟨_,z⟩
  .exact .inl ⟨k,z⟩
  .exact .inr ⟨j,z⟩
end
def DR(X:Cx)(E:XK)(e:aB)(d:ak->R Slot):Prop :=
 ∀F S f a H Q,aN X.K F S f a H->Ok X.K E a F S H (d f) (λs _ h i c=>∀v g,i6 X.K c h s v g->(∀b,g b->H b=ae/\¬h b/\¬U i b/\∃o,c b=aa o/\cU o)->Q v c)->ig X e a H Q
def eP:List b0->ak->Bool
 |[],_=>ah
 |.inl _::as,_::ss=>eP as ss
 |.inr _::as,.own _::ss=>eP as ss
 |_,_=>aj
theorem kU:∀{as:List b0}{ss:ak},eP as ss=ah->∀(k:Nat) i,as[k]?=aa (.inr i)->∃a,ss[k]?=aa (.own a)
 |[],_,_,k,i,h=>by simp at h
 |.inl _::as,s::ss,q,0,i,h=>by simp at h
 |.inl _::as,s::ss,q,k+1,i,h=>by simpa using kU (as:=as) (ss:=ss) (by unfold eP at q;exact q) k i (by simpa using h)
 |.inr _::as,.own a::ss,q,0,i,h=>⟨a,rfl⟩
 |.inr _::as,.own a::ss,q,k+1,i,h=>by simpa using kU (as:=as) (ss:=ss) (by unfold eP at q;exact q) k i (by simpa using h)
 |.inr _::as,.val _::ss,q,k,i,h=>by cases q
 |.inr _::as,.none::ss,q,k,i,h=>by cases q
 |.inl _::as,[],q,k,i,h=>by cases q
 |.inr _::as,[],q,k,i,h=>by cases q
def d9{f:Type}(d:ak)(b:List b0)(r:R f):R f:=match r with
 |.ok s a=>if eP b a then .ok s (f_ d b a)else .no
 |.er c a=>if eP b a then .er c (f_ d b a)else .no
 |.no=>.no
def a9(g:ak->R Slot)(d:ak->R (List b0)):ak->R Slot:=λε=>(d ε).bind λb a=>(aQ (if(cm b).Nodup then dR a b else ae) a).bind λc a=>d9 a b (g c)
section
variable{m:gx}{X:Cx}{E:XK}{pin:List Nat}{e:aB}{j:List aB}{l:ak->R (List b0)}{pos:Pos}{x:Str}{k:Nat}{n:List Str}{g:ak->R Slot}{p:Pos}{d:ak->R Slot}
theorem HK{K:ay}{F0 u:ag->Prop}{S0 D:Nat->ag->Prop}{a:ak}{I:St}{H r:Hp}{c:List b0}{vs:List V}{Q:VK}(B:aN K u D a I r)(g1:bp (U S0) (U D) F0 u H r)(S:hU K I u r c vs)(q:Ok K E I u D r ((aQ (if(cm c).Nodup then dR a c else ae) a).bind λF a=>d9 a c (g F)) λs _ A Y h=>∀v G,i6 K h A s v G->(∀b,G b->H b=ae/\¬A b/\¬U Y b/\∃o,h b=aa o/\cU o)->Q v h):bt K g vs r Q E:=by
 have q:=Ok.bind q;by_cases C:(cm c).Nodup
 .rw[if_pos C]at q;cases j:dR a c with
  |none=>rw[j]at q;exact q.elim
  |some F=>
   rw[j]at q;have q:=q u D r B (bp.refl ..);dsimp only at q;refine⟨u,kY c D,F,B.cal S j C,?_⟩;cases P:g F with
   |no=>rw[P]at q;exact q.elim
   |er cv T=>
    rw[P]at q;intro y A Y h L O;unfold d9 at q;dsimp only at q;by_cases f:eP c T=ah
    .rw[if_pos f]at q;obtain⟨W,J,N,_⟩:=B.called S j C L O (λ_ z=>z) (kU f);exact q y A W h J N
    .rw[if_neg f]at q;exact q.elim
   |ok s T=>
    rw[P]at q;intro v A Y h G L O rv M fr;unfold d9 at q;dsimp only at q;by_cases f:eP c T=ah
    .rw[if_pos f]at q;obtain⟨W,J,N,u2⟩:=B.called S j C L O (λ_ z=>.inl z) (kU f);refine q A W h J N v G rv λb z=>⟨kM g1 (fr b z),(M b z).1,λw=>?_,(M b z).2.2⟩
     rcases u2 b w with w|⟨i,w⟩
     .exact(M b z).2.1 w
     .obtain⟨_,_,o,Z,_⟩:=B.foot i b w;rw[fr b z]at Z;cases Z
    .rw[if_neg f]at q;exact q.elim
 .rw[if_neg C]at q;exact q.elim
theorem bY(c:cf m X.prog X.w X.K X.mg X.base x k n (bt X.K g))(u:dW k X.A)(s:sN m X E)(B:DG X E (e::j) l)(y:Gl X x:=by rfl)(z:(x==("__debug__":Str))=aj:=by decide) (D:aR (e::j) X.env=(aj,a6 e X.env)::aR j X.env:=by rfl) (C:(c7 pos (aR j X.env)).any (·.1)=aj:=by rfl):DR X E (.Call (.Name x p) (e::j) [] pos) (a9 g l):=λF S i a H Q o h=>by obtain⟨f,L,v,J,A,w⟩:=c.ex;refine b9 (Fq J u y v w A .nil s im z D C) (B F S i a H _ o ((Ok.bind h).imp λM b P N O r G q K I=>?_));rw[fN];exact HK r G I q
def tF:Slot->Option PV
 |.val pv=>aa pv
 |.own (.lst xs)=>aa (.lst xs)
 |_=>ae
def bF(d:ak->R Slot):ak->R PV:=λε=>(d ε).bind λs a=>aQ (tF s) a
def sT:Slot->Option PO
 |.own a=>aa a
 |_=>ae
def iG(d:ak->R Slot):ak->R PO:=λε=>(d ε).bind λs a=>aQ (sT s) a
theorem DR.dn(h:DR X E e d):DN X E e (iG d):=λF S f i H Q w q=>by
 unfold iG at q;refine h F S f i H Q w ?_;cases b:d f with
 |no=>rw[b]at q;exact q.elim
 |er c r=>rw[b]at q;exact q
 |ok s o=>
  rw[b]at q;cases s with
  |none=>exact q.elim
  |val pv=>exact q.elim
  |own J=>intro I D G y A v C u B;obtain⟨a,rfl,z⟩:=u;exact q I D G y A a C z B
theorem DR.de(h:DR X E e d):DE X E e (bF d):=λF S ε b H Q f q=>by
 unfold bF at q;cases a:d ε with
 |no=>rw[a]at q;exact q.elim
 |er c o=>refine h F S ε b H Q f ?_;rw[a]at q ⊢;exact q
 |ok s ε1=>
  cases s with
  |none=>rw[a]at q;exact q.elim
  |val pv=>refine h F S ε b H Q f ?_;rw[a]at q ⊢;exact λD A B u z v J r I=>q D A B u z v r.1
  |own w=>
   refine h.dn.de F S ε b H Q f ?_;unfold dF iG;rw[a]at q ⊢;cases w with
   |lst xs=>exact q
   |dK i=>exact q
   |lls G=>exact q
   |ins C fs=>exact q
   |dT i=>exact q
   |inl C fs y xs=>exact q
def lC(d:ak->R Slot):ak->R aO:=λb=>(d b).bind λs a=>.ok (.ret s) a
theorem uD(G:DR X E e d):DS X E pin (.Return (aa e) pos) (lC d):=λF S o f H D A h=>by
 refine gC (xL bT) (G F S o f H _ A ?_);unfold lC at h;cases i:d o with
 |no=>rw[i]at h;exact h.elim
 |er c u=>rw[i]at h;exact λx P L N C I=>h x P L f N C I (iC.refl _ _)
 |ok s r=>rw[i]at h;intro O K M B a v J y q;exact h v O K f M J B ⟨a.fro,a.keep,a.there,a.fnew,λb z=>z.elim (a.onew b) λw=>.inr (q b w).1⟩ (iC.refl _ _) y λb z=>(q b z).2
def jA(d:ak->R Slot):ak->R aO:=λb=>(d b).bind λ_ a=>.ok .next a
theorem oE(q:DR X E e d)(o:jZ e ae pos.line X.env=pure aj:=by rfl):DS X E pin (.Expr e pos) (jA d):=λF S c a H D f h=>gC (Bs bT o) (q F S c a H _ f (h.bindE.imp λx b w s u i z r v B y A=>r w s a u i (bp.refl ..) (iC.refl _ _)))
end
end Pu
namespace L2
section
variable{X:Cx}{l:List (ag×Obj)}{i:St}{H:Hp}{s:am}{d:d7}{x:Str}{j:List Str}{g:List Nat}
theorem Gy{E m N:aB}{y:Str}{Z J F:Pos}{G k:Nat}{tgf:V->Hp->St->Prop}{A:List aB}{wi:TI}{ts:TT}{te:TE}(B:jq X d x j g)(hk:k<=g.length)(hc:X.calm=ah)(hi:PI X N m wi)(fF:∀C r w W O,PG (bM X d j C r w W O) N λv M H Q=>∃vs,vs.length=k+1/\M.length=j.length/\tgf v H vs/\Q (vs++M.drop (k+1)) H)(ht:∀C r w W O,sR (bM X d j C r w W O) A ts) (he:∀C r w W O,PE (bM X d j C r w W O) E te) (hN:X.N.Nodup) (rD:X.N[G]?=aa y) (hxy:Loc X.env.scope y) (rE:jZ (.ListComp E [⟨N,m,A,0⟩] d J) (aa (.Name y Z)) F.line X.env=pure ah) (hf:X.fn y=ah\/X.env.scope.names.lookup y=aa .local) (hs:∀x,mJ m X.env x=pure x):PS X (.Assign [.Name y Z] (.ListComp E [⟨N,m,A,0⟩] d J) F) (λD i H=>zo wi tgf k ts te g i H λv H'=>D.nx (i.set G (aa v)) H'):=by
 intro l s i H D I h;rw[exec_Assign_Name_used _ _ _ _ rE];refine aq (wpAny_standAt (aq ?_));show ar _ X.A (do let _ <-comprehension (.ListComp E [⟨N,m,A,0⟩] d J) d X.env _ (newList []) aj (a6 m X.env) (aa (pf (.Name y Z) X.env))) _ _ s;refine aq (dZ (?_:ar _ X.A _ (λ_ s'=>SP X l D .next s') X.xe s) (λ_ s' hq=>aG (aG hq)) λ_ _ e=>e);refine HS (use:=aa (pf (.Name y Z) X.env)) B hk hc hi fF ht he hs I h λ{K s6 H3 H5 fp σ5 a f} Y f3 I6 q=>?_;obtain⟨mm,hn6,_⟩:=I6.loc;have J6:Inv X l i _ _:=Y.unblock f3 I6 (Heap.SameBut.refl _ _);have P:K.heap.objs.size≠X.env.locals:=λe=>absurd Y.lt (by rw[<-e];exact fL _);have S:∀z c,X.env.cells.lookup z=aa c->c≠K.heap.objs.size:=λz c e e2=>by obtain⟨vv,oo,ho,_⟩:=Y.cell z c e;exact absurd (bN ho) (by rw[e2];exact fL _)
 refine wpAny_assign_Name (HL (v:=.ref a) J6 hN rD hxy rfl (λs7 I7 ⟨a7,sb7,ha7⟩=>?_) hf);have na7:K.heap.objs.size≠a7:=by
  rcases ha7 with z|z
  .rw[z];exact P
  .exact(S _ _ z).symm
 refine⟨mm,hn6.sameBut sb7 na7,λmT sb=>⟨_,_,?_,q⟩⟩;have T:H5 K.heap.objs.size=ae:=I6.free;refine I7.call' (s':={s7 with heap:=mT}) (ch:=[K.heap.objs.size]) rfl ⟨λb o e n hb L=>?_,λb o e n hb L=>?_,λb o e n L=>n,λb o e L=>?_,λb xs e=>e,λb o u e=>e,λb ps e=>e⟩ ?_ I7.bare λb hb=>?_
 .exact(sb.2 b (by simpa using L)).trans e
 .exact⟨o.slots,(sb.2 b (by simpa using L)).trans (by simpa using e)⟩
 .exact⟨o,(sb.2 b (by simpa using L)).trans e⟩
 .intro b u e;refine(I7.hok b u e).stay (λc v hc q=>(sb.2 c ?_).trans q) (λ_ q=>q) λ_ _ q=>q;rintro rfl;rcases hc with z|z
  .rw[<-z,T]at e;cases e
  .rw[T]at z;cases z
 .have e:b=K.heap.objs.size:=by simpa using hb
  subst e;refine⟨.inr Y.sz,P,S,λp hp e2=>?_⟩;obtain⟨e3,_⟩:=Y.pin p hp;exact absurd (bN e3) (by rw[e2];exact fL _)
theorem TN{n a:aB}{y:Str}{p w o f:Pos}{h:Nat}{m:List aB}{wi:TI}{ts:TT}{te:TE}(B:jq X d x j g)(K:X.calm=ah)(G:PI X (.Name x p) a wi)(E:∀C b c u q,sR (bM X d j C b c u q) m ts) (J:∀C b c u q,PE (bM X d j C b c u q) n te) (L:X.N.Nodup) (A:X.N[h]?=aa y) (r:Loc X.env.scope y) (z:jZ (.ListComp n [⟨.Name x p,a,m,0⟩] d o) (aa (.Name y w)) f.line X.env=pure ah) (I:X.fn y=ah\/X.env.scope.names.lookup y=aa .local) (F:∀x,mJ a X.env x=pure x):PS X (.Assign [.Name y w] (.ListComp n [⟨.Name x p,a,m,0⟩] d o) f) (λD i H=>Cs wi ts te g i H λv M=>D.nx (i.set h (aa v)) M):=Gy B (lY _) K G (EC B) E J L A r z I F
end
end L2
namespace Pu
open L2
def cP(ε:ak):List Nat->Option (List b0)
 |[]=>aa []
 |j::cap=>match ε[j]? with
  |some (.val pv)=>(cP ε cap).map (.inl pv::·)
  |some (.own _)=>(cP ε cap).map (.inr j::·)
  |_=>ae
def dw{b:Type}(cap:List Nat)(d:ak->R b)(x:PV):ak->R b:=λε=>(aQ (cP ε cap) ε).bind λa _=>(aQ (if(cm a).Nodup then dR ε (.inl x::a)else ae) ε).bind λc _=>d9 ε (.inl x::a) (d c)
def bz{a:Type}(r:R a):R a:=match r with
 |.er _ _=>.no
 |r=>r
def ju(cap:List Nat)(dt:ak->R Bool)(de:ak->R PV):List PV->List PV->ak->R (List PV)
 |[],b,ε=>.ok b ε
 |x::xs,b,ε=>(bz (dw cap dt x ε)).bind λk a=>match k with
  |true=>(bz (dw cap de x a)).bind λy c=>ju cap dt de xs (b++[y]) c
  |false=>ju cap dt de xs b a
def cV(cap:List Nat)(c:ak->R (List PV))(dt:ak->R Bool)(de:ak->R PV):ak->R PO:=λε=>(c ε).bind λxs ε1=>(ju cap dt de xs [] ε1).bind λb a=>.ok (.lst b) a
theorem xn{K:ay}{F:ag->Prop}{S:Nat->ag->Prop}{f:ak}{d:St}{H:Hp}(r:aN K F S f d H):∀{b:List Nat}{i:List b0},cP f b=aa i->∃c,hU K d F H i c/\fU d b=c.map aa
 |[],i,h=>by cases h;exact⟨[],rfl,rfl⟩
 |j::b,i,h=>by
  unfold cP at h;split at h
  .rename_i pv e;cases q:cP f b with
   |none=>rw[q]at h;cases h
   |some bs=>
    rw[q]at h;cases h;obtain⟨c,m,l⟩:=xn r q;obtain⟨v,g,n⟩:=r.val j pv e;refine⟨v::c,⟨v,c,rfl,n,m⟩,?_⟩;show(d[j]?).join::fU d b=_;rw[g,l];rfl
  .rename_i o e;cases q:cP f b with
   |none=>rw[q]at h;cases h
   |some bs=>
    rw[q]at h;cases h;obtain⟨c,m,l⟩:=xn r q;obtain⟨a,g,n⟩:=r.own j o e;refine⟨.ref a::c,⟨_,c,rfl,g,m⟩,?_⟩;show(d[j]?).join::fU d b=_;rw[g,l];rfl
  .cases h
theorem EJ{K:ay}{E:XK}{F:ag->Prop}{S:Nat->ag->Prop}{s:ak}{f:St}{H:Hp}{I:Type}{b:List Nat}{d:ak->R I}{x:PV}{v:V}{C:I->ak->(ag->Prop)->(Nat->ag->Prop)->Hp->Prop}(r:aN K F S s f H) (O:aU K H F x v) (h:Ok K E f F S H (bz (dw b d x s)) C):∃M l,aN K F M l (aa v::fU f b) H/\Ok K E0 (aa v::fU f b) F M H (d l) (λa _ q _ p=>∃j w,aN K q w j f p/\bp (U S) (U w) F q H p/\C a j q w p):=by
 unfold dw at h;cases D:cP s b with
 |none=>rw[D]at h;exact h.elim
 |some g=>
  rw[D]at h;simp only[b7,R.bind_ok]at h;by_cases A:(cm g).Nodup
  .rw[if_pos A]at h;cases u:dR s (.inl x::g)with
   |none=>rw[u]at h;exact h.elim
   |some l=>
    rw[u]at h;simp only[b7,R.bind_ok]at h;obtain⟨y,W,T⟩:=xn r D;have o:hU K f F H (.inl x::g) (v::y):=⟨v,y,rfl,O,W⟩
    have n:aa v::fU f b=(v::y).map aa:=by rw[T];rfl
    have m:(cm (.inl x::g)).Nodup:=A;refine⟨kY (.inl x::g) S,l,by rw[n];exact r.cal o u m,?_⟩;rw[n];cases B:d l with
    |no=>rw[B]at h;exact h.elim
    |er c G=>
     rw[B]at h;unfold d9 at h;dsimp only at h;by_cases i:eP (.inl x::g) G=ah
     .rw[if_pos i]at h;exact h.elim
     .rw[if_neg i]at h;exact h.elim
    |ok a G=>
     rw[B]at h;intro q w p P Q;unfold d9 at h;dsimp only at h;by_cases i:eP (.inl x::g) G=ah
     .rw[if_pos i]at h;obtain⟨N,J,L,_⟩:=r.called o u m P Q (λ_ z=>z) (kU i);exact⟨_,N,J,L,h q N p J L⟩
     .rw[if_neg i]at h;exact h.elim
  .rw[if_neg A]at h;exact h.elim
def qu(X:Cx)(a:List aB):TT:=λb H Q=>Bx (∀d s,Inv X d b H s->ar (ax X.prog X.w) X.A (forIn a ah λc r=>if r=ah then do let ok <-nP c X.env (a6 c X.env);pure (ForInStep.yield ok)else pure (ForInStep.yield r)) (TP X d b Q) X.xe s)
def DF(X:Cx)(E:XK)(c:List aB)(d:ak->R Bool):Prop:=∀F S f a H Q,aN X.K F S f a H->Ok X.K E a F S H (d f) (λb _ _ _ g=>Q b g)->qu X c a H Q
def cF:ak->R Bool:=λε=>.ok ah ε
theorem m8{X:Cx}{E:XK}:DF X E [] cF:=λF S d a H Q b h=>⟨λc s I=>N1 c s a H Q I (h F S H b (bp.refl ..))⟩
theorem yA{X:Cx}{E:XK}{c:aB}{d:ak->R Bool}(h:DT X E c d):DF X E [c] d:=λF S b a H Q f q=>⟨λg s I=>UC ny g s a H Q I (h F S b a H Q f q)⟩
theorem Ok.bindB{K:ay}{E:XK}{b:St}{F s:ag->Prop}{S n:Nat->ag->Prop}{H p:Hp}{j i:Type}{D:i->ak->(ag->Prop)->(Nat->ag->Prop)->Hp->Prop}{r:R j}{k:j->ak->R i}(h:Ok K E b F S H (r.bind k) D)(g:bp (U S) (U n) F s H p):Ok K E b s n p r (λa d _ _ _=>Ok K E b F S H (k a d) D):=by
 cases r with
 |no=>exact h
 |er c f=>exact λx u o q l m=>h x u o q l (g.trans m)
 |ok a f=>exact λu o q l m=>h
section
variable{X:Cx}{E:XK}{c:d7}{x:Str}{N':List Str}{cap:List Nat}
theorem bp.stay{O a F d:ag->Prop}{H b:Hp}(g:bp O a F d H b){l:ag}{o:HO}(e:H l=aa o)(n:¬O l)(f:¬F l):b l=aa o/\¬d l/\¬a l :=
 ⟨g.keep l o e n,λz=>(g.fnew l z).elim f λw=>w.elim (λq=>by rw[e]at q;cases q) n,λz=>(g.onew l z).elim n λq=>by rw[e]at q;cases q⟩
theorem aN.lay{K:ay}{F:ag->Prop}{S:Nat->ag->Prop}{i:ak}{h:St}{H:Hp}{l:ag}{o o':HO}(r:aN K F S i h H)(A:H l=aa o)(no:cU o)(y:¬F l)(m:¬U S l):bp (λb=>U S b\/b=l) (U S) F F H (L2.upd H l o')/\Fit (λb=>U S b\/b=l) F H/\aN K F S i h (L2.upd H l o'):=by
 have f:bp (λb=>U S b\/b=l) (U S) F F H (L2.upd H l o'):=⟨λ_ z=>z,λb o e n=>by rw[bj λz=>n (.inr z)];exact e,λb o e=>by
  by_cases p:b=l
  .subst p;exact⟨_,upd_same⟩
  .exact⟨o,by rw[bj p];exact e⟩,λ_ z=>.inl z,λ_ z=>.inl (.inl z)⟩
 have g:Fit (λb=>U S b\/b=l) F H:=λb z=>by
  rcases z with z|rfl
  .exact r.fit b z
  .exact⟨y,_,A,no⟩
 refine⟨f,g,r.len,λb z=>let ⟨o,q⟩:=r.ex b z;f.there b o q,λj pv e=>?_,λj v e=>?_,λj b z=>?_,r.dist⟩
 .obtain⟨w,d,a⟩:=r.val j pv e;exact⟨w,d,a.grow f g⟩
 .obtain⟨w,d,a⟩:=r.own j v e;refine⟨w,d,a.mono (λ_ _ q=>q.grow f g) (λ_ _ q=>q.grow f g) λb o z q=>?_⟩;rw[bj (by rintro rfl;exact m ⟨j,z⟩)];exact q
 .obtain⟨d,a,o,u,s⟩:=r.foot j b z;exact⟨d,a,o,by rw[bj (by rintro rfl;exact m ⟨j,z⟩)];exact u,s⟩
theorem bp.lay{O d F h:ag->Prop}{H f:Hp}{l:ag}{o':HO}(g:bp O d F h H f)(a:H l=ae):bp O d F h H (L2.upd f l o'):=by
 refine⟨g.fro,λb o e n=>?_,λb o e=>?_,g.fnew,g.onew⟩
 .rw[bj (by rintro rfl;rw[a]at e;cases e)];exact g.keep b o e n
 .obtain⟨i,q⟩:=g.there b o e;exact⟨i,by rw[bj (by rintro rfl;rw[a]at e;cases e)];exact q⟩
theorem Gz{elt A:aB}{px:Pos}{ifs:List aB}{di:ak->R (List PV)}{dt:ak->R Bool}{de:ak->R PV}(hi:DI X E (.Name x px) A di)(ht:∀C d f r p,DF (bM X c N' C d f r p) E0 ifs dt) (he:∀C d f r p,DE (bM X c N' C d f r p) E0 elt de){F:ag->Prop}{S:Nat->ag->Prop}{ε:ak}{j:St}{H:Hp}{Q:VK} (rl:aN X.K F S ε j H) (h:Ok X.K E j F S H (cV cap di dt de ε) (λpo _ s L g=>∀a Sa,eZ X.K g s po a Sa->(∀b,Sa b->H b=ae/\¬s b/\¬U L b/\∃o,g b=aa o/\cU o)->Q (.ref a) g)):Cs (nL X (.Name x px) A) (λj H Q=>∀C d f r p,qu (bM X c N' C d f r p) ifs j H Q) (λj H Q=>∀C d f r p,ig (bM X c N' C d f r p) elt j H Q) cap j H Q:=by
 refine hi F S ε j H _ rl ((Ok.bind h).imp λxs ε1 N S1 H1 r1 g1 h1 J vs RR rs hz hw keep l hl=>?_);have h1:=h1.bind;have hvl:vs.length=xs.length:=rs.len;have a0:Al N N H1 (upd H1 l (.lst [])):=Al.new0 hl;have nF1:¬N l:=λz=>by obtain⟨o,q⟩:=r1.ex l z;rw[hl]at q;cases q
 have nS1:¬U S1 l:=λζ=>by obtain⟨i,z⟩:=ζ;obtain⟨_,_,o,q,_⟩:=r1.foot i l z;rw[hl]at q;cases q
 have hH:H l=ae:=kM g1 hl;refine⟨λi m D g=>m=xs.length-i/\i<=xs.length/\∃s L Y P,aN X.K s L Y j g/\bp (U S1) (U L) N s H1 g/\g l=aa (.lst D)/\¬s l/\¬U L l/\Reps X.K g s P D/\D.length<=i /\ Ok X.K E j N S1 H1 (ju cap dt de (xs.drop i) P Y) (λys' w T S2 M=>Ok X.K E j T S2 M (R.ok (PO.lst ys') w) (λpo _ s L g=>∀a Sa,eZ X.K g s po a Sa->(∀b,Sa b->H b=ae/\¬s b/\¬U L b/\∃o,g b=aa o/\cU o)->Q (.ref a) g)),⟨_,rfl,lY _,N,S1,ε1,[],r1.al a0,a0.grow,upd_same,nF1,nS1,rfl,bd _,h1⟩,?_⟩;rintro i m D M ⟨rfl,hi,T,S2,w,P,O,K,el,nF2,nS2,n,hyl,q2⟩;have RH:=keep S2 T M K;by_cases bv:i<xs.length
 .obtain⟨v,hv⟩:∃v,vs[i]?=aa v:=⟨_,fE ∅⟩
  obtain⟨go,yl⟩:=(hw M RH i).1 v hv;refine .inr ⟨go,λv' g y=>⟨[aa v'],rfl,rfl,?_⟩⟩;obtain⟨e1,e2⟩:=yl v' g y;subst e1 e2;obtain⟨px',hx,rx⟩:=rs.back hv;have ed:xs.drop i=px'::xs.drop (i+1):=by rw[uc bv];congr 1;exact(cM.mp hx).2
  rw[ed]at q2;have Z:=rx.grow K r1.fit;have q3:=Ok.bindB q2 K;obtain⟨Sb,ss,rb,okb⟩:=EJ O Z q3;intro C d f r p;refine ht C d f r p T Sb ss _ g _ rb (okb.imp λb _ F3 _ H3 _ _ ζ=>?_);obtain⟨W,S3,r3,I,q4⟩:=ζ;obtain⟨el3,nF3,nS3⟩:=I.stay el nS2 nF2;cases b with
  |false=>exact ng ⟨_,∅,rfl,bv,F3,S3,W,P,r3,K.trans I,el3,nF3,nS3,n.grow I O.fit,∅,q4⟩
  |true=>refine nA ?_;have q5:Ok X.K E j N S1 H1 ((bz (dw cap de px' W)).bind λy w=>ju cap dt de (xs.drop (i+1)) (P++[y]) w) _:=q4;obtain⟨Sc,sc,rc,okc⟩:=EJ r3 (Z.grow I O.fit) (Ok.bindB q5 (K.trans I));intro C d f r p;refine he C d f r p F3 Sc sc _ H3 _ rc (okc.imp λy _ F4 _ H4 _ _ ⟨ε4,S4,r4,g4,q6⟩ u ru=>?_);obtain⟨el4,nF4,nS4⟩:=g4.stay el3 nS3 nF3;have G:=(n.grow I O.fit).grow g4 r3.fit;obtain⟨gl,B,r5⟩:=r4.lay (o':=.lst (D++[u])) el4 trivial nF4 nS4;have g5:=((K.trans I).trans g4).lay (o':=.lst (D++[u])) hl;refine⟨el4,?_,_,∅,rfl,bv,F4,S4,ε4,P++[y],r5,g5,upd_same,nF4,nS4,(G.grow gl B).app (.one (ru.grow gl B)),by simp;lia,q6⟩;lia
 .have e:i=xs.length:=∅
  subst e;refine .inl ⟨(hw M RH _).2 hvl.symm,?_⟩;rw[C7]at q2;exact q2 T S2 M O K T S2 M O (bp.refl ..) l (λb=>b=l) ⟨⟨D,el,n⟩,λb=>l6⟩ λb z=>by subst z;exact⟨hH,nF2,nS2,_,el,trivial⟩
theorem lz{j d:aB}{m pos:Pos}{i:List aB}{o:ak->R (List PV)}{dt:ak->R Bool}{de:ak->R PV}(B:jq X c x N' cap)(w:X.calm=ah)(u:DI X E (.Name x m) d o)(q:∀C a b g f,DF (bM X c N' C a b g f) E0 i dt) (v:∀C a b g f,DE (bM X c N' C a b g f) E0 j de) (r:∀x,mJ d X.env x=pure x:=by intro _;rfl):DN X E (.ListComp j [⟨.Name x m,d,i,0⟩] c pos) (cV cap o dt de):=λF S y l H Q p h=>b9 (OT (wi:=nL X (.Name x m) d) (ts:=λl H Q=>∀C a b g f,qu (bM X c N' C a b g f) i l H Q) (te:=λl H Q=>∀C a b g f,ig (bM X c N' C a b g f) j l H Q) (pos:=pos) B w zq (λC a b g f n s l H Q I h=>(h C a b g f).run n s I) (λC a b g f n s l H Q I h=>(h C a b g f).run n s I) r) (Gz u q v p h)
end
theorem MD(x y:Tx):tS x++tS y=tS (x++y):=by
 show(⟨x.toArray++y.toArray⟩:Str)=⟨(x++y).toArray⟩
 simp
def bi:PV->PV->Option PV
 |.int i,.int j=>aa (.int (i+j))
 |.str x,.str y=>if(x++y).length<=bo then aa (.str (x++y))else ae
 |.tup xs,.tup a=>if xs≠[]/\a≠[]/\xs.length+a.length<=1000 then aa (.tup (xs++a))else ae
 |.lst xs,.lst a=>if xs.length+a.length<=bo then aa (.lst (xs++a))else ae
 |_,_=>ae
def jT:PV->PV->Option PV
 |.int i,.int j=>aa (.int (i-j))
 |_,_=>ae
def vL(i:Int):Bool:=decide (-(2^64)<i/\i<2^64)
def lH:PV->PV->Option PV
 |.int i,.int j=>if vL i||vL j then aa (.int (i*j))else ae
 |.str x,.int j=>if 0<=j/\j<=100/\x.length<=100 then aa (.str (bu j.toNat x).flatten)else ae
 |_,_=>ae
def gP:PV->PV->Option PV
 |.int i,.int j=>if 0<j then aa (.int (i % j))else ae
 |_,_=>ae
def va:PV->PV->Option PV
 |.int i,.int j=>if 0<=j/\j<=1000000/\i.natAbs<2^64 then aa (.int (i^j.toNat))else ae
 |_,_=>ae
def fV:PV->Option PV
 |.int i=>aa (.int (-i))
 |_=>ae
def G1:R2:=λx y H Q=>∃l b xs a,x=.ref l/\y=.ref b/\Rd H l (.lst xs)/\Rd H b (.lst a)/\xs.length+a.length<=bh/\∀p,H p=ae->Q (.ref p) (upd H p (.lst (xs++a)))
def xY(K:ay):R2:=λx y H Q=>((mx λi j=>V.int (i+j)) x y H Q\/∃i j,x=.str i/\y=.str j/\i.length+j.length<=bh/\Q (.str (i++j)) H)\/(Fw K x y H Q\/G1 x y H Q)
def Hf:R2:=λx y H Q=>rI BB (λi j=>.int (i*j)) x y H Q\/∃(z:Tx) (n:Nat),x=tV z/\y=.int n/\n<=100/\z.length<=100/\Q (tV (bu n z).flatten) H
section
variable{X:Cx}{K:ay}
theorem uI:P2 K (mx λi j=>.int (i-j)) jT:=λF H x y v u Q pv b a e q=>by
 unfold jT at e;split at e
 .cases e;exact⟨_,_,b,a,q _ F H (Al.refl ..) rfl⟩
 .cases e
theorem tP:P2 K (rI (λ_ j=>0<j) λi j=>.int (i % j)) gP:=λF H x y v u Q pv b a e q=>by
 unfold gP at e;split at e
 .split at e
  .cases e;exact⟨_,_,b,a,by assumption,q _ F H (Al.refl ..) rfl⟩
  .cases e
 .cases e
theorem UF:P2 K (rI FR λi j=>.int (i^j.toNat)) va:=λF H x y v u Q pv b a e q=>by
 unfold va at e;split at e
 .split at e
  .cases e;exact⟨_,_,b,a,by assumption,q _ F H (Al.refl ..) rfl⟩
  .cases e
 .cases e
theorem o8:P1 K (rU λi=>.int (-i)) fV:=λF H x v Q pv a e q=>by
 unfold fV at e;split at e
 .cases e;exact⟨_,a,q _ F H (Al.refl ..) rfl⟩
 .cases e
theorem BW{c:List (ag×Obj)}{b:St}{H:Hp}{s:am}{l:ag}{xs:List V}(I:Inv X c b H s)(h:Rd H l (.lst xs)):∃(a:List ai) (n:Nat),bx xs a/\s.heap.get? l=aa {cls:=.type "list",data:=.seq a.toArray n}/\xs.length<=bh:=by obtain⟨z,a,n,r,e⟩:=h.ok I.hok;exact⟨a,n,r,e,z⟩
theorem Nx:bX X (iy .Add) G1:=by
 intro C s p H x y v u Q I i g h;obtain⟨l,b,xs,w,rfl,rfl,f,j,B,q⟩:=h;cases i;cases g;obtain⟨c,n,r,e,_⟩:=BW I f;obtain⟨a,z,d,o,_⟩:=BW I j;have f:=r.length;have A:=d.length;refine PySem.P.add_list e o ?_ (by rw[cH,cH];lia);have m:c.toArray++a.toArray=(c++a).toArray:=by simp
 rw[m];exact⟨.ref _,_,I.lnew (t':=s.toks) (r.append d) (by rw[dS];lia),rfl,q _ I.fresh⟩
theorem fc:bX X (iy .Add) (xY X.K):=(Vm.or Nh).or (Vg.or Nx)
theorem eV:P2 K (xY K) bi:=λF H x y v u Q pv l j e q=>by
 unfold bi at e;split at e
 .cases e;exact .inl (.inl ⟨_,_,l,j,q _ F H (Al.refl ..) rfl⟩)
 .rename_i x y;split at e
  .rename_i c;cases e;refine .inl (.inr ⟨_,_,l.1,j.1,?_,?_⟩)
   .rw[kN,kN];rw[dS]at c;exact c0 c mE
   .exact q _ F H (Al.refl ..) ⟨by rw[MD];rfl,c⟩
  .cases e
 .rename_i xs s;split at e
  .rename_i c;cases e;obtain⟨a,n,rfl,r,f⟩:=l;obtain⟨b,m,rfl,o,d⟩:=j;have h:=f.len;have g:=d.len;refine .inr (.inl ⟨a,b,n,m,rfl,rfl,cu.of r,cu.of o,λz=>c.1 (by rw[z]at h;exact t6 h.symm),by rw[h,g];exact A1 c.2.2,λz=>absurd (by rw[z]at g;exact t6 g.symm) c.2.1,λ_ p i=>?_⟩);exact q _ F _ (Al.new0 i) ⟨p,_,rfl,upd_same,(Al.new0 i).reps (f.app d)⟩
  .cases e
 .rename_i xs s;split at e
  .rename_i c;cases e;obtain⟨a,n,rfl,r,A,f⟩:=l;obtain⟨b,m,rfl,o,w,d⟩:=j;have h:=f.len;have g:=d.len;refine .inr (.inr ⟨a,b,n,m,rfl,rfl,r,o,by rw[h,g];exact c0 c mE,λp i=>?_⟩);exact q _ _ _ (Al.new i) ⟨p,_,rfl,.inl upd_same,.inr rfl,(Al.new i).reps (f.app d)⟩
  .cases e
 .cases e
theorem Bb:bX X (iy .Mult) Hf:=U_.or QB
theorem AO:P2 K Hf lH:=λF H x y v u Q pv b a e q=>by
 unfold lH at e;split at e
 .rename_i i j;split at e
  .rename_i h;cases e;refine .inl ⟨_,_,b,a,?_,q _ F H (Al.refl ..) rfl⟩;rw[CV]at h;exact h.imp of_decide_eq_true of_decide_eq_true
  .cases e
 .rename_i x j;split at e
  .rename_i h;cases e;refine .inr ⟨x,j.toNat,b.1,?_,∅,h.2.2,q _ F H (Al.refl ..) ⟨rfl,?_⟩⟩
   .rw[show u=V.int j from a];congr 1;lia
   .rw[yr];have c:j.toNat<=100:=∅
    exact c0 (qY c h.2.2) (by decide)
  .cases e
 .cases e
def dD(f:Int->Int->Bool):PV->PV->Option PV
 |.int i,.int j=>aa (.bl (f i j))
 |_,_=>ae
theorem jS{f:Int->Int->Bool}:P2 K (mx λi j=>.bl (f i j)) (dD f):=λF H x y v u Q pv b a e q=>by
 unfold dD at e;split at e
 .cases e;exact⟨_,_,b,a,q _ F H (Al.refl ..) rfl⟩
 .cases e
def d_:PV->Option V
 |.non=>aa .non
 |.bl b=>aa (.bl b)
 |.int i=>aa (.int i)
 |.str x=>aa (tV x)
 |_=>ae
theorem kc{H:Hp}{F:ag->Prop}{x:PV}{v w:V}(r:aU K H F x v)(e:d_ x=aa w):v=w:=by
 cases x <;> simp[d_]at e <;> subst e
 .exact r
 .exact r
 .exact r
 .exact r.1
theorem ux{x:PV}{w:V}(e:d_ x=aa w):gR w=ah:=by
 cases x <;> simp[d_]at e <;> subst e <;> rfl
mutual
def dH:PV->PV->Option Bool
 |.tup xs,y=>match y with
  |.tup a=>iK xs a
  |_=>ae
 |.lst xs,y=>match y with
  |.lst a=>iK xs a
  |_=>ae
 |.non,y=>(d_ y).map (eX .non)
 |.bl b,y=>(d_ y).map (eX (.bl b))
 |.int i,y=>(d_ y).map (eX (.int i))
 |.str x,y=>(d_ y).map (eX (tV x))
 |.raw _,_=>ae
 |.exc _,_=>ae
def iK:List PV->List PV->Option Bool
 |[],c=>aa c.isEmpty
 |x::xs,c=>match c with
  |[]=>aa aj
  |y::c=>(dH x y).bind λa=>(iK xs c).map λb=>a&&b
end
mutual
def kw:PV->Nat
 |.tup xs=>iw xs+1
 |.lst xs=>iw xs+1
 |_=>0
def iw:List PV->Nat
 |[]=>0
 |x::xs=>max (kw x) (iw xs)
end
theorem Cv{H:Hp}{d a:Nat}{x y:V}{k:Bool}(h:gz K H d x y k)(l:d<=a):gz K H a x y k:=λX g i b s u v A I f c j=>h X g i b s u v A I f c ∅
theorem yD{H:Hp}{F:ag->Prop}{w:V}{y:PV}{u:V}{k:Bool}{d:Nat}(b:gR w=ah)(e:(d_ y).map (eX w)=aa k)(a:aU K H F y u):gz K H d w u k:=by
 cases q:d_ y with
 |none=>rw[q]at e;cases e
 |some z=>
  rw[q]at e;cases e;rw[kc a q];exact E2 b (ux q)
theorem Lx{H:Hp}{a:ag}{xs b:List V}(h:Rd H a (.lst xs))(g:Rd H a (.lst b)):xs=b:=by
 rcases h with h|⟨o,h⟩ <;> rcases g with g|⟨c,g⟩ <;> rw[h]at g <;> cases g <;> rfl
theorem Up{a:Bool}{e:Nat->Bool}{n m:Nat}:gy (λj=>if j=0 then a else e (j-1)) (n+1) (m+1)=(a&&gy e n m):=by
 unfold gy;rw[show min (n+1) (m+1)=min n m+1 by lia,CT,qS,wd,if_pos rfl,Bool.and_assoc];congr 1;congr 1
 .simp
mutual
theorem AY{H:Hp}{F:ag->Prop}:∀(x y:PV) {v:V}{k:Bool},dH x y=aa k->aU K H F x v->aU K H F y v->k=ah
 |.tup xs,y,v,k,e,d,c=>by
  unfold dH at e;split at e
  .obtain⟨a,m,rfl,i,f⟩:=d;obtain⟨b,l,j,g,h⟩:=c;cases j;rw[i]at g;cases g;exact BL xs _ e f h
  .cases e
 |.lst xs,y,v,k,e,d,c=>by
  unfold dH at e;split at e
  .obtain⟨a,m,rfl,i,_,f⟩:=d;obtain⟨b,l,j,g,_,h⟩:=c;cases j;rw[Lx i g]at f;exact BL xs _ e f h
  .cases e
 |.non,y,v,k,e,d,c=>by
  unfold dH at e;cases q:d_ y with
  |none=>rw[q]at e;cases e
  |some z=>rw[q]at e;cases e;rw[<-kc c q,show v=V.non from d];rfl
 |.bl b,y,v,k,e,d,c=>by
  unfold dH at e;cases q:d_ y with
  |none=>rw[q]at e;cases e
  |some z=>rw[q]at e;cases e;rw[<-kc c q,show v=V.bl b from d];exact beq_self_eq_true b
 |.int b,y,v,k,e,d,c=>by
  unfold dH at e;cases q:d_ y with
  |none=>rw[q]at e;cases e
  |some z=>rw[q]at e;cases e;rw[<-kc c q,show v=V.int b from d];exact beq_self_eq_true b
 |.str b,y,v,k,e,d,c=>by
  unfold dH at e;cases q:d_ y with
  |none=>rw[q]at e;cases e
  |some z=>rw[q]at e;cases e;rw[<-kc c q,show v=tV b from d.1];exact beq_self_eq_true (tS b)
 |.raw _,_,_,_,e,_,_=>by unfold dH at e;cases e
 |.exc _,_,_,_,e,_,_=>by unfold dH at e;cases e
theorem BL{H:Hp}{F:ag->Prop}:∀(xs c:List PV) {d:List V}{k:Bool},iK xs c=aa k->Reps K H F xs d->Reps K H F c d->k=ah
 |[],c,d,k,e,h,f=>by
  unfold iK at e;rw[show d=[] from h]at f;have:=f.len;cases c with
  |nil=>cases e;rfl
  |cons=>simp at this
 |x::xs,c,d,k,e,h,f=>by
  unfold iK at e;obtain⟨v,r,rfl,l,j⟩:=h;cases c with
  |nil=>have:=f.len;simp at this
  |cons y c=>
   obtain⟨p,q,o,n,m⟩:=f;cases o;simp only at e;cases g:dH x y with
   |none=>rw[g]at e;cases e
   |some a=>
    cases i:iK xs c with
    |none=>rw[g,i]at e;cases e
    |some b=>
     rw[g,i]at e;cases e;rw[AY x y g l n,BL xs c i j m];rfl
end
mutual
theorem Jb{H:Hp}{F:ag->Prop}:∀(x y:PV) {v u:V}{k:Bool},dH x y=aa k->aU K H F x v->aU K H F y u->gz K H (kw x) v u k
 |.tup xs,y,v,u,k,e,d,c=>by
  have o:=e;unfold dH at e;split at e
  .rename_i h;obtain⟨a,q,rfl,n,j⟩:=id d;obtain⟨b,p,rfl,m,i⟩:=id c;by_cases g:a=b
   .subst g;rw[AY _ _ o d c];exact EF
   .obtain⟨f,l,rfl⟩:=vo xs h e j i;unfold kw;exact MT (cu.of n) (cu.of m) g l
  .cases e
 |.lst xs,y,v,u,k,e,d,c=>by
  have o:=e;unfold dH at e;split at e
  .rename_i h;obtain⟨a,q,rfl,n,_,j⟩:=id d;obtain⟨b,p,rfl,m,_,i⟩:=id c;by_cases g:a=b
   .subst g;rw[AY _ _ o d c];exact EF
   .obtain⟨f,l,rfl⟩:=vo xs h e j i;unfold kw;exact KL (.inl n) (.inl m) g l
  .cases e
 |.non,y,v,u,k,e,d,c=>by unfold dH at e;rw[show v=V.non from d];exact yD rfl e c
 |.bl b,y,v,u,k,e,d,c=>by unfold dH at e;rw[show v=V.bl b from d];exact yD rfl e c
 |.int b,y,v,u,k,e,d,c=>by unfold dH at e;rw[show v=V.int b from d];exact yD rfl e c
 |.str b,y,v,u,k,e,d,c=>by unfold dH at e;rw[show v=tV b from d.1];exact yD rfl e c
 |.raw _,_,_,_,_,e,_,_=>by unfold dH at e;cases e
 |.exc _,_,_,_,_,e,_,_=>by unfold dH at e;cases e
theorem vo{H:Hp}{F:ag->Prop}:∀(xs c:List PV) {d g:List V}{k:Bool},iK xs c=aa k->Reps K H F xs d->Reps K H F c g -> ∃f:Nat->Bool,(∀(j:Nat) x y,d[j]?=aa x->g[j]?=aa y->gz K H (iw xs) x y (f j))/\k=gy f d.length g.length
 |[],c,d,g,k,e,m,i=>by
  unfold iK at e;rw[show d=[] from m];refine⟨λ_=>ah,λj x y h=>by simp at h,?_⟩;have:=i.len;cases e;unfold gy;cases c with
  |nil=>simp at this;simp[this]
  |cons=>rw[this];simp
 |x::xs,c,d,g,k,e,m,i=>by
  unfold iK at e;obtain⟨v,r,rfl,A,z⟩:=m;cases c with
  |nil=>
   cases e;rw[show g=[] from i];exact⟨λ_=>ah,λj x y _ h=>by simp at h,by simp[gy]⟩
  |cons y c=>
   obtain⟨u,D,rfl,C,B⟩:=i;simp only at e;cases l:dH x y with
   |none=>rw[l]at e;cases e
   |some a=>
    cases n:iK xs c with
    |none=>rw[l,n]at e;cases e
    |some b=>
     rw[l,n]at e;cases e;obtain⟨f,w,rfl⟩:=vo xs c n z B;refine⟨λj=>if j=0 then a else f (j-1),λj p q s o=>?_,by rw[eG,eG,Up]⟩;cases j with
     |zero=>simp at s o;subst s o;show gz K H _ _ _ (if(0:Nat)=0 then a else f (0-1));rw[if_pos rfl];exact Cv (Jb x y l A C) (by unfold iw;exact Nat.le_max_left _ _)
     |succ j=>show gz K H _ _ _ (if j+1=0 then a else f (j+1-1));rw[if_neg ∅];exact Cv (w j p q (by simpa using s) (by simpa using o)) (show iw xs<=max (kw x) (iw xs)from Nat.le_max_right _ _)
end
def eqT(neg:Bool)(x y:PV):Option PV:=match d_ x,d_ y with
 |some v,aa u=>if nB v u then aa (.bl (neg^^decide (v=u)))else ae
 |none,ae=>if kw x<=8 then(dH x y).map λk=>.bl (neg^^k)else ae
 |_,_=>ae
def Ic(K:ay):R2:=λx y H Q=>G6 x y H Q\/u0 K aj x y H Q
def ED(K:ay):R2:=λx y H Q=>FY x y H Q\/u0 K ah x y H Q
theorem nH(a:X.A.units+64<cLine):bX X (eE .Eq) (Ic X.K):=Vi.or (K9 a)
theorem xE(a:X.A.units+64<cLine):bX X (eE .NotEq) (ED X.K):=Vw.or (Re a)
theorem Ig{H:Hp}{F:ag->Prop}{x y:PV}{v u:V}{k:Bool}{Q:VK}{neg:Bool}(g:d_ x=ae)(e:dH x y=aa k)(A:kw x<=8)(w:aU K H F x v)(s:aU K H F y u)(q:Q (.bl (neg^^k)) H):u0 K neg v u H Q:=by
 have c:∀{d:Bool},k=d->Q (.bl (if neg=ah then !d else d)) H:=λ{d} z=>by subst z;cases neg <;> simpa using q
 cases x with
 |tup xs=>
  unfold dH at e;split at e
  .rename_i h;obtain⟨a,j,rfl,p,m⟩:=w;obtain⟨b,i,rfl,o,l⟩:=s;obtain⟨f,n,r⟩:=vo xs h e m l;unfold kw at A;exact⟨a,b,j,i,iw xs,f,rfl,rfl,.inr ⟨cu.of p,cu.of o⟩,∅,n,c r⟩
  .cases e
 |lst xs=>
  unfold dH at e;split at e
  .rename_i h;obtain⟨a,j,rfl,p,_,m⟩:=w;obtain⟨b,i,rfl,o,_,l⟩:=s;obtain⟨f,n,r⟩:=vo xs h e m l;unfold kw at A;exact⟨a,b,j,i,iw xs,f,rfl,rfl,.inl ⟨.inl p,.inl o⟩,∅,n,c r⟩
  .cases e
 |raw _=>unfold dH at e;cases e
 |exc _=>unfold dH at e;cases e
 |non=>cases g
 |bl _=>cases g
 |int _=>cases g
 |str _=>cases g
theorem nj:P2 K (Ic K) (eqT aj):=λF H x y v u Q pv g f e q=>by
 unfold eqT at e;split at e
 .rename_i a b d h;split at e
  .rename_i i;cases e;rw[kc g d,kc f h];refine .inl ⟨i,?_⟩;have:=q (.bl (decide (a=b))) F H (Al.refl ..) (by simp[aU]);exact this
  .cases e
 .rename_i d h;split at e
  .rename_i j;cases c:dH x y with
   |none=>rw[c]at e;cases e
   |some k=>
    rw[c]at e;cases e;exact .inr (Ig (neg:=aj) d c j g f (q _ F H (Al.refl ..) rfl))
  .cases e
 .cases e
theorem yK:P2 K (ED K) (eqT ah):=λF H x y v u Q pv g f e q=>by
 unfold eqT at e;split at e
 .rename_i a b d h;split at e
  .rename_i i;cases e;rw[kc g d,kc f h];refine .inl ⟨i,?_⟩;have:=q (.bl (!decide (a=b))) F H (Al.refl ..) (by simp[aU]);exact this
  .cases e
 .rename_i d h;split at e
  .rename_i j;cases c:dH x y with
   |none=>rw[c]at e;cases e
   |some k=>
    rw[c]at e;cases e;exact .inr (Ig (neg:=ah) d c j g f (q _ F H (Al.refl ..) rfl))
  .cases e
 .cases e
end
end Pu
namespace Pu
open L2
section
variable{X:Cx}{K:ay}
def xj(i j:Tx):Bool:=!(Jh (tS j) (tS i) 0 (tS j).length 1).isEmpty
def k8:List PV->Option (List V)
 |[]=>aa []
 |x::xs=>(d_ x).bind λv=>(k8 xs).map λr=>v::r
theorem xw{H:Hp}{F:ag->Prop}:∀{xs:List PV}{c a:List V},Reps K H F xs c->k8 xs=aa a->c=a/\a.all gR=ah
 |[],_,_,r,e=>by cases e;exact⟨r,rfl⟩
 |x::xs,_,a,⟨v,r,rfl,f,d⟩,e=>by
  unfold k8 at e;cases q:d_ x with
  |none=>rw[q]at e;cases e
  |some w=>
   cases b:k8 xs with
   |none=>rw[q,b]at e;cases e
   |some i=>
    rw[q,b]at e;cases e;obtain⟨h,g⟩:=xw d b;exact⟨by rw[kc f q,h],by rw[qS,ux q,g];rfl⟩
def sh(neg:Bool):PV->PV->Option PV
 |.str x,.str y=>aa (.bl (neg^^xj x y))
 |x,.lst a=>(d_ x).bind λv=>(k8 a).map λb=>.bl (neg^^vd v b)
 |x,.tup a=>(d_ x).bind λv=>(k8 a).map λb=>.bl (neg^^vd v b)
 |_,_=>ae
def IC(K:ay):R2:=λx y H Q=>(∃i j,x=.str i/\y=.str j/\Q (.bl (!(Jh j i 0 j.length 1).isEmpty)) H)\/Ba K aj x y H Q
theorem Sz:bX X (eE .In) (IC X.K):=Ve.or SO
theorem Fx{H:Hp}{F:ag->Prop}{x:PV}{c:List PV}{v:V}{p:ag}{b:List V}{Q:VK}{neg:Bool}{pv:PV}(g:aU K H F x v)(i:cy K H p b\/cu K H p b)(h:Reps K H F c b)(e:((d_ x).bind λv=>(k8 c).map λf=>PV.bl (neg^^vd v f))=aa pv) (q:∀w,aU K H F pv w->Q w H):Ba K neg v (.ref p) H Q:=by
 cases a:d_ x with
 |none=>rw[a]at e;cases e
 |some w=>
  cases d:k8 c with
  |none=>rw[a,d]at e;cases e
  |some f=>
   rw[a,d]at e;cases e;obtain⟨rfl,j⟩:=xw h d;rw[kc g a];refine⟨p,b,rfl,i,ux a,j,?_⟩;have:=q _ rfl;cases neg <;> simpa using this
theorem KU:P2 K (IC K) (sh aj):=λF H x y v u Q pv d c e q=>by
 unfold sh at e;split at e
 .cases e;exact .inl ⟨_,_,d.1,c.1,by have:=q _ F H (Al.refl ..) rfl;simpa[xj]using this⟩
 .obtain⟨a,h,rfl,g,_,f⟩:=c;exact .inr (Fx (neg:=aj) d (.inl (.inl g)) f e λw b=>q w F H (Al.refl ..) b)
 .obtain⟨a,h,rfl,g,f⟩:=c;exact .inr (Fx (neg:=aj) d (.inr (cu.of g)) f e λw b=>q w F H (Al.refl ..) b)
 .cases e
def sv(a:Bool):PV->PV->Option PV
 |x,.non=>match x with
  |.non=>aa (.bl (a^^ah))
  |.raw _=>ae
  |_=>aa (.bl (a^^aj))
 |_,_=>ae
theorem K5{H:Hp}{F:ag->Prop}{x:PV}{v:V}(r:aU K H F x v)(h:x≠.non)(c:∀w,x≠.raw w):decide (v=V.non)=aj:=by
 refine decide_eq_false λz=>?_;subst z;cases x with
 |non=>exact h rfl
 |raw w=>exact c w rfl
 |bl _=>cases r
 |int _=>cases r
 |str _=>cases r.1
 |tup _=>obtain⟨a,b,e,_⟩:=r;cases e
 |lst _=>obtain⟨a,b,e,_⟩:=r;cases e
 |exc _=>obtain⟨a,e,_⟩:=r;cases e
theorem KY{H:Hp}{F:ag->Prop}{x y:PV}{v u:V}{Q:VK}{pv:PV}{a:Bool}(c:aU K H F x v)(f:aU K H F y u)(e:sv a x y=aa pv)(q:∀w d b,Al F d H b->aU K b d pv w->Q w b):u=.non/\Q (.bl (a^^decide (v=V.non))) H:=by
 unfold sv at e;split at e
 .refine⟨f,?_⟩;split at e
  .cases e;rw[show v=V.non from c];exact q _ F H (Al.refl ..) rfl
  .cases e
  .rename_i h g;cases e;rw[K5 c (λz=>h z) (λw z=>g w z)];exact q _ F H (Al.refl ..) rfl
 .cases e
theorem SJ:P2 K (λx y H Q=>y=.non/\Q (.bl (decide (x=.non))) H) (sv aj):=λF H x y v u Q pv b a e q=>by have:=KY b a e q;simpa using this
def bP:List PV->Option PV
 |[.str x]=>aa (.int x.length)
 |[.lst xs]=>aa (.int xs.length)
 |[.tup xs]=>aa (.int xs.length)
 |_=>ae
theorem ik{H:Hp}{F:ag->Prop}{x:PV}{a:List V}(r:Reps K H F [x] a):∃v,a=[v]/\aU K H F x v:=by obtain⟨v,b,rfl,d,c⟩:=r;rw[show b=[] from c];exact⟨v,rfl,d⟩
theorem iQ:PL K (λxs H Q=>∃x n,xs=[x]/\Fg K x H n/\Q (.int n) H) bP:=λF H xs h Q pv c e q=>by
 unfold bP at e;split at e
 .cases e;obtain⟨v,rfl,g⟩:=ik c;rw[g.1];exact⟨_,_,rfl,⟨by rw[kN];exact c0 g.2 mE,rfl⟩,by rw[kN];exact q _ F H (Al.refl ..) rfl⟩
 .cases e;obtain⟨v,rfl,a,b,rfl,f,_,d⟩:=ik c;exact⟨_,_,rfl,.inl ⟨b,.inl f,rfl⟩,by rw[d.len];exact q _ F H (Al.refl ..) rfl⟩
 .cases e;obtain⟨v,rfl,a,b,rfl,f,d⟩:=ik c;exact⟨_,_,rfl,.inr ⟨b,cu.of f,rfl⟩,by rw[d.len];exact q _ F H (Al.refl ..) rfl⟩
 .cases e
def sO:List PV->Option PO
 |[.lst xs]=>aa (.lst xs)
 |[.tup xs]=>aa (.lst xs)
 |_=>ae
theorem G5:nc K (λxs H Q=>∃p c,xs=[.ref p]/\(cy K H p c\/cu K H p c)/\∀l,H l=ae->Q (.ref l) (upd H l (.lst c))) sO:=λF H xs j Q m i h e q=>by
 unfold sO at e;split at e
 .cases e;obtain⟨v,rfl,a,d,rfl,g,_,f⟩:=ik h;exact⟨a,d,rfl,.inl (.inl g),λl b=>q l F _ _ (Al.new0 b) (xW b f) (yt b i trivial)⟩
 .cases e;obtain⟨v,rfl,a,d,rfl,g,f⟩:=ik h;exact⟨a,d,rfl,.inr (cu.of g),λl b=>q l F _ _ (Al.new0 b) (xW b f) (yt b i trivial)⟩
 .cases e
def kl:List PV->Option PV
 |[.lst xs]=>aa (.tup xs)
 |[.tup xs]=>aa (.tup xs)
 |_=>ae
theorem vH:PL K (λxs H Q=>∃p d,xs=[.ref p]/\((cy K H p d/\∀l,H l=ae->Q (.ref l) (upd H l (.tup d)))\/(cu K H p d/\Q (.ref p) H))) kl:=λF H xs i Q pv g e q=>by
 unfold kl at e;split at e
 .cases e;obtain⟨v,rfl,a,b,rfl,c,_,f⟩:=ik g;exact⟨a,b,rfl,.inl ⟨.inl c,λl h=>q _ F _ (Al.new0 h) ⟨l,b,rfl,upd_same,(Al.new0 h).reps f⟩⟩⟩
 .cases e;obtain⟨v,rfl,a,b,rfl,c,f⟩:=ik g;exact⟨a,b,rfl,.inr ⟨cu.of c,q _ F H (Al.refl ..) ⟨a,b,rfl,c,f⟩⟩⟩
 .cases e
def io:List PV->Option (List Tx)
 |[]=>aa []
 |.str x::xs=>(io xs).map (x::·)
 |_=>ae
def ao(ls:List Tx):List PV:=ls.map .str
theorem uS(a:List Tx):io (ao a)=aa a:=by
 induction a with
 |nil=>rfl
 |cons x a b=>show(io (ao a)).map (x::·)=_;rw[b];rfl
theorem xm:∀{xs:List PV}{a:List Tx},io xs=aa a->xs=ao a
 |[],a,e=>by cases e;rfl
 |.str x::xs,a,e=>by
  unfold io at e;cases q:io xs with
  |none=>rw[q]at e;cases e
  |some r=>rw[q]at e;cases e;rw[xm q];rfl
 |.non::_,_,e=>by cases e
 |.bl _::_,_,e=>by cases e
 |.int _::_,_,e=>by cases e
 |.tup _::_,_,e=>by cases e
 |.lst _::_,_,e=>by cases e
 |.raw _::_,_,e=>by cases e
 |.exc _::_,_,e=>by cases e
theorem Va{H:Hp}{F:ag->Prop}:∀{a:List Tx}{b:List V},Reps K H F (ao a) b↔b=cL a/\∀x∈a,x.length<=bo
 |[],b=>by simp[ao,Reps,cL]
 |x::a,b=>by
  show(∃v r,b=v::r/\(v=tV x/\x.length<=bo)/\Reps K H F (ao a) r)↔_;constructor
  .rintro⟨v,r,rfl,⟨rfl,f⟩,h2⟩;obtain⟨rfl,d⟩:=Va.mp h2;exact⟨rfl,λy c=>by
    rcases bI.mp c with rfl|c
    .exact f
    .exact d y c⟩
  .rintro⟨rfl,h⟩;exact⟨tV x,cL a,rfl,⟨rfl,h x (by simp)⟩,Va.mpr ⟨rfl,λy c=>h y (by simp[c])⟩⟩
def mW:List PV->Option (List Bool)
 |[]=>aa []
 |.bl b::xs=>(mW xs).map (b::·)
 |_=>ae
theorem GE{H:Hp}{F:ag->Prop}:∀{xs:List PV}{a:List V}{bs:List Bool},Reps K H F xs a->mW xs=aa bs->a=bs.map V.bl
 |[],_,_,r,e=>by cases e;exact r
 |.bl b::xs,_,bs,⟨v,r,rfl,d,c⟩,e=>by
  unfold mW at e;cases q:mW xs with
  |none=>rw[q]at e;cases e
  |some f=>rw[q]at e;cases e;rw[GE c q,show v=V.bl b from d];rfl
 |.non::_,_,_,_,e=>by cases e
 |.str _::_,_,_,_,e=>by cases e
 |.int _::_,_,_,_,e=>by cases e
 |.tup _::_,_,_,_,e=>by cases e
 |.lst _::_,_,_,_,e=>by cases e
 |.raw _::_,_,_,_,e=>by cases e
 |.exc _::_,_,_,_,e=>by cases e
def sQ:List PV->Option PV
 |[.lst xs]=>(mW xs).map λbs=>.bl (bs.all id)
 |_=>ae
theorem Jd:PL K (λxs H Q=>∃(p:ag) (bs:List Bool),xs=[.ref p]/\cy K H p (bs.map V.bl)/\Q (.bl (bs.all id)) H) sQ:=λF H xs h Q pv f e q=>by
 unfold sQ at e;split at e
 .rename_i d;cases b:mW d with
  |none=>rw[b]at e;cases e
  |some bs=>
   rw[b]at e;cases e;obtain⟨v,rfl,a,i,rfl,c,_,g⟩:=ik f;rw[GE g b]at c;exact⟨a,bs,rfl,.inl c,q _ F H (Al.refl ..) rfl⟩
 .cases e
def tI:PV->Option String
 |.non=>aa "NoneType"
 |.bl _=>aa "bool"
 |.int _=>aa "int"
 |.str _=>aa "str"
 |.tup _=>aa "tuple"
 |.lst _=>aa "list"
 |_=>ae
def fD:List PV->Option PV
 |[x,.raw (.ty T)]=>(tI x).bind λt=>(eQ [] (.type t) (.type T)).map λb=>.bl b
 |_=>ae
theorem sd:eU X (.builtin "isinstance") (λxs H Q=>∃x t T b,xs=[x,.ty T]/\i_ X.K H x (.type t)/\eQ X.K (.type t) (.type T)=aa b/\Q (.bl b) H):=by
 intro l s g H xs i Q I r h;obtain⟨x,t,T,b,rfl,ty,e,q⟩:=h;cases r with
 |cons f d=>
  cases d with
  |cons c a=>
   cases a;cases c;exact NW I f ty e λj=>⟨.bl b,H,I.tok _,rfl,q⟩
theorem OF{H:Hp}{F:ag->Prop}{x:PV}{v:V}{t:String}(r:aU K H F x v)(e:tI x=aa t):i_ K H v (.type t):=by
 cases x with
 |non=>cases e;rw[show v=V.non from r];exact .non
 |bl b=>cases e;rw[show v=V.bl b from r];exact .bl b
 |int b=>cases e;rw[show v=V.int b from r];exact .int b
 |str b=>cases e;rw[show v=tV b from r.1];exact .str _
 |tup xs=>cases e;obtain⟨a,d,rfl,c,_⟩:=r;exact .tup c
 |lst xs=>
  cases e;obtain⟨a,d,rfl,c,_⟩:=r;rcases c with c|⟨o,c⟩
  .exact .lst c
  .exact .frz c
 |raw _=>cases e
 |exc _=>cases e
theorem sJ:PL K (λxs H Q=>∃x t T b,xs=[x,.ty T]/\i_ K H x (.type t)/\eQ K (.type t) (.type T)=aa b/\Q (.bl b) H) fD:=λF H xs i Q pv d e q=>by
 unfold fD at e;split at e
 .rename_i x T;cases a:tI x with
  |none=>rw[a]at e;cases e
  |some t=>
   cases c:eQ [] (.type t) (.type T)with
   |none=>rw[a,iR,c]at e;cases e
   |some b=>
    rw[a,iR,c]at e;cases e;obtain⟨v,j,rfl,h,g⟩:=d;obtain⟨u,rfl,f⟩:=ik g;rw[show u=V.ty T from f];exact⟨v,t,T,b,rfl,OF h a,c,q _ F H (Al.refl ..) rfl⟩
 .cases e
theorem si{E:XK}{x:Str}{T:String}{f:Pos}(c:X.mg x=ae)(a:fe x=aa (.type T))(d:Gl X x:=by rfl)(b:x≠"__name__":=by decide)(g:(x==("__debug__":Str))=aj:=by decide):DE X E (.Name x f) (dC (.raw (.ty T))):=λF S i h H Q r q=>b9 (Ow (v:=.ty T) d c a rfl b g) (q F S H r (bp.refl ..) _ rfl)
def bn:PV->PV->Option PV
 |.lst xs,.int i=>fj xs i
 |.tup xs,.int i=>fj xs i
 |.str x,.int i=>(fj x i).map λc=>.str [c]
 |_,_=>ae
theorem EQ{H:Hp}{F:ag->Prop}{xs:List PV}{a:List V}{i:Int}{x:PV}(r:Reps K H F xs a)(e:fj xs i=aa x):∃v,fj a i=aa v/\aU K H F x v:=by
 unfold fj at e ⊢;rw[r.len];cases q:kQ xs.length i with
 |none=>rw[q]at e;cases e
 |some j=>rw[q]at e;exact r.get e
theorem fA:P2 K (HX K) bn:=λF H x y v u Q pv b f e q=>by
 unfold bn at e;split at e
 .rename_i xs i;obtain⟨a,d,rfl,j,_,g⟩:=b;obtain⟨w,m,l⟩:=EQ g e;exact .inl ⟨a,d,i,w,rfl,f,.inl j,m,q _ F H (Al.refl ..) l⟩
 .rename_i xs i;obtain⟨a,d,rfl,j,g⟩:=b;obtain⟨w,m,l⟩:=EQ g e;exact .inr (.inl ⟨a,d,i,w,rfl,f,cu.of j,m,q _ F H (Al.refl ..) l⟩)
 .rename_i x i;cases h:fj x i with
  |none=>rw[h]at e;cases e
  |some c=>
   rw[h]at e;cases e;rw[b.1];exact .inr (.inr ⟨_,i,c,rfl,f,by rw[kN];exact c0 b.2 mE,by rw[k9];exact h,q _ F H (Al.refl ..) ⟨rfl,by show 1<=bo;decide⟩⟩)
 .cases e
def gh{a:Type}(xs:List a)(b c:Option Int):List a:=(xs.drop (HT.sIx xs.length 0 b)).take (HT.sIx xs.length xs.length c-HT.sIx xs.length 0 b)
theorem P_{a:Type}(xs:List a)(b c:Option Int):(gh xs b c).length<=xs.length:=by unfold gh;rw[pi,mL];lia
def c_:PV->Option Int->Option Int->Option PV
 |.str x,a,b=>aa (.str (gh x a b))
 |.lst xs,a,b=>aa (.lst (gh xs a b))
 |.tup xs,a,b=>if HT.sIx xs.length 0 a=0/\HT.sIx xs.length xs.length b=xs.length then ae else aa (.tup (gh xs a b))
 |_,_,_=>ae
def Gh(K:ay):V->Option Int->Option Int->Hp->VK->Prop:=λx a b H Q=>GI x a b H Q\/(Ga K x a b H Q\/HA K x a b H Q)
theorem jW:nq X (Gh X.K):=U9.or (Vb.or NQ)
theorem Fd{H:Hp}{F:ag->Prop}{xs:List PV}{a:List V}(r:Reps K H F xs a)(b c:Option Int):Reps K H F (gh xs b c) (oI a b c):=by unfold gh oI;rw[r.len];exact(r.drop _).take _
theorem jV:GN K (Gh K) c_:=λF H x h i v Q pv b e q=>by
 unfold c_ at e;split at e
 .cases e;rw[b.1];refine .inl ⟨_,rfl,by rw[kN];exact c0 b.2 mE,?_⟩;refine q _ F H (Al.refl ..) ⟨?_,c0 (P_ ..) b.2⟩;unfold mB gh;rw[kN,k9];rfl
 .cases e;obtain⟨a,f,rfl,g,_,d⟩:=b;exact .inr (.inl ⟨a,f,rfl,.inl g,λp c=>q _ _ _ (Al.new c) ⟨p,_,rfl,.inl upd_same,.inr rfl,(Al.new c).reps (Fd d h i)⟩⟩)
 .split at e
  .cases e
  .rename_i j;cases e;obtain⟨a,f,rfl,g,d⟩:=b;exact .inr (.inr ⟨a,f,rfl,cu.of g,by rw[d.len];exact j,λp c=>q _ _ _ (Al.new0 c) ⟨p,_,rfl,upd_same,(Al.new0 c).reps (Fd d h i)⟩⟩)
 .cases e
variable{E:XK}{g l a b:aB}{d:ak->R PV}{m:ak->R (List PV)}{p f:Pos}
def fu:PV->Option (List PV)
 |.lst xs=>aa xs
 |.tup xs=>aa xs
 |.str x=>aa (x.map λc=>.str [c])
 |_=>ae
def bJ(d:ak->R PV):ak->R (List PV):=λε=>(d ε).bind λx ε1=>aQ (fu x) ε1
theorem FQ{H:Hp}{F:ag->Prop}:∀(x:Tx),Reps K H F (x.map λc=>PV.str [c]) (x.map sg)
 |[]=>rfl
 |c::x=>⟨sg c,x.map sg,rfl,⟨rfl,by show 1<=bo;decide⟩,FQ x⟩
theorem gT(he:DE X E l d):DI X E g l (bJ d):=λF S ε Z H Rr rl h=>Bx.mk λaf s I=>by
 have w:=he F S ε Z H (λv r=>∃B D u x,aN X.K B D u Z r/\aU X.K r B x v/\Ok X.K E Z B D r (aQ (fu x) u) (λpvs _ F' S' H'=>∀J L RR,Reps X.K H' F' pvs L->L.length<=bh->Walk J L RR->(∀S'' F'' Y,bp (U S') (U S'') F' F'' H' Y->RR Y)->Rr J H')) rl
  ((Ok.bind h).imp λx u B D r G g1 q v N=>⟨B,D,u,x,G,N,q⟩)
 refine aW (w.run af s I) λv c ζ=>?_;obtain⟨x,r,y,rx,B,D,u,pv,G,N,q⟩:=ζ;cases pv with
 |lst xs=>
  obtain⟨a,M,rfl,C,hF,ra⟩:=N;cases rx;obtain⟨O,rr,pp,P⟩:=y.list (.inl C);refine Jx pp.isList ?_;refine⟨c.heap.objs.size,[c.heap.objs.size],_,_,r,rfl,y.kept (t':=c.toks) λb o e=>bK _ e,PD a _,⟨_,cG _ rfl,rfl,rfl⟩,λb T=>?_,q B D r G (bp.refl ..) (Au X.K a) M (λH=>cy X.K H a M) ra P P6 λS2 F2 H2 g2=>.inl (g2.lst G.fit hF C)⟩;have e:b=c.heap.objs.size:=by simpa using T
  subst e;exact y.fpOk (bd _) (y.hok.fresh (bd _))
 |tup xs=>
  obtain⟨a,M,rfl,C,ra⟩:=N;cases rx;obtain⟨O,rr,pp,P⟩:=y.tuple (cu.of C);refine C8 (show c.heap.IsTuple a O.toArray from pp) ?_;refine⟨c.heap.objs.size,[c.heap.objs.size],_,_,r,rfl,y.kept (t':=c.toks) λb o e=>bK _ e,SE a _,⟨_,cG _ rfl,rfl,rfl⟩,λb T=>?_,q B D r G (bp.refl ..) (BG X.K a) M (λH=>cu X.K H a M) ra P Lf λS2 F2 H2 g2=>cu.of (g2.imm G.fit C id)⟩;have e:b=c.heap.objs.size:=by simpa using T
  subst e;exact y.fpOk (bd _) (y.hok.fresh (bd _))
 |str z=>
  obtain⟨rfl,P⟩:=N;obtain⟨t,rfl⟩:=rx;have qq:Rr (vR (tS z)) r:=q B D r G (bp.refl ..) (vR (tS z)) (z.map sg) (λ_=>True) (FQ z) (by rw[cz];exact c0 P mE) (by have:=QU (z:=tS z);rw[k9]at this;exact this) λ_ _ _ _=>trivial;have W:∀(n:String) (j:Nat->aD->Prop),(∀i h,j i h->∃o n L,h.get? c.heap.objs.size=aa o/\o.cls=.type n/\o.data=.fields L /\ ["enumerate","zip","dict_itemiterator","dict_reverseitemiterator","odict_iterator","itertools.zip_longest","itertools.pairwise"].contains n=aj) ->
    (∀(A:aX) (i:Nat) (s:am) (Q:ai->am->Prop) (E:ai->am->Prop),j i s.heap->Q (.ref c.heap.objs.size) s->ar (ax X.prog X.w) A (nR (.ref c.heap.objs.size)) Q E s) ->
    (∀A:aX,A.handled=ae->Walks X.prog X.w A c.heap.objs.size [c.heap.objs.size] [c.heap.objs.size] (tS z).cps.size (SignAt (tS z)) j) ->
    j 0 (c.heap.push {cls:=.type n,data:=.fields #[.str (tS z) t,.int 0 0]}) ->
    xz X af Z g Rr (.ref c.heap.objs.size) {c with heap:=c.heap.push {cls:=.type n,data:=.fields #[.str (tS z) t,.int 0 0]}}:=λn j q h2 h3 h4=>by
   refine⟨c.heap.objs.size,[c.heap.objs.size],j,vR (tS z),r,rfl,y.kept (t':=c.toks) λb o e=>bK _ e,Sl q h2 h3,h4,λb T=>?_,qq⟩;have e:b=c.heap.objs.size:=by simpa using T
   subst e;exact y.fpOk (bd _) (y.hok.fresh (bd _))
  cases C:(tS z).cps.all (· < 128)
  .refine wpAny_pyIter_wide C (W "str_iterator" (λi h=>h.IsStrIter c.heap.objs.size "str_iterator" (tS z) t i) (λi h ⟨o,e1,e2,e3⟩=>⟨o,_,_,e1,e2,e3,by decide⟩) (λA i s Q E st h=>wpAny_pyIter_striter_wide st h) (λA' hA=>Walks.strWide hA _ (tS z) t) ⟨_,cG _ rfl,rfl,rfl⟩)
  .refine wpAny_pyIter_ascii C (W "str_ascii_iterator" (λi h=>h.IsStrIter c.heap.objs.size "str_ascii_iterator" (tS z) t i) (λi h ⟨o,e1,e2,e3⟩=>⟨o,_,_,e1,e2,e3,by decide⟩) (λA i s Q E st h=>wpAny_pyIter_striter_ascii st h) (λA' hA=>Walks.strAscii hA _ (tS z) t) ⟨_,cG _ rfl,rfl,rfl⟩)
 |non=>exact(show False from q).elim
 |bl _=>exact(show False from q).elim
 |int _=>exact(show False from q).elim
 |raw _=>exact(show False from q).elim
 |exc _=>exact(show False from q).elim
def hG(c:Int)(n:Nat):List PV:=(dY n).map λi=>PV.int (c+(i:Nat))
theorem LX{H:Hp}{F:ag->Prop}(c:Int)(n:Nat):Reps K H F (hG c n) (sE c n):=by
 unfold hG sE
 induction (dY n)with
 |nil=>rfl
 |cons x xs h=>exact⟨_,_,rfl,rfl,h⟩
def kn:List PV->Option (List PV)
 |[.int j]=>if j<=1000000/\-1000000<=j then aa (hG 0 j.toNat)else ae
 |_=>ae
theorem uR(x:X.mg "range"=ae)(z:DA X E [a] m)(y:Gl X "range":=by rfl)(w:aR [a] X.env=[(aj,a6 a X.env)]:=by rfl):DI X E g (.Call (.Name "range" p) [a] [] f) (dL kn m):=λF S o i H J r h=>by
 refine Nt (Uk y x im w) (z F S o i H _ r ((Ok.bind h).imp λxs n C A B s I c D u=>?_));unfold kn at c;split at c
 .rename_i j;split at c
  .rename_i G;obtain⟨v,rfl,q⟩:=ik u;refine⟨j,by rw[show v=V.int j from q],∅,∅,c C A B s (bp.refl ..) _ _ _ (LX 0 j.toNat) (by rw[AE,lR];lia) N5 λ_ _ _ _=>trivial⟩
  .exact c.elim
 .exact c.elim
end
section
variable{K:ay}{F:ag->Prop}{S:Nat->ag->Prop}{f:ak}{l:St}{H:Hp}{i:Nat}{p m:List PV}{d:List V}{a:ag}
theorem aN.lstAt(r:aN K F S f l H)(e:f[i]?=aa (.own (.lst p))):∃a c,l[i]?=aa (aa (.ref a))/\H a=aa (.lst c)/\Reps K H F p c/\S i a/\∀b,S i b->b=a:=by obtain⟨a,o,⟨c,n,j⟩,g⟩:=r.own i _ e;exact⟨a,c,o,n,j,(g a).mpr rfl,λb h=>(g b).mp h⟩
theorem aN.upd(r:aN K F S f l H)(e:f[i]?=aa (.own (.lst p)))(D:l[i]?=aa (aa (.ref a)))(h:Reps K H F m d):aN K F S (f.set i (.own (.lst m))) l (upd H a (.lst d))/\bp (U S) (U S) F F H (upd H a (.lst d)):=by
 obtain⟨N,J,E,M,L,y,B⟩:=r.lstAt e;rw[D]at E;cases E;have A:i<f.length:=(cM.mp e).1;have g:bp (U S) (U S) F F H (L2.upd H a (.lst d)):=⟨λ_ z=>z,λb o q n=>by rw[bj (by rintro rfl;exact n ⟨i,y⟩)];exact q,λb o q=>by
  by_cases C:b=a
  .subst C;exact⟨_,upd_same⟩
  .exact⟨o,by rw[bj C];exact q⟩,λ_ z=>.inl z,λ_ z=>.inl z⟩
 refine⟨⟨by rw[gn];exact r.len,λb z=>let ⟨o,q⟩:=r.ex b z;g.there b o q,λj pv q=>?_,λj po q=>?_,λj b z=>?_,r.dist⟩,g⟩
 .have s:i≠j:=by rintro rfl;rw[fM A]at q;cases q
  rw[d8 s]at q;obtain⟨v,x,u⟩:=r.val j pv q;exact⟨v,x,u.grow g r.fit⟩
 .by_cases s:i=j
  .subst s;rw[fM A]at q;cases q;exact⟨a,D,⟨d,upd_same,h.grow g r.fit⟩,λb=>⟨B b,λz=>by rw[z];exact y⟩⟩
  .rw[d8 s]at q;obtain⟨c,x,u⟩:=r.own j po q;refine⟨c,x,u.mono (λ_ _ z=>z.grow g r.fit) (λ_ _ z=>z.grow g r.fit) λb o z w=>?_⟩;rw[bj (by rintro rfl;exact s (r.dist i j b y z))];exact w
 .obtain⟨⟨po,x⟩,u,o,I,G⟩:=r.foot j b z;by_cases s:i=j
  .subst s;rw[B b z];exact⟨⟨_,fM A⟩,by rw[<-B b z];exact u,_,upd_same,trivial⟩
  .exact⟨⟨po,by rw[d8 s];exact x⟩,u,o,by rw[bj (by rintro rfl;exact s (r.dist i j b y z))];exact I,G⟩
end
section
variable{X:Cx}{E:XK}{pin:List Nat}{e b:aB}{de db:ak->R PV}{d:Pos}
def eC(a:ak)(i:Nat):Option (List PV):=match a[i]? with
 |some (.own (.lst xs))=>aa xs
 |_=>ae
theorem jy{a:ak}{i:Nat}{xs:List PV}(h:eC a i=aa xs):a[i]?=aa (.own (.lst xs)):=by
 unfold eC at h;split at h
 .cases h;assumption
 .cases h
def oQ(i:Nat)(de:ak->R PV):ak->R aO:=λc=>(aQ (eC c i) c).bind λ_ c=>(de c).bind λy a=>(aQ (eC a i) a).bind λxs a=>if xs.length<bo then .ok .next (a.set i (.own (.lst (xs++[y]))))else .no
theorem GW(i:Nat){x:Str}{p f c:Pos}(N:DE X E e de)(Q:X.N[i]?=aa x:=by rfl)(K:ez X.env.scope x:=by first|exact Or.inl rfl|exact Or.inr (Or.inl rfl)|exact Or.inr (Or.inr rfl))(O:(x==("__debug__":Str))=aj:=by decide)(bB:(x==("__classdict__":Str))=aj:=by decide) (Z:nX (.Name x p) "append" X.env (a6 (.Name x p) X.env)=a6 (.Name x p) X.env:=by rfl)(Y:((c7 c (aR [e] X.env)).all (λx=>!x.1)&&(qT c (qU [] X.env)).all (λx=>x.1.isSome)&&decide ([e].length+([]:List kD).length+(if([]:List kD).isEmpty then 0 else 1)<30))=ah:=by rfl)(W:(f.endLine == c.line)=ah:=by rfl) (z:aR [e] X.env=(aj,a6 e X.env)::aR [] X.env:=by rfl) (T:(c7 c (aR [] X.env)).any (·.1)=aj:=by rfl)(L:jZ (.Call (.Attribute (.Name x p) "append" f) [e] [] c) ae d.line X.env=pure aj:=by rfl):DS X E pin (.Expr (.Call (.Attribute (.Name x p) "append" f) [e] [] c) d) (oQ i de):=λF S r o H D s h=>by
 unfold oQ at h;cases n:eC r i with
 |none=>rw[n]at h;exact h.elim
 |some A=>
  rw[n]at h;simp only[b7,R.bind_ok]at h;obtain⟨a,B,m,P,_,_,_⟩:=s.lstAt (jy n);refine gC (Bs (vG C9 PySem.F.slot_list_append PySem.F.type_list_append GZ (fI Q K O bB) (i4 bT ki z) Z Y W z T) L) ⟨.ref a,m,.inl ⟨rfl,_,cy.of P⟩,?_⟩;refine N F S r o H _ s (h.bindE.imp λy l F1 S1 H1 w g1 q v G=>?_);cases j:eC l i with
  |none=>rw[j]at q;exact q.elim
  |some xs=>
   rw[j]at q;simp only[b7,R.bind_ok]at q;obtain⟨a',C,g,J,u,_,_⟩:=w.lstAt (jy j);rw[m]at g;cases g;split at q
   .rename_i M;obtain⟨I,g2⟩:=w.upd (jy j) m (u.app (.one G));exact⟨a,C,v,rfl,rfl,J,by rw[u.len];exact ix M mE,q F1 S1 o _ I g2 (iC.refl _ _)⟩
   .exact q.elim
def Px:V->List V->Hp->VK->Prop:=λx c H Q=>∃l b xs a,x=.ref l/\c=[.ref b]/\H l=aa (.lst xs)/\Rd H b (.lst a)/\xs.length+a.length<=bh/\Q .non (L2.upd H l (.lst (xs++a)))
theorem Qk:zr X "list.extend" Px:=by
 intro M s B H x D v G Q I j m h;obtain⟨l,b,xs,C,rfl,rfl,i,w,K,q⟩:=h;cases j;obtain⟨u,rfl,o⟩:=m.one;cases o;obtain⟨z,c,n,r,L,e⟩:=I.lstM i;obtain⟨a,p,g,y,_⟩:=BW I w;have J:=g.length;have f:c.toArray.size+a.toArray.size<=bh:=by rw[cH,cH];lia
 have A:¬(!c.toArray.isEmpty&&zB (c.toArray.size+a.toArray.size))=ah:=by rw[R7 f,Bool.and_false];exact eF
 refine qV F.slot_list_extend ⟨_,e,rfl⟩ F.entry_list_extend (F.args_list_extend_2 _ _)
  (AutoSeq1.list_extend_list_list_0 l c.toArray n b a.toArray p A (by rw[cH];lia) ∅) ⟨e,y,?_⟩
 refine⟨.non,_,I.lset (its':=c++a) i e (by simp) (r.append g) ?_,rfl,q⟩;rw[dS];lia
def kr(i:Nat)(de:ak->R PV):ak->R aO:=λa=>(aQ (eC a i) a).bind λ_ a=>(de a).bind λy ε1=>(aQ (eC ε1 i) ε1).bind λxs ε1=>match y with
 |.lst c=>if xs.length+c.length<=bo then .ok .next (ε1.set i (.own (.lst (xs++c))))else .no
 |_=>.no
theorem yd(i:Nat){x:Str}{p g f:Pos}(Q:DE X E e de)(Z:X.N[i]?=aa x:=by rfl)(N:ez X.env.scope x:=by first|exact Or.inl rfl|exact Or.inr (Or.inl rfl)|exact Or.inr (Or.inr rfl))(T:(x==("__debug__":Str))=aj:=by decide)(bB:(x==("__classdict__":Str))=aj:=by decide) (h1:nX (.Name x p) "extend" X.env (a6 (.Name x p) X.env)=a6 (.Name x p) X.env:=by rfl)(h2:((c7 f (aR [e] X.env)).all (λx=>!x.1)&&(qT f (qU [] X.env)).all (λx=>x.1.isSome)&&decide ([e].length+([]:List kD).length+(if([]:List kD).isEmpty then 0 else 1)<30))=ah:=by rfl)(h3:(g.endLine == f.line)=ah:=by rfl) (B:aR [e] X.env=(aj,a6 e X.env)::aR [] X.env:=by rfl) (h5:(c7 f (aR [] X.env)).any (·.1)=aj:=by rfl)(O:jZ (.Call (.Attribute (.Name x p) "extend" g) [e] [] f) ae d.line X.env=pure aj:=by rfl):DS X E pin (.Expr (.Call (.Attribute (.Name x p) "extend" g) [e] [] f) d) (kr i de):=λF S s r H D u h=>by
 unfold kr at h;cases o:eC s i with
 |none=>rw[o]at h;exact h.elim
 |some C=>
  rw[o]at h;simp only[b7,R.bind_ok]at h;obtain⟨a,G,n,Y,_,_,_⟩:=u.lstAt (jy o);refine gC (Bs (vG C9 PySem.F.slot_list_extend PySem.F.type_list_extend Qk (fI Z N T bB) (i4 bT ki B) h1 h2 h3 B h5) O) ⟨.ref a,n,.inl ⟨rfl,_,cy.of Y⟩,?_⟩;refine Q F S s r H _ u (h.bindE.imp λy m F1 S1 H1 A g1 q v K=>?_);cases l:eC m i with
  |none=>rw[l]at q;exact q.elim
  |some xs=>
   rw[l]at q;simp only[b7,R.bind_ok]at q;obtain⟨a',I,j,M,z,_,_⟩:=A.lstAt (jy l);rw[n]at j;cases j;split at q
   .rename_i ys;split at q
    .rename_i P;obtain⟨c,J,rfl,W,_,w⟩:=K;obtain⟨L,g2⟩:=A.upd (jy l) n (z.app w);exact⟨a,c,I,J,rfl,rfl,M,W,by rw[z.len,w.len];exact c0 P mE,q F1 S1 r _ L g2 (iC.refl _ _)⟩
    .exact q.elim
   .exact q.elim
def zf(i:Nat)(db de:ak->R PV):ak->R aO:=λf=>(de f).bind λy c=>(aQ (eC c i) c).bind λ_ c=>(db c).bind λk a=>(aQ (eC a i) a).bind λxs a=>match k with
 |.int k=>match kQ xs.length k with
  |some j=>.ok .next (a.set i (.own (.lst (xs.set j y))))
  |none=>.no
 |_=>.no
theorem QP(i:Nat){x:Str}{p c:Pos}(Z:DE X E b db)(W:DE X E e de)(hN:X.N[i]?=aa x:=by rfl)(P:ez X.env.scope x:=by first|exact Or.inl rfl|exact Or.inr (Or.inl rfl)|exact Or.inr (Or.inr rfl))(Y:(x==("__debug__":Str))=aj:=by decide)(bB:(x==("__classdict__":Str))=aj:=by decide) (ha:∀v,pf (.Subscript (.Name x p) b c) X.env v=(do
   let ov <-nQ [v] (a6 (.Name x p) X.env)
   let iv <-nQ [v,ov] (a6 b X.env)
   standAt c
   nQ [v,ov,iv] (setItem ov iv v)
   release [v,ov,iv] []):=by intro _;rfl) (Q:swapsWithSole [.Subscript (.Name x p) b c] e d.line X.env=pure aj:=by rfl) (O:swappedStores [.Subscript (.Name x p) b c] e X.env=pure ae:=by rfl)
  (h1:(tT [.Subscript (.Name x p) b c] X.env).map (·.2)=[pf (.Subscript (.Name x p) b c) X.env]:=by rfl):DS X E pin (.Assign [.Subscript (.Name x p) b c] e d) (zf i db de):=λF S B n H D L h=>by
 refine gC (Oz bT (Kl (fI hN P Y bB) bT TY ha) Q O h1) (W F S B n H _ L (h.bindE.imp λy g F1 S1 H1 r g1 q v J=>?_));cases w:eC g i with
 |none=>rw[w]at q;exact q.elim
 |some C=>
  rw[w]at q;simp only[b7,R.bind_ok]at q;obtain⟨a,G,s,ha0,_,_,_⟩:=r.lstAt (jy w);refine⟨.ref a,s,Z F1 S1 g n H1 _ r (q.bindE.imp λk o F2 S2 H2 A g2 f u K=>?_)⟩;cases m:eC o i with
  |none=>rw[m]at f;exact f.elim
  |some xs=>
   rw[m]at f;simp only[b7,R.bind_ok]at f;obtain⟨a',I,l,N,z,_,_⟩:=A.lstAt (jy m);rw[s]at l;cases l;split at f
   .rename_i k;split at f
    .rename_i j T;obtain⟨M,g3⟩:=A.upd (jy m) s (z.set (J.grow g2 r.fit) j);exact⟨a,I,k,j,rfl,K,N,by rw[z.len];exact T,f F2 S2 n _ M g3 (iC.refl _ _)⟩
    .exact f.elim
   .exact f.elim
end
mutual
def imm:PV->Bool
 |.lst _=>aj
 |.tup xs=>nk xs
 |_=>ah
def nk:List PV->Bool
 |[]=>ah
 |x::xs=>imm x&&nk xs
end
mutual
theorem aU.imm{K:ay}{H:Hp}{F g:ag->Prop}:∀(x:PV) {v:V},imm x=ah->aU K H F x v->aU K H g x v
 |.non,_,_,h=>h
 |.bl _,_,_,h=>h
 |.int _,_,_,h=>h
 |.str _,_,_,h=>h
 |.raw _,_,_,h=>h
 |.exc _,_,_,h=>h
 |.lst _,_,e,_=>by simp[Pu.imm]at e
 |.tup xs,_,e,⟨a,b,f,d,c⟩=>⟨a,b,f,d,Reps.imm xs (by simpa[Pu.imm]using e) c⟩
theorem Reps.imm{K:ay}{H:Hp}{F g:ag->Prop}:∀(xs:List PV) {a:List V},nk xs=ah->Reps K H F xs a->Reps K H g xs a
 |[],_,_,h=>h
 |x::xs,_,e,⟨v,r,f,d,c⟩=>by
  have b:imm x=ah/\nk xs=ah:=by simpa[nk]using e
  exact⟨v,r,f,aU.imm x b.1 d,Reps.imm xs b.2 c⟩
end
section
variable{K:ay}{F:ag->Prop}{S:Nat->ag->Prop}{d:ak}{c:St}{H:Hp}{i:Nat}{f:List PV}
theorem aN.look(r:aN K F S d c H)(e:d[i]?=aa (.own (.lst f))):∃a,c[i]?=aa (aa (.ref a))/\¬F a/\aU K H (λb=>F b\/b=a) (.lst f) (.ref a)/\(∀b,F b\/b=a->∃o,H b=aa o) /\ (∀{h g},Al (λb=>F b\/b=a) h H g->Al F (λb=>h b/\b≠a) H g):=by
 obtain⟨a,m,q,l,p,n,s⟩:=r.lstAt e;have j:¬F a:=(r.foot i a n).2.1;refine⟨a,q,j,⟨a,m,rfl,.inl l,.inr rfl,Reps.mono (λ_ z=>.inl z) (λ_ _ _ z=>z) (λ_ _ z _=>z) _ _ p⟩,λb z=>z.elim (r.ex b) λz=>by rw[z];exact⟨_,l⟩,λ{h g} al=>⟨λb z=>⟨al.fro b (.inl z),by rintro rfl;exact j z⟩,al.same,λb z=>?_⟩⟩;rcases al.fnew b z.1 with(w|w)|w
 .exact .inl w
 .exact absurd w z.2
 .exact .inr w
end
section
variable{X:Cx}{E:XK}{e b:aB}{de db:ak->R PV}{d p:Pos}{x y:Str}{l T:String}{r:List V->Hp->VK->Prop}{f:List PV->Option PV}{g:List PV->Option PO}
def qd(o:Option PV):Option PV:=o.bind λv=>if imm v then aa v else ae
theorem KW{o:Option PV}{v:PV}(h:qd o=aa v):o=aa v/\imm v=ah:=by
 cases o with
 |none=>cases h
 |some w=>
  have h:(if imm w then aa w else ae)=aa v:=h;split at h
  .cases h;exact⟨rfl,by assumption⟩
  .cases h
def B2:PO->Bool
 |.lst xs=>nk xs
 |_=>aj
def jv{c:Type}(f:List PV->Option c)(i:Nat):ak->R c:=λa=>(aQ (eC a i) a).bind λxs a=>aQ (f [.lst xs]) a
theorem Ui{F:ag->Prop}{S:Nat->ag->Prop}{m:ak}{j:St}{H:Hp}{Q:VK}{i:Nat}(B:PL X.K r f)(s:aN X.K F S m j H)(h:Ok X.K E j F S H (jv (λxs=>qd (f xs)) i m) (λpv _ z _ c=>∀v,aU X.K c z pv v->Q v c)):∃a,j[i]?=aa (aa (.ref a))/\r [.ref a] H Q:=by
 unfold jv at h;cases q:eC m i with
 |none=>rw[q]at h;exact h.elim
 |some xs=>
  rw[q]at h;simp only[b7,R.bind_ok]at h;obtain⟨a,D,J,A,C,u⟩:=s.look (jy q);refine⟨a,D,?_⟩;cases o:qd (f [.lst xs])with
  |none=>rw[o]at h;exact h.elim
  |some pv=>rw[o]at h;obtain⟨I,G⟩:=KW o;exact B _ H [.lst xs] [.ref a] Q pv (.one A) I λw z c al n=>h _ S c (s.al (u al)) (u al).grow w (aU.imm pv G n)
theorem Hu(i:Nat)(A:eU X (.builtin l) r)(s:PL X.K r f)(v:X.mg x=ae)(n:fe x=aa (.builtin l))(B:X.N[i]?=aa y:=by rfl)(C:ez X.env.scope y:=by first|exact Or.inl rfl|exact Or.inr (Or.inl rfl)|exact Or.inr (Or.inr rfl))(z:(y==("__debug__":Str))=aj:=by decide) (I:(y==("__classdict__":Str))=aj:=by decide) (w:Gl X x:=by rfl) (u:x≠"__name__":=by decide) (m:(x==("__debug__":Str))=aj:=by decide) {c:Pos}(h:aR [.Name y c] X.env=(aj,a6 (.Name y c) X.env)::aR [] X.env:=by rfl) (G:(c7 d (aR [] X.env)).any (·.1)=aj:=by rfl):DE X E (.Call (.Name x p) [.Name y c] [] d) (jv (λxs=>qd (f xs)) i):=λF S K J H Q j q=>by obtain⟨a,D,o⟩:=Ui s j q;exact b9 (nJ A w v n (i4 (fI B C z I) ki h) u m h G) ⟨_,D,o⟩
def oZ(o:Option PO):Option PO:=o.bind λv=>if B2 v then aa v else ae
theorem Ss{F:ag->Prop}{S:Nat->ag->Prop}{q:ak}{n:St}{H:Hp}{Q:VK}{i:Nat}(hp:nc X.K r g)(v:aN X.K F S q n H)(h:Ok X.K E n F S H (jv (λxs=>oZ (g xs)) i q) (λA _ J S' m=>∀a s,eZ X.K m J A a s->(∀b,s b->H b=ae/\¬J b/\¬U S' b/\∃o,m b=aa o/\cU o)->Q (.ref a) m)):∃a,n[i]?=aa (aa (.ref a))/\r [.ref a] H Q:=by
 unfold jv at h;cases I:eC q i with
 |none=>rw[I]at h;exact h.elim
 |some xs=>
  rw[I]at h;simp only[b7,R.bind_ok]at h;obtain⟨a,ea,nF,Y,D,M⟩:=v.look (jy I);refine⟨a,ea,?_⟩;cases G:g [.lst xs]with
  |none=>rw[G]at h;exact h.elim
  |some A=>
   rw[G]at h;cases A with
   |dK B=>exact h.elim
   |lls j5=>exact h.elim
   |ins C fs=>exact h.elim
   |dT B=>exact h.elim
   |inl C fs y xs=>exact h.elim
   |lst u=>
    have h:Ok X.K E n F S H (aQ (if nk u then aa (PO.lst u)else ae) q) _:=h;split at h
    .rename_i hi;refine hp _ H [.lst xs] [.ref a] Q _ D (.one Y) G λc J m s al Z fr=>h _ S m (v.al (M al)) (M al).grow c s ?_ λb z=>?_
     .obtain⟨⟨W,o1,o2⟩,o3⟩:=Z;exact⟨⟨W,o1,Reps.imm u hi o2⟩,o3⟩
     .obtain⟨K,P,o,O,N⟩:=fr b z;refine⟨K,λw=>P w.1,λ⟨j,w⟩=>?_,o,O,N⟩;obtain⟨_,_,o',L,_⟩:=v.foot j b w;rw[K]at L;cases L
    .exact h.elim
theorem Hn(i:Nat)(A:eU X (.builtin l) r)(s:nc X.K r g)(v:X.mg x=ae)(n:fe x=aa (.builtin l))(B:X.N[i]?=aa y:=by rfl)(C:ez X.env.scope y:=by first|exact Or.inl rfl|exact Or.inr (Or.inl rfl)|exact Or.inr (Or.inr rfl))(z:(y==("__debug__":Str))=aj:=by decide) (I:(y==("__classdict__":Str))=aj:=by decide) (w:Gl X x:=by rfl) (u:x≠"__name__":=by decide) (m:(x==("__debug__":Str))=aj:=by decide) {c:Pos}(h:aR [.Name y c] X.env=(aj,a6 (.Name y c) X.env)::aR [] X.env:=by rfl) (G:(c7 d (aR [] X.env)).any (·.1)=aj:=by rfl):DN X E (.Call (.Name x p) [.Name y c] [] d) (jv (λxs=>oZ (g xs)) i):=λF S K J H Q j q=>by obtain⟨a,D,o⟩:=Ss s j q;exact b9 (nJ A w v n (i4 (fI B C z I) ki h) u m h G) ⟨_,D,o⟩
end
end Pu
namespace Pu
open L2
def lD(h:aD)(e T:ag)(c g:ai):Prop:=∃a b f d,h.get? e=aa a/\a.cls=c/\(a.data=.fields b/\a.dict=ae)/\b[1]?=aa (.ref T)/\T≠e/\h.get? T=aa f/\f.data=.fields d/\d[3]?=aa g
def Made(h:aD)(e:ag)(c:ai):Prop:=∃a b,h.get? e=aa a/\a.cls=c/\(a.data=.fields b/\a.dict=ae)/\b[1]?=aa .none
structure Kp(fs:List ag)(X:ag->Prop)(h h':aD):Prop where
 keep:∀b o,h.get? b=aa o->b∉fs->¬X b->h'.get? b=aa o
 slot:∀b o,h.get? b=aa o->b∈fs->¬X b->∃sl,h'.get? b=aa {o with slots:=sl}
 there:∀b o,h.get? b=aa o->∃o',h'.get? b=aa o'
theorem Kp.trans{fs:List ag}{X Y:ag->Prop}{h g f:aD}(a:Kp fs X h g)(b:Kp fs Y g f):Kp fs (λc=>X c\/Y c) h f where
 keep:=λc o e n x=>b.keep c o (a.keep c o e n λz=>x (.inl z)) n λz=>x (.inr z)
 slot:=λc o e n x=>by obtain⟨l,j⟩:=a.slot c o e n λz=>x (.inl z);obtain⟨d,i⟩:=b.slot c _ j n λz=>x (.inr z);exact⟨d,i⟩
 there:=λc o e=>let ⟨o',e'⟩:=a.there c o e;b.there c o' e'
theorem Kp.imp{fs d:List ag}{X Y:ag->Prop}{h j:aD}(a:Kp fs X h j)(f:∀b,b∈fs->b∈d)(g:∀b o,h.get? b=aa o->X b->Y b):Kp d Y h j where
 keep:=λc o e n x=>a.keep c o e (λz=>n (f c z)) λz=>x (g c o e z)
 slot:=λc o e n x=>by
  by_cases i:c∈fs
  .exact a.slot c o e i λz=>x (g c o e z)
  .exact⟨o.slots,a.keep c o e i λz=>x (g c o e z)⟩
 there:=a.there
theorem NV(f:Array ai->Array ai)(o:Obj):(l7 f o).dict=o.dict:=by
 obtain⟨c,d,dt,a⟩:=o;cases dt <;> rfl
section
variable{M:Model}{A:aX}{E:ai->am->Prop}{s:am}
theorem FI{z:aD}{l:Env}{g:List Env}{L e:ag}{w:Obj}{G:Array ai}{B:ai}{US:Bool}{Q:Unit->am->Prop}(mS:A.frames=aa (l::g)) (P:s.heap.FunFrames z (l::g)) (hf:l.frame=aa L) (S:s.heap.get? e=aa w) (I:w.data=.fields G) (Z:w.dict=ae) (v:1<G.size)(h:∀K T,Kp (fS (l::g)) (λb=>b=e) s.heap K->lD K e T w.cls .none->s.heap.objs.size<=T->Q () {s with heap:=K}):ar M A (do let a <-frameOf l;let r <-entryPlaceOf L US;let b <-EntryCells.newEntry B a .none (dq L) .none r;l5 (.ref e) 1 b) (λ_ Y=>ar M A (zM (.ref e) ae) Q E Y) E s:=by
 have y:e∉(l::g).filterMap (·.frame):=λhm=>by obtain⟨_,o,F,X⟩:=P.mem hm;rw[S]at F;injection F with F;subst F;exact X G I
 refine aq (wpAny_frameOf_fun mS P hf λc d=>?_);refine aq (wpAny_entryPlaceOf λr W=>?_);unfold EntryCells.newEntry newFields;refine aq (j1 ?_ (W.sizeOk5 _ _ _ _ _));have n:c.get? e=aa w:=(d.2.1 e y).trans S;have m:=bK (h:=c) {cls:=.type "traceback",dict:=ae,data:=.fields ([B,.ref L,.none,dq L,.none]++(if r.isEmpty then bu 6 Value.none else r)).toArray} n;refine mO m I v ?_;have C:c.objs.size≠e:=qO (bN n);have j:=n6 I (·.setIfInBounds 1 (Value.ref c.objs.size));have i:=mM (l7 (·.setIfInBounds 1 (Value.ref c.objs.size))) m (wq j);have p:=(pq (c.push {cls:=.type "traceback",dict:=ae,data:=.fields ([B,.ref L,.none,dq L,.none]++(if r.isEmpty then bu 6 Value.none else r)).toArray}) (l7 (·.setIfInBounds 1 (Value.ref c.objs.size))) (dN C)).trans (cG c rfl);unfold zM;refine aq (lW i j (x:=.ref c.objs.size) (by simp[v]) ?_);rw[if_pos (show(Value.ref c.objs.size != Value.none)=ah from by simp)];refine mO p rfl (by simp only[cH,dS,eG,pt] <;> lia) (h _ c.objs.size ?_ ?_ ?_)
 .have keep:∀b o,b≠e->c.get? b=aa o ->
    (((c.push {cls:=.type "traceback",dict:=ae,data:=.fields ([B,.ref L,.none,dq L,.none]++(if r.isEmpty then bu 6 Value.none else r)).toArray}).update e (l7 (·.setIfInBounds 1 (Value.ref c.objs.size)))).update c.objs.size (l7 (·.setIfInBounds 3 ((ae:Option ag).elim Value.none λf=>dq f)))).get? b=aa o:=λb o D u=>by
   have J:c.objs.size≠b:=qO (bN u);rw[pq _ _ J,pq _ _ (dN D)];exact bK _ u
  refine⟨λb o u O H=>keep b o H ((d.2.1 b O).trans u),λb o u O H=>?_,λb o u=>?_⟩
  .obtain⟨N,q⟩:=d.2.2 b o u;exact⟨N,keep b _ H q⟩
  .by_cases D:b=e
   .subst D;exact⟨_,(pq _ _ C).trans i⟩
   .obtain⟨N,q⟩:=d.2.2 b o u;exact⟨_,keep b _ D q⟩
 .refine⟨_,_,_,_,(pq _ _ C).trans i,JJ _ _,⟨j,by rw[NV];exact Z⟩,by simp[v],C,mM _ p (wq (n6 rfl _)),n6 rfl _,by first | (simp;done) | (rcases W with rfl|⟨_,_,_,_,_,_,_,rfl⟩ <;> simp)⟩
 .exact nY d.1.symm
theorem Q1{f:aD}{d:Env}{a:List Env}{L e:ag}{c:ai}{Q:Unit->am->Prop}(o:A.frames=aa (d::a))(q:s.heap.FunFrames f (d::a))(i:d.frame=aa L)(p:Made s.heap e c)(h:∀g T,Kp (fS (d::a)) (λb=>b=e) s.heap g->lD g e T c .none->s.heap.objs.size<=T->Q () {s with heap:=g}):ar M A (leaving d (.ref e)) Q E s:=by obtain⟨v,u,j,r,⟨l,n⟩,m⟩:=p;subst r;unfold leaving noteFrame;simp only[i];refine aq (aq (lW j l m ?_));rw[if_neg (by decide)];exact FI o q i j l n (qW.mp m).1 h
theorem Hd{l:aD}{g:Env}{outer:List Env}{L e T:ag}{c:ai}{Q:Unit->am->Prop}(H:A.frames=aa (g::outer))(N:s.heap.FunFrames l (g::outer))(u:g.frame=aa L)(J:lD s.heap e T c .none)(h:∀j T',Kp (fS (g::outer)) (λb=>b=e\/b=T) s.heap j->lD j e T' c .none->s.heap.objs.size<=T'->Q () {s with heap:=j}):ar M A (noteFrame (.ref e) g) (λ_ C=>ar M A (zM (.ref e) ae) Q E C) E s:=by
 obtain⟨S,r,W,B,v,G,⟨w,D⟩,y,F,n,m,x⟩:=J;subst G;unfold noteFrame;simp only[u];refine aq (lW v w y ?_);rw[if_pos (show(Value.ref T != Value.none)=ah from by simp)];refine aq (lW n m x ?_);rw[if_neg (show ¬((Value.none == dq L)=ah)from by simp[dq])];refine aq (mO n m (qW.mp x).1 ?_);have a:∀b,b≠T->(s.heap.update T (l7 (·.setIfInBounds 3 Value.none))).get? b=s.heap.get? b:=λb d=>pq _ _ (dN d);have f:∀b o,s.heap.get? b=aa o->(∀r,o.data≠.fields r)->b≠T:=λb o d p q=>by rw[q,n]at d;injection d with d;subst d;exact p B m
 refine FI H (N.of_keeps λb o d p=>⟨o,(a b (f b o d p)).trans d,rfl⟩) u ((a e (dN F)).trans v) w D (qW.mp y).1 λj T' k O K=>?_;have I:Kp (fS (g::outer)) (λb=>b=T) s.heap (s.heap.update T (l7 (·.setIfInBounds 3 Value.none))):=by
  refine⟨λb o d _ i=>(a b i).trans d,λb o d _ i=>⟨o.slots,(a b i).trans d⟩,λb o d=>?_⟩;by_cases i:b=T
  .subst i;exact⟨_,mM _ n (wq (n6 m _))⟩
  .exact⟨o,(a b i).trans d⟩
 refine h j T' ((I.trans k).imp (λ_ z=>z) λb o _ z=>z.symm) O ?_;have P:(s.heap.update T (l7 (·.setIfInBounds 3 Value.none))).objs.size<=T':=K;rwa[JK]at P
theorem S5{f:aD}{d:Env}{a:List Env}{L e T:ag}{c:ai}{Q:Unit->am->Prop}(j:A.frames=aa (d::a))(m:s.heap.FunFrames f (d::a))(n:d.frame=aa L)(l:lD s.heap e T c .none)(h:∀g i,Kp (fS (d::a)) (λb=>b=e\/b=T) s.heap g->lD g e i c .none->s.heap.objs.size<=i->Q () {s with heap:=g}):ar M A (leaving d (.ref e)) Q E s:=by unfold leaving;exact aq (Hd j m n l h)
theorem SA{e T:ag}{c D:ai}{Q:Unit->am->Prop}(B:lD s.heap e T c D)(h:∀l,Kp [] (λb=>b=T) s.heap l->lD l e T c .none->Q () {s with heap:=l}):ar M A (zM (.ref e) ae) Q E s:=by
 obtain⟨z,v,F,w,n,y,⟨p,x⟩,r,m,q,j,C⟩:=B;have u:3<w.size:=(qW.mp C).1;have a:∀b,b≠T->(s.heap.update T (l7 (·.setIfInBounds 3 ((ae:Option ag).elim Value.none λf=>dq f)))).get? b=s.heap.get? b:=λb g=>pq _ _ (dN g);have d:=mM (l7 (·.setIfInBounds 3 ((ae:Option ag).elim Value.none λf=>dq f))) q (wq (n6 j _));unfold zM;refine aq (lW n p r ?_);rw[if_pos (show(Value.ref T != Value.none)=ah from by simp)];refine mO q j u (h _ ⟨λb o g _ i=>(a b i).trans g,λb o g _ i=>⟨o.slots,(a b i).trans g⟩,λb o g=>?_⟩ ⟨z,v,_,_,(a e (dN m)).trans n,y,⟨p,x⟩,r,m,d,n6 j _,by simp[u]⟩);by_cases i:b=T
 .subst i;exact⟨_,d⟩
 .exact⟨o,(a b i).trans g⟩
end
def bU(P:aV)(w:aL):gx:=λb H s E e s'=>∃(a T:ag) (c:ai) (d:Hp),e=.ref a/\s'.os=s.os/\nO s'.gens/\Un (fS b) [] H d s.heap s'.heap/\dG P w d s'.heap/\lD s'.heap a T c .none /\
 (s.heap.get? a=ae/\s.heap.get? T=ae/\d a=ae/\d T=ae)/\E c ae d
theorem KJ{P:aV}{w:aL}{H:Hp}{h:aD}{a:ag}{o:HO}(x:cB P w H h a o):∃u,h.get? a=aa u:=by
 cases o with
 |lst xs=>obtain⟨_,_,_,_,e⟩:=x;exact⟨_,e⟩
 |tup xs=>obtain⟨_,_,_,⟨o,e,_⟩,_⟩:=x;exact⟨_,e⟩
 |dK b=>obtain⟨_,_,_,_,o,_,_,e,_⟩:=x;exact⟨_,e⟩
 |dT b=>obtain⟨_,_,_,_,o,_,_,e,_⟩:=x;exact⟨_,e⟩
 |set S n=>obtain⟨o,_,_,_,e,_⟩:=x;exact⟨_,e⟩
 |ins C l fs=>obtain⟨_,_,_,e,_⟩:=x;exact⟨_,e⟩
 |own y=>exact x
 |xd fs=>obtain⟨_,⟨_,_,_,e,_⟩,_⟩:=x;exact⟨_,e⟩
 |rng i j=>obtain⟨_,_,_,e⟩:=x;exact⟨_,e⟩
 |frz g u=>obtain⟨e,_⟩:=x;exact⟨_,e⟩
 |tbl d=>obtain⟨_,e,_⟩:=x;exact⟨_,e⟩
 |met f y=>exact⟨_,x⟩
 |ext c=>obtain⟨_,e,_⟩:=x;exact e
theorem M5{P:aV}{w:aL}{H:Hp}{h:aD}{a:ag}(x:dG P w H h)(e:h.get? a=ae):H a=ae:=by
 cases q:H a with
 |none=>rfl
 |some u=>obtain⟨o,z⟩:=KJ (x a u q);rw[e]at z;cases z
theorem tE{fs:List ag}{H c:Hp}{h b:aD}{a:ag}(u:Un fs [] H c h b)(e:b.get? a=ae):h.get? a=ae:=by
 cases q:h.get? a with
 |none=>rfl
 |some o=>obtain⟨d,z⟩:=u.there a o q (by simp);rw[e]at z;cases z
theorem B8{fs a:List ag}{H p:Hp}{h l j:aD}{X:ag->Prop}(u:Un fs [] H p h l)(k:Kp a X l j)(r:∀b o,h.get? b=aa o->b∈a->b∈fs)(i:∀b o,h.get? b=aa o->¬X b):Un fs [] H p h j where
 keep:=λb o e n f c=>k.keep b o (u.keep b o e n f c) (λz=>f (r b o e z)) (i b o e)
 slot:=λb o e n f c=>by
  obtain⟨q,m⟩:=u.slot b o e n f c;by_cases d:b∈a
  .obtain⟨g,s⟩:=k.slot b _ m d (i b o e);exact⟨g,s⟩
  .exact⟨q,k.keep b _ m d (i b o e)⟩
 free:=u.free
 there:=λb o e c=>let ⟨o',e'⟩:=u.there b o e c;k.there b o' e'
 tups:=u.tups
 frzs:=u.frzs
 tbls:=u.tbls
theorem Bc{P:aV}{w:aL}{fs:List ag}{H:Hp}{h d:aD}{X:ag->Prop}(x:dG P w H h)(k:Kp fs X h d)(f:∀b∈fs,H b=ae)(g:∀b,X b->H b=ae):dG P w H d:=λb u e=>
 (x b u e).stay (λc v a q=>k.keep c v q (λz=>by
   have:=f c z;rcases a with rfl|a
   .rw[e]at this;cases this
   .rw[a]at this;cases this) λz=>by
   have:=g c z;rcases a with rfl|a
   .rw[e]at this;cases this
   .rw[a]at this;cases this) (λ_ q=>q) λ_ _ q=>q
section
variable{P:aV}{w:aL}{K:ay}{n:Str->Option ai}{l:aD}{N:List Str}{j:Str}{g:d7}{f:ag}{p:ai}{A:aX}{i:List Env}{d:am}{m:Hp}{E:XK}
theorem cN:sN (bU P w) (jr (bU P w) P w K n l N j g f p A i d m E) E:=λaf Y H s e s' I h=>by
 obtain⟨a,T,c,X,rfl,J,M,un,B,Q,⟨S,W,G,Z⟩,O⟩:=h;have r:=I.call' (s':=s') (ch:=[]) J un B M (λb z=>absurd z (by simp));refine S5 (L:=d.heap.objs.size) I.ok.frames r.stack rfl Q λmT F k C y=>?_;have qm:(jr (bU P w) P w K n l N j g f p A i d m E).ex=[]:=rfl;have v:d.heap.get? a=ae:=tE I.base S;have D:d.heap.get? T=ae:=tE I.base W;have x:d.heap.get? F=ae:=tE r.base (CC y);have u:∀b o,d.heap.get? b=aa o->b≠a/\b≠T:=λb o e=>⟨(by rintro rfl;rw[v]at e;cases e),(by rintro rfl;rw[D]at e;cases e)⟩
 refine⟨a,F,c,X,rfl,r.os,r.bare,B8 r.base k (λb o e z=>?_) (λb o e z=>z.elim (u b o e).1 (u b o e).2),Bc r.hok k r.stkFree (λb z=>by rcases z with rfl|rfl <;> assumption),C,⟨v,x,G,r.hok.fresh y⟩,O⟩;rcases bI.mp (I.stkSub b z)with q|q
 .exact absurd (bN e) (by rw[q];exact fL _)
 .exact q
end
section
variable{X:Cx}{E:XK}{pin:List Nat}{e:aB}{de:ak->R PV}{x:Str}{C:ag}{i:List ai}{d f B:String}{l g j:Pos}
def D4(X:Cx)(E:XK):Prop:=∀(n:List (ag×Obj)) (m:St) (H:Hp) (s:am) (a:ag) (c:ai) (h:aD),Inv X n m H s->(∀b o,s.heap.get? b=aa o->h.get? b=aa o)->Made h a c->s.heap.get? a=ae->(E c ae H)->X.xe (.ref a) {s with heap:=h}
def uX(c:ai)(de:ak->R PV):ak->R aO:=λb=>(de b).bind λ_ a=>.er c a
theorem Qd{h c:aD}{e:ag}{a:ai}{b:List ai}(m:Heap.MadeExcOf h c e a b):Made c e a:=by obtain⟨t,n,_,_⟩:=m.there;exact⟨_,_,n,rfl,⟨rfl,rfl⟩,rfl⟩
theorem G7(hx:D4 X E)(hc:X.calm=ah)(O:OwnCls x C i d X.mg X.base)(Q:ExcBaseFacts B d f i)(he:DE X.nox E0 e de)(hg:Gl X x:=by rfl)(hd:(x==("__debug__":Str))=aj:=by decide)(M:aR [e] X.env=[(aj,a6 e X.env)]:=by rfl):DS X E pin (.Raise (aa (.Call (.Name x l) [e] [] g)) ae j) (uX (.ref C) (λw=>bz (de w))):=λF S w n H D Z q=>Bx.mk λP s I=>by
 obtain⟨W,N,nm,qn,bs,hdct,sn,sub,ab,col,dd,k0,k1,k2,k3,k5,mN,hC,hN,J,T⟩:=O.obj;refine wpAny_Raise_call_subT (C:=C) (nm:=nm) (q:=qn) (N:=N) (bs:=bs) (bm:=W) (hdct:=hdct) (sn:=sn) (sub:=sub) (ab:=ab) (col:=col) (dd:=dd) (k0:=k0) (k1:=k1) (k2:=k2) (k3:=k3) (k5:=k5)
  Q (mN:=mN) (T.hasType Q.hasBase) (I.ok.hd hc) (by rw[M];rfl) J (tL I hg O.bound ⟨rfl,?_⟩ hd)
 have q2:Ok X.K E0 n F S H (de w) (λ_ b r o p=>ir X.K E pin n r o p (.er (.ref C) b) D):=by
  have q:ir X.K E pin n F S H ((bz (de w)).bind λ_ b=>.er (.ref C) b) D:=q;cases K:de w with
  |no=>rw[K]at q;exact q.elim
  |er c A=>rw[K]at q;exact q.elim
  |ok v A=>rw[K]at q;exact λF' S' H' r' g'=>q.from g' (iC.refl _ _)
 rw[M];refine Jt (dZ (CG (dZ ((he F S w n H (λv p=>∃r o b,aN X.K r o b n p/\ir X.K E pin n r o p (.er (.ref C) b) D) Z (q2.imp λv b r o p L g1 h v' rv=>⟨r,o,b,L,h⟩)).run P s (I.wish _)) (λu Y ⟨v,p,y,L,r,o,b,G,ok⟩=>?_) λ_ _ z=>z.elim)) (λ_ _ z=>z) λ_ _ z=>z);have y:=y.unwish;refine Jk ⟨rfl,(by show 1<=bh;decide),y.bk _ _ hC,hN.keeps y.bk,T.keeps y.bk,λh' a m=>?_⟩;exact hx P n p Y a (.ref C) h' y m.keeps (Qd m) m.new (ok ae r o n p G (bp.refl ..) (iC.refl _ _))
end
section
variable{P:aV}{w:aL}{K:ay}{m:Str->Option ai}{j:aD}{N:List Str}{i:Str}{g:d7}{f:ag}{n:ai}{A:aX}{h:List Env}{d:am}{l:Hp}{E:XK}
theorem EN:D4 (jr (bU P w) P w K m j N i g f n A h d l E) E:=λM D H s a c B I G F new J=>by
 have p:Inv _ M D H {s with heap:=B}:=I.kept (t':=s.toks) G;refine Q1 (s:={s with heap:=B}) (L:=d.heap.objs.size) I.ok.frames p.stack rfl F λO C k x v=>?_;have r:d.heap.get? a=ae:=tE I.base new;have u:d.heap.get? C=ae:=tE p.base (CC v);have y:H a=ae:=M5 I.hok new;refine⟨a,C,c,H,rfl,p.os,p.bare,B8 p.base k (λb o e z=>?_) (λb o e z=>by rw[show b=a from z,r]at e;cases e),Bc p.hok k p.stkFree (λb z=>by rw[show b=a from z];exact y),x,⟨r,u,y,p.hok.fresh v⟩,J⟩;rcases bI.mp (I.stkSub b z)with q|q
 .exact absurd (bN e) (by rw[q];exact fL _)
 .exact q
end
section
variable{X:Cx}{f:List (ag×Obj)}{a:St}{H:Hp}{s:am}
theorem Nn{M:Model}{A:aX}{E:ai->am->Prop}{i:Nat}{x:Str}{v:V}{Q:Unit->am->Prop}(I:Inv X f a H s)(hN:X.N.Nodup)(T:X.N[i]?=aa x)(G:X.env.scope.names.lookup x=aa .local)(O:a[i]?=aa (aa v))(h:∀s',Inv X f (a.set i ae) H s'->Q () s'):ar M A (unbindName X.env x) Q E s:=by
 obtain⟨m,P,S⟩:=id I.loc;have om:(X.env.scope.kind == .class||(X.env.scope.kind == .module&&X.env.locals != X.env.globals))=aj:=by rw[I.ok.kind];rfl
 have r:i<a.length:=(cM.mp O).1;obtain⟨u,_,lk⟩:=S i x v T O (.inl G);have hm:m x=aa u:=by
  rcases lk with⟨_,z⟩|⟨z,_⟩
  .exact z
  .have z:X.env.scope.names.lookup x=aa .cell\/X.env.scope.names.lookup x=aa .free:=z;rcases z with z|z <;> rw[G]at z <;> cases z
 refine wpAny_unbindName_local G P hm om λh' u' F l=>?_;obtain⟨oL,_,_,j3,_⟩:=id P;have D:∀b o,X.s₀.heap.get? b=aa o->h'.get? b=s.heap.get? b:=λb o e=>l.2 b (cZ (ix (bN e) I.ok.above));refine h _ ⟨I.ok,I.os,I.bare,⟨λb o e n K g=>(D b o e).trans (I.base.keep b o e n K g),λb o e n K g=>?_,I.base.free,λb o e g=>?_,I.base.tups,I.base.frzs,I.base.tbls⟩,⟨_,F,λj y Y W C e3=>?_⟩,λy c e=>?_,I.free,I.freeC,λp hp=>?_,λb ob e=>?_,by rw[gn];exact I.len⟩
 .obtain⟨Z,q⟩:=I.base.slot b o e n K g;exact⟨Z,(D b o e).trans q⟩
 .obtain⟨o',q⟩:=I.base.there b o e g;exact⟨o',(D b o e).trans q⟩
 .by_cases J:j=i
  .subst J;rw[fM r]at C;cases C
  .rw[d8 (dN J)]at C;obtain⟨w,r',q⟩:=S j y Y W C e3;refine⟨w,r',?_⟩;rcases q with⟨k,e⟩|⟨k,c,e,z⟩
   .have:y≠x:=λe=>J (As hN W (e ▸ T));exact .inl ⟨k,by simp[this,e]⟩
   .exact .inr ⟨k,c,e,z.sameBut l (I.cne y c e)⟩
 .obtain⟨L,z⟩:=I.cell y c e;exact⟨L,z.sameBut l (I.cne y c e)⟩
 .obtain⟨e,n,N,nf,d⟩:=I.pin p hp;exact⟨(l.2 p.1 N).trans e,n,N,nf,d⟩
 .refine(I.hok b ob e).stay (λc L B q=>(l.2 c ?_).trans q) (λ_ q=>q) λ_ _ q=>q;rintro rfl;rcases B with rfl|B
  .rw[I.free]at e;cases e
  .rw[I.free]at B;cases B
end
def XP(X:Cx)(g:List (ag×Obj))(d:St)(h:ai->Hp->Prop)(e:ai)(f:am):Prop:=∃a b,Inv X g d b a/\bU X.prog X.w X.stack b a (λc _ i=>h c i) e f
def DX(X:Cx)(e:aB)(d:ak->R Slot):Prop :=
 ∀F S h a H Q (i:ai->Hp->Prop),aN X.K F S h a H->Ok X.K (λc _ f=>i c f) a F S H (d h) (λs _ l m f=>∀v j,i6 X.K f l s v j->(∀b,j b->H b=ae/\¬l b/\¬U m b/\∃o,f b=aa o/\cU o)->Q v f) ->
  ∀g s,Inv X g a H s->ar (ax X.prog X.w) X.A (a6 e X.env) (EP X g a Q) (XP X g a i) s
section
variable{X:Cx}{e:aB}{a:List aB}{l:ak->R (List b0)}{j:Pos}{x:Str}{k:Nat}{m:List Str}{g:ak->R Slot}{p:Pos}{d:ak->R Slot}
def eO(g:ak->R Slot)(l:ak->R (List b0)):ak->R Slot:=λf=>(bz (l f)).bind λc b=>(aQ (if(cm c).Nodup then dR b c else ae) b).bind λh b=>d9 b c (g h)
theorem Mf(c:cf (bU X.prog X.w) X.prog X.w X.K X.mg X.base x k m (bt X.K g))(hr:dW k X.A)(ha:DG X.nox E0 (e::a) l)(hg:Gl X x:=by rfl)(hd:(x==("__debug__":Str))=aj:=by decide) (h1:aR (e::a) X.env=(aj,a6 e X.env)::aR a X.env:=by rfl) (h2:(c7 j (aR a X.env)).any (·.1)=aj:=by rfl):DX X (.Call (.Name x p) (e::a) [] j) (eO g l):=λF S ε N H Q XE rl h af s I=>by
 obtain⟨f,fd,hm,Fn,hb,hk⟩:=c.ex;have q0:Ok X.K E0 N F S H (l ε) (λA n D E C=>Ok X.K (λc _ B=>XE c B) N D E C ((aQ (if(cm A).Nodup then dR n A else ae) n).bind λO n=>d9 n A (g O)) (λs _ G Z B=>∀v L,i6 X.K B G s v L->(∀b,L b->H b=ae/\¬G b/\¬U Z b/\∃o,B b=aa o/\cU o)->Q v B)):=by
  unfold eO at h;cases e0:l ε with
  |no=>rw[e0]at h;exact h.elim
  |er c ε'=>rw[e0]at h;exact h.elim
  |ok A n=>rw[e0]at h;exact λD E C J g1=>Ok.from h g1
 refine zy (tL I hg hm ?_ hd);have wa:=(ha F S ε N H (λP C=>∃D E n A,aN X.K D E n N C/\hU X.K N D C A P/\(∀b,C b=ae->H b=ae)/\Ok X.K (λc _ B=>XE c B) N D E C ((aQ (if(cm A).Nodup then dR n A else ae) n).bind λO n=>d9 n A (g O)) (λs _ G Z B=>∀v L,i6 X.K B G s v L->(∀b,L b->H b=ae/\¬G b/\¬U Z b/\∃o,B b=aa o/\cU o)->Q v B)) rl (q0.imp λA n D E C J g1 q P Y=>⟨D,E,n,A,J,Y,λb z=>kM g1 z,q⟩)).run j af s (I.wish _);refine CH (h₀:=X.base) I.ok.mod.kin hk (dZ wa (λus s1 ⟨P,C,M,r,D,E,n,A,J,Y,fb,q⟩=>⟨M.unwish.kIn,?_⟩) λ_ _ z=>z.elim) h1 h2;have M:=M.unwish;have q:=Ok.bind q;by_cases T:(cm A).Nodup
 .rw[if_pos T]at q;cases a:dR n A with
  |none=>rw[a]at q;exact q.elim
  |some O=>
   rw[a]at q;have q:=q D E C J (bp.refl ..);dsimp only at q;have iz:bt X.K g P C Q (λc _ B=>XE c B):=by
    refine⟨D,kY A E,O,J.cal Y a T,?_⟩;cases eg:g O with
    |no=>rw[eg]at q;exact q.elim
    |er cv aJ=>
     rw[eg]at q;intro y G Z B r' g';unfold d9 at q;dsimp only at q;by_cases K:eP A aJ=ah
     .rw[if_pos K]at q;obtain⟨S2,r2,g2,_⟩:=J.called Y a T r' g' (λ_ z=>z) (kU K);exact q ae G S2 B r2 g2
     .rw[if_neg K]at q;exact q.elim
    |ok sl aJ=>
     rw[eg]at q;intro v G Z B L r' g' rv lo fr;unfold d9 at q;dsimp only at q;by_cases K:eP A aJ=ah
     .rw[if_pos K]at q;obtain⟨S2,r2,g2,u2⟩:=J.called Y a T r' g' (λ_ z=>.inl z) (kU K);refine q G S2 B r2 g2 v L rv λb z=>⟨fb b (fr b z),(lo b z).1,λw=>?_,(lo b z).2.2⟩
      rcases u2 b w with w|⟨i,w⟩
      .exact(lo b z).2.1 w
      .obtain⟨_,_,o,y1,_⟩:=J.foot i b w;rw[fr b z]at y1;cases y1
     .rw[if_neg K]at q;exact q.elim
   have hl:us.length=m.length:=by rw[<-r.length];exact Fn.len _ _ _ _ iz
   refine v4 (ph (Fn.run X.A X.stack s1 C ⟨us,[]⟩ us P Q _ hr M.env0 (by have:=hb s1 us M.kIn (by rw[fN];exact hl);rwa[fN]at this) r iz) λrr s' W=>?_);cases rr with
   |error er=>exact⟨s1,C,M,W⟩
   |ok fl=>
    cases fl with
    |ret u=>exact M.after W
    |next=>exact gm W
    |brk=>exact gm W
    |cont=>exact gm W
 .rw[if_neg T]at q;exact q.elim
end
abbrev hand(X:Cx)(a:ag):Cx:={X with A:=X.A.mark (aa (.ref a)),calm:=aj,xe:=λ_ _=>False}
section
variable{X:Cx}{c:List (ag×Obj)}{b:St}{H:Hp}{s:am}{a:ag}
theorem Inv.hand(I:Inv X c b H s)(d:(X.A.mark (aa (.ref a))).frames=X.A.frames:=by rfl):Inv (Pu.hand X a) c b H s :=
 ⟨⟨I.ok.mod,I.ok.kind,I.ok.glob,I.ok.blt,I.ok.above,I.ok.inj,I.ok.has,I.ok.cab,(λz=>by cases z),d.trans I.ok.frames,I.ok.stk,I.ok.exf,I.ok.bs,I.ok.bsz,I.ok.noex,I.ok.exfs,I.ok.funs,I.ok.frf,I.ok.tab⟩,I.os,I.bare,I.base,I.loc,I.cell,I.free,I.freeC,I.pin,I.hok,I.len⟩
theorem Inv.unhand(I:Inv (Pu.hand X a) c b H s)(ok:X.Ok):Inv X c b H s:=⟨ok,I.os,I.bare,I.base,I.loc,I.cell,I.free,I.freeC,I.pin,I.hok,I.len⟩
end
def Under(h:aD)(D:ag)(c:ai):Prop:=∃C g N j q bs b i d s f r p o n m l a,c=.ref C/\h.get? C=aa (C_ j q C N bs g b i d s f r p o n m l a)/\(Value.ref C::g).contains (.ref D)=ah
def tj(h:aD)(D:ag):Prop:=∃f N i q bs b g c r d p o n m l j a,h.get? D=aa (C_ i q D N bs f b g c r d p o n m l j a)/\f.contains (.type "BaseException")=ah
theorem Under.keeps{h d:aD}{D:ag}{c:ai}(x:Under h D c)(k:∀b o,h.get? b=aa o->d.get? b=aa o):Under d D c:=by obtain⟨C,bm,N,nm,q,bs,hdct,sn,sub,ab,col,dd,k0,k1,k2,k3,k5,a,e,g,f⟩:=x;exact⟨C,bm,N,nm,q,bs,hdct,sn,sub,ab,col,dd,k0,k1,k2,k3,k5,a,e,k _ _ g,f⟩
theorem tj.keeps{h c:aD}{D:ag}(x:tj h D)(k:∀b o,h.get? b=aa o->c.get? b=aa o):tj c D:=by obtain⟨bm,N,nm,q,bs,hdct,sn,sub,ab,col,dd,k0,k1,k2,k3,k5,a,f,d⟩:=x;exact⟨bm,N,nm,q,bs,hdct,sn,sub,ab,col,dd,k0,k1,k2,k3,k5,a,k _ _ f,d⟩
theorem LG{M:Model}{A:aX}{E:ai->am->Prop}{s:am}{e D:ag}{o:Obj}{c:ai}{Q:Bool->am->Prop}(J:Under s.heap D c)(b:tj s.heap D)(L:s.heap.get? e=aa o)(x:o.cls=c)(K:Q ah s):ar M A (excMatches (.ref e) (.ref D)) Q E s:=by
 obtain⟨C,bm,N,nm,q,bs,p,X,v,ab,S,dd,k0,k1,k2,k3,k5,i,rfl,r,I⟩:=J;obtain⟨m,N',y,Y,T,j,w,n,W,u,P,H,G,F,B,z,a,b,O⟩:=b;obtain⟨h,g,d,t,Z⟩:=s;have l:(Value.ref D::m).contains (.type "BaseException")=ah:=by rw[List.contains_cons,O,Bool.or_true]
 have f:=tc_notTuple;unfold excMatches
 repeat (first | (with_reducible refine JL L ?_;rw[x])|with_reducible refine JL r ?_|with_reducible refine JL b ?_ | (with_reducible refine wpAny_isSubtype_exc r ?_;rw[I]) | (with_reducible refine wpAny_isSubtype_exc b ?_;rw[l])|wp_step)
 exact K
def lE(i:Nat)(b:ai->Bool)(h:ak->R Slot)(j:ak->R aO):ak->R aO:=λg=>match h g with
 |.ok s a=>.ok (.ret s) a
 |.er c a=>if b c=ah/\i<a.length then(match j (a.set i (.val (.exc c)))with
  |.ok f d=>(match d[i]? with
   |some (.val _)=>.ok f (d.set i .none)
   |_=>.no)
  |_=>.no)else .no
 |.no=>.no
section
variable{X:Cx}{E:XK}{pin:List Nat}{e:aB}{x:ak->R Slot}{A:ak->R aO}{J L G C:Pos}{B n:Str}{D:ag}{l:List ba}{m:ba}{g:ai->Bool}
theorem aN.unset{K:ay}{F:ag->Prop}{S:Nat->ag->Prop}{a:ak}{h:St}{H:Hp}{i:Nat}(r:aN K F S a h H):aN K F (λj b=>S j b/\j≠i) (a.set i .none) (h.set i ae) H:=by
 have c:=r.drop i;have o:∀{j:Nat}{s:Slot},(a.set i .none)[j]?=aa s->s≠.none->j≠i:=λ{j s} e q z=>by
  subst z;by_cases u:j<a.length
  .rw[fM u]at e;exact q (cY e).symm
  .rw[n5 (by rw[gn];lia)]at e;cases e
 refine⟨by rw[gn,gn];exact r.len,r.ex,λj pv e=>?_,λj p e=>?_,c.foot,c.dist⟩
 .obtain⟨v,f,d⟩:=c.val j pv e;exact⟨v,by rw[d8 (dN (o e (by intro z;cases z)))];exact f,d⟩
 .obtain⟨v,f,d⟩:=c.own j p e;exact⟨v,by rw[d8 (dN (o e (by intro z;cases z)))];exact f,d⟩
theorem S7{P:aV}{w:aL}{H:Hp}{h:aD}{a T:ag}{c I:ai}(ok:dG P w H h)(j:H a=ae)(f:lD h a T c I):dG P w (upd H a (jo a c)) h:=λb u q=>by
 by_cases r:b=a
 .subst r;rw[upd_same]at q;cases q;obtain⟨i,v,_,_,p,F,y,_⟩:=f;exact⟨⟨i,v,p,F,y⟩,⟨i,p⟩,λQ O ⟨o,s,N,M,K⟩ k=>⟨o,s,k o N,M,K⟩⟩
 .rw[bj r]at q;exact(ok b u q).stay (λ_ _ _ z=>z) (λd z=>by rw[bj (ni z j)];exact z) λd xs z=>by rw[bj (ni z j)];exact z
def vT(X:Cx)(r:List ba)(d:ak->R Slot):Prop :=
 ∀F S i a H Q (j:ai->Hp->Prop),aN X.K F S i a H->Ok X.K (λc _ f=>j c f) a F S H (d i) (λs _ q y f=>∀v p,i6 X.K f q s v p->(∀b,p b->H b=ae/\¬q b/\¬U y b/\∃o,f b=aa o/\cU o)->Q v f) ->
  ∀h s,Inv X h a H s->ar (ax X.prog X.w) X.A (execs r X.env) (λw s'=>∃u,w=.ret u/\EP X h a Q u s') (XP X h a j) s
theorem Ie(d:DX X e x):vT X [.Return (aa e) J] x:=λF S b a H Q i c h f s I=>CD (wpAny_Return_some (dZ (d F S b a H Q i c h f s I) (λu j q=>⟨u,rfl,q⟩) λ_ _ q=>q))
theorem MO{ss:List ba}(i:Nat)(hN:X.N.Nodup)(hx:vT X ss x)(hD:X.mg B=aa (.ref D))(hE:tj X.base D)(hcg:∀c,g c=ah->Under X.base D c)(hh:∀a,gL (hand X a) E0 pin (m::l) A)(eI:i∉pin:=by decide) (hi:X.N[i]?=aa n:=by rfl) (hl:X.env.scope.names.lookup n=aa .local:=by rfl) (hg:Gl X B:=by rfl) (hd:(B==("__debug__":Str))=aj:=by decide) (fF:X.stack=X.env::X.outer:=by rfl) (hfm:X.env.frame=aa X.env.locals:=by rfl) (hf:X.fn n=ah\/X.env.scope.names.lookup n=aa .local:=by first|exact .inl rfl|exact .inr rfl):DS X E pin (.Try ss [.ExceptHandler (aa (.Name B L)) (aa n) (m::l) G] [] [] C) (lE i g x A):=λF S ε σ H Dn rl q=>Bx.mk λaf s I=>by
 refine wpAny_Try_except ?_;have body:=hx F S ε σ H (λv r=>Dn.rt v r) (λc r=>∃K W N,aN X.K K W N σ r/\bp (U S) (U W) F K H r/\g c=ah/\i<N.length/\ir X.K E pin σ F S H (match A (N.set i (.val (.exc c)))with
  |.ok f ε2=>(match ε2[i]? with
   |some (.val _)=>.ok f (ε2.set i .none)
   |_=>.no)
  |_=>.no) Dn) rl (by
  unfold lE at q;cases e0:x ε with
  |no=>rw[e0]at q;exact q.elim
  |ok sl N=>rw[e0]at q;intro K W r r' O v Sr rv fr;exact q v K W σ r Sr r' ⟨O.fro,O.keep,O.there,O.fnew,λb z=>z.elim (O.onew b) λw=>.inr (fr b w).1⟩ (iC.refl _ _) rv λb z=>(fr b z).2
  |er c N=>
   rw[e0]at q;intro y K W r r' O;dsimp only at q;by_cases hc:g c=ah/\i<N.length
   .rw[if_pos hc]at q;exact⟨K,W,N,r',O,hc.1,hc.2,q⟩
   .rw[if_neg hc]at q;exact q.elim) af s I
 refine dZ body (λfl Z ⟨u,efl,v,H1,I1,r1,q1⟩=>?_) λev Z xp=>?_
 .subst efl;exact⟨v,σ,H1,I1,r1,q1⟩
 obtain⟨s0,H0,I0,a,T,c,H1,rfl,ho,hg1,un,hok,fl,⟨fa,fT,na,nT⟩,F1,S1,ε1,rl1,g1,hcc,bv,h⟩:=xp;have I1:=I0.call' (s':=Z) (ch:=[]) ho un hok hg1 (λb z=>absurd z (by simp));have kpI:∀{h2:aD}{Y:ag->Prop}{T':ag},Kp (fS X.stack) Y Z.heap h2->(∀b o,s0.heap.get? b=aa o->¬Y b)->(∀b,Y b->H1 b=ae)->lD h2 a T' c .none->∀tk,Inv X af σ (upd H1 a (jo a c)) {Z with heap:=h2,toks:=tk}:=λ{h2 Y T'} k hY1 hY2 f2 tk=>by
  refine I0.call' (s':={Z with heap:=h2,toks:=tk}) (ch:=[]) ho ?_ (S7 (Bc hok k (λb hb=>I1.stkFree b hb) hY2) na f2) hg1 (λb z=>absurd z (by simp));have u2:=B8 un k (λb o _ z=>z) hY1;have na':∀b o,H1 b=aa o->b≠a:=λb o e=>ni e na;refine⟨u2.keep,u2.slot,λb o e n hx=>?_,u2.there,λb xs e=>?_,λb o u e=>?_,λb ps e=>?_⟩
  .rw[bj (by rintro rfl;rw[fa]at e;cases e)];exact u2.free b o e n hx
  .have:=u2.tups b xs e;rw[bj (na' b _ this)];exact this
  .have:=u2.frzs b o u e;rw[bj (na' b _ this)];exact this
  .have:=u2.tbls b ps e;rw[bj (na' b _ this)];exact this
 have H1T:∀b,b=a\/b=T->H1 b=ae:=λb z=>by rcases z with rfl|rfl <;> assumption
 have old1:∀b o,s0.heap.get? b=aa o->¬(b=a\/b=T):=λb o e z=>by
  rcases z with rfl|rfl
  .rw[fa]at e;cases e
  .rw[fT]at e;cases e
 refine Hd (outer:=X.outer) (by rw[I0.ok.frames,fF]) (by rw[<-fF];exact I1.stack) hfm fl λh2 T' k fl2 fT'=>?_;rw[<-fF]at k;have I2:=kpI k old1 H1T fl2 Z.toks;refine wpAny_handleBy_cons (codeAny_handlers_test ?_) (by intro z;cases z);have I2h:Inv (hand X a) af σ (upd H1 a (jo a c)) {Z with heap:=h2}:=Inv.hand I2;refine tL (X:=hand X a) I2h hg hD ?_ hd;obtain⟨oe,vs,oT,ts,he2,UZ,_⟩:=id fl2;refine LG (s:={Z with heap:=h2}) ((hcg c hcc).keeps I2.bk) (hE.keeps I2.bk) he2 UZ ?_;show mK _ _ _ _ _;refine codeAny_handlers_suite_as (SA (s:={Z with heap:=h2}) fl2 λh3 k3 fl3=>?_);have k':Kp (fS X.stack) (λb=>(b=a\/b=T)\/b=T') Z.heap h3:=k.trans (k3.imp (λb z=>by simp at z) λb o _ z=>z);have I3:=kpI (T':=T') k' (λb o e z=>by
  rcases z with z|rfl
  .exact old1 b o e z
  .rw[tE un (CC fT')]at e;cases e) (λb z=>by
  rcases z with z|rfl
  .exact H1T b z
  .exact I1.hok.fresh fT') fl3 Z.toks
 have I3h:Inv (hand X a) af σ (upd H1 a (jo a c)) {Z with heap:=h3}:=Inv.hand I3;refine yM (X:=hand X a) (v:=.ref a) I3h hN hi (.inl hl) rfl (λs4 I4=>?_) hf;have al:Al F1 F1 H1 (upd H1 a (jo a c)):=Al.new0 na;have r2:=rl1.al al;have r3:=r2.set (i:=i) (pv:=.exc c) (v:=.ref a) ⟨a,rfl,upd_same⟩;have g3:bp (U S) (U λj b=>S1 j b/\j≠i) F F1 H (upd H1 a (jo a c)):=(g1.trans al.grow).trans (bp.less i);have less:∀{W:Nat->ag->Prop}{K:ag->Prop}{r:Hp},bp (U W) (U λj b=>W j b/\j≠i) K K r r:=λ{W K r}=>bp.less i;have pn:∀{d:St},iC pin (σ.set i (aa (.ref a))) d->iC pin σ (d.set i ae):=λ{d} p=>((iC.set eI).trans p).trans (iC.set eI);have okd:ir (hand X a).K E0 pin (σ.set i (aa (.ref a))) F1 (λj b=>S1 j b/\j≠i) (upd H1 a (jo a c)) (A (ε1.set i (.val (.exc c)))) {nx:=λd r=>Dn.nx (d.set i ae) r,rt:=Dn.rt,bk:=λd r=>Dn.bk (d.set i ae) r,ct:=λd r=>Dn.ct (d.set i ae) r}:=by
  cases ed:A (ε1.set i (.val (.exc c)))with
  |no=>rw[ed]at h;exact h.elim
  |er c' ε2=>rw[ed]at h;exact h.elim
  |ok f ε2=>
   rw[ed]at h;dsimp only at h;split at h
   .cases f with
    |next=>exact λK W d r r' O p'=>h K _ _ r r'.unset ((g3.trans O).trans less) (pn p')
    |brk=>exact λK W d r r' O p'=>h K _ _ r r'.unset ((g3.trans O).trans less) (pn p')
    |cont=>exact λK W d r r' O p'=>h K _ _ r r'.unset ((g3.trans O).trans less) (pn p')
    |ret sl=>
     intro v K W d r Sr r' O p' rv lo;refine h v K _ _ r Sr r'.unset ?_ (pn p') rv λb z=>⟨(lo b z).1,λ⟨j,w⟩=>(lo b z).2.1 ⟨j,w.1⟩,(lo b z).2.2⟩
     have gg:=g3.trans O;exact⟨gg.fro,gg.keep,gg.there,gg.fnew,λb z=>gg.onew b (z.imp (λ⟨j,w⟩=>⟨j,w.1⟩) id)⟩
   .exact h.elim
 refine dZ ((hh a F1 _ _ _ _ _ r3 okd).run af s4 I4) (λf s5 sp=>?_) λ_ _ z=>z.elim;have P:∀{M:St}{H5:Hp}{Q:Unit->am->Prop},Inv (hand X a) af M H5 s5->(∀s6,Inv X af (M.set i ae) H5 s6->Q () s6)->ar (ax X.prog X.w) X.A (do bindName X.env n .none;unbindBehindTheSuite X.env n G) Q X.xe s5:=λ{M H5 Q} I5 hQ=>by
  have I5':=Inv.unhand I5 I0.ok;refine aq (wpAny_bindName (yM (v:=.non) I5' hN hi (.inl hl) rfl (λs6 I6=>?_) hf));unfold unbindBehindTheSuite;refine wpAny_onRaise ?_;have hiσ:i<M.length:=by rw[I5'.len];exact(cM.mp hi).1
  refine Nn I6 hN hi hl (fM hiσ) λs7 I7=>hQ s7 ?_;rw[List.set_set]at I7;exact I7
 cases f with
 |next=>obtain⟨M,H5,I5,q5⟩:=sp;exact P I5 λs6 I6=>⟨_,H5,I6,q5⟩
 |brk=>obtain⟨M,H5,I5,q5⟩:=sp;exact P I5 λs6 I6=>⟨_,H5,I6,q5⟩
 |cont=>obtain⟨M,H5,I5,q5⟩:=sp;exact P I5 λs6 I6=>⟨_,H5,I6,q5⟩
 |ret u=>obtain⟨v,M,H5,I5,rv,q5⟩:=sp;exact P I5 λs6 I6=>⟨v,_,H5,I6,rv,q5⟩
end
structure kW(k:Nat)(A:aX):Prop where
 dp:A.depth+3*k+5<recursionLimit
 un:A.units+16*k+200<cLine
theorem dW.hand{k:Nat}{A:aX}{v:Option ai}(r:dW k A):kW k (A.mark v):=⟨r.dp,r.un⟩
theorem kW.mono{j k:Nat}{A:aX}(r:kW k A)(h:j<=k):kW j A:=⟨by have:=r.dp;lia,by have:=r.un;lia⟩
theorem kW.deeper{k:Nat}{A:aX}(r:kW (k+1) A)(a:Env):kW k (A.deeper a) :=⟨by have:=r.dp;show A.depth+1+3*k+5<_;lia,by have:=r.un;show A.units+3+16*k+200<_;lia⟩
theorem kW.units{k:Nat}{A:aX}(r:kW k A):A.units+64<cLine:=by have:=r.un;lia
def vQ(P:aV)(w:aL)(K:ay)(g:Str->Option ai)(d:aD)(N:List Str)(c:Str)(a:d7)(f:ag)(h:ai)(A:aX)(b:List Env)(s:am)(H:Hp):Cx :=
 {(jr AW P w K g d N c a f h A b s H E0)with calm:=aj,xe:=λ_ _=>False}
structure AA(P:aV)(w:aL)(K:ay)(mg:Str->Option ai)(base:aD)(k:Nat)(f:ag)(fd:gi)(ps:List Str)(sp:Sp):Prop where
 len:∀vs H Q E,sp vs H Q E->vs.length=ps.length
 run:∀(A:aX) (outer:List Env) (s:am) (H:Hp) (args:Args) (us:List ai) (vs:List V) (Q:VK),kW k A->sA P w K mg base A outer s H->BindsTo s fd args (ps.zip us)->bx vs us->sp vs H Q E0 ->
  mK (ax P w) A (.call (.ref f) args) (CR AW outer P w H s Q E0) s
structure xS(P:aV)(w:aL)(K:ay)(mg:Str->Option ai)(base:aD)(x:Str)(k:Nat)(ps:List Str)(sp:Sp):Prop where
 ex:∃f fd,mg x=aa (.ref f)/\AA P w K mg base k f fd ps sp/\Binds K fd ps []/\nU K (.ref f)=ah
theorem Nw{P:aV}{w:aL}{K:ay}{F:Str->Option ai}{h:aD}{k:Nat}{f:ag}{B g:Str}{i:Arguments}{l:List ba}{a:d7}{dV kV M pm C ct oc:ai}{an od:Option ag}{Z:Array (Option ai)}{N O:List Str}{T:Sp} (lk:K.lookup f=aa ⟨oc,od,.func (je B g i l a dV kV M pm an C ct),Z⟩) (bB:v6 K C g=ah) (S:cb N O a)(len:∀p H Q E,T p H Q E->p.length=O.length)(iS:∀(A:aX) (c:List Env) (s:am) (H:Hp) (p:List V) (Q:VK),kW k (A.deeper (jB g a s.heap.objs.size f C))->T p H Q E0 -> oO (vQ P w K F h N g a f C A c s H) l {nx:=λ_ D=>Q .non D,rt:=Q} (L2.start N p) H):AA P w K F h (k+1) f (je B g i l a dV kV M pm an C ct) O T:=by
 refine⟨len,λA c s H args us p Q hr j hb r iz=>?_⟩;have hl:=len _ _ _ _ iz;have KX:K.In s.heap:=j.mod.kin.keeps λb o e=>(j.bs b o e).1;have lim:s.heap.NoLimit:=j.mod.nolimit.keeps λb o e=>(j.bs b o e).1;have DB:∀y∈O.zip us,a.names.lookup y.1=aa .local\/(a.names.lookup y.1=aa .cell/\((fZ (s.heap.objs.size+1) a.names []).lookup y.1).isSome=ah):=λ⟨n,v⟩ hy=>(S.par n (v5 hy).1).imp id λq=>⟨q,Jl _ _ _ (.inl q)⟩
 refine codeAny_call_function (by have:=hr.dp;lia) (KX _ _ lk) rfl S.co S.gen rfl (PySem.W.codeRec_of KX bB) (hb _ _ _ _ ?_);refine wpAny_newFunctionEnv_cells S.kind DB λenv he W x=>?_;subst he;refine⟨lim.keeps x.toInCall.keep,codeAny_func ?_⟩;have e1:sA P w K F h {A with handled:=ae} c s H:=⟨j.frames,j.mod,j.bs,j.bsz,j.funs,j.frf,j.hok,j.bare,j.tab⟩
 have d:Inv (jr AW P w K F h N g a f C {A with handled:=ae} c s H E0) [] (L2.start N p) H W:=Gv S rfl e1 hl r x;have I:Inv (vQ P w K F h N g a f C A c s H) [] (L2.start N p) H W :=
  ⟨⟨d.ok.mod,d.ok.kind,d.ok.glob,d.ok.blt,d.ok.above,d.ok.inj,d.ok.has,d.ok.cab,(λz=>by cases z),Around.frames_deeper j.frames,d.ok.stk,d.ok.exf,d.ok.bs,d.ok.bsz,d.ok.noex,d.ok.exfs,d.ok.funs,d.ok.frf,d.ok.tab⟩,d.os,d.bare,d.base,d.loc,d.cell,d.free,d.freeC,d.pin,d.hok,d.len⟩
 refine dZ ((iS A c s H p Q (hr.deeper _) iz).run [] W I) (λfl X G=>?_) λe X G=>G.elim;have L:∀{m:St}{D:Hp}{v:V}{u:ai},Inv (vQ P w K F h N g a f C A c s H) [] m D X->RelV v u->Q v D->CE c P w H s Q u X:=λ{m D v u} J Y q=>⟨v,D,J.os,J.bare,J.base,J.hok,Y,q⟩
 cases fl with
 |ret u=>obtain⟨v,m,D,J,Y,q⟩:=G;exact L J Y q
 |next=>obtain⟨m,D,J,q⟩:=G;exact L (v:=V.non) (u:=Value.none) J rfl q
 |brk=>obtain⟨_,_,_,q⟩:=G;exact gm q
 |cont=>obtain⟨_,_,_,q⟩:=G;exact gm q
theorem Kn{P:aV}{w:aL}{K:ay}{u:Str->Option ai}{j:aD}{x:Str}{c:ba}{N l:List Str}{k n:Nat}{g:ak->R Slot}{d:ak->R aO}{p:List Nat}(D:cC K u x c)(Y:cb N l (a_ c))(M:N.length=l.length+n)(T:∀(kV q y:ai) (E:Option ag) (o B:ai) (r:List ai),r.length=l.length->gF (je x x (kg c) (gE c) (a_ c) .none kV q y E o B) ⟨r,[]⟩=pure (l.zip r))(C:∀b,g b≠.no->b.length=l.length) (z:∀b,g b≠.no->∀(i:Nat) m,b[i]?=aa (.own m)->i∈p/\ge m=ah) (S:∀b,g b≠.no->bG n d b=g b)(J:∀(f:ag) (o:ai) (A:aX) (a:List Env) (s:am) (H:Hp),kW k (A.deeper (jB x (a_ c) s.heap.objs.size f o))->gL (vQ P w K u j N x (a_ c) f o A a s H) E0 p (gE c) d):xS P w K u j x (k+1) l (bt K g):=by obtain⟨f,W,O,v⟩:=D.ex;refine⟨f,W,O,?_,v.binds T,v.kp⟩;obtain⟨oc,od,kV,q,y,E,o,B,F,rfl,G,X⟩:=v.ex;exact Nw G X Y (EH C) λA a s H Z Q L I=>IJ M C (λb h i m e=>(z b h i m e).1) (λb rs aJ h=>.inr λi m e=>(z b (by rw[h];exact nofun) i m e).2) S (J f o A a s H L) I
section
variable{X:Cx}{E:XK}{e:aB}{d:List aB}{j:ak->R (List b0)}{b:Pos}{x:Str}{k:Nat}{i:List Str}{g:ak->R Slot}{p:Pos}
theorem Rc{f:ag}{y:gi}{v:Sp}{t:TA}(z:AA X.prog X.w X.K X.mg X.base k f y i v)(B:kW k X.A)(G:Gl X x)(C:X.mg x=aa (.ref f))(F:nU X.K (.ref f)=ah)(L:Binds X.K y i [])(M:PA X (e::d) t) (K:(x==("__debug__":Str))=aj) (J:aR (e::d) X.env=(aj,a6 e X.env)::aR d X.env) (O:(c7 b (aR d X.env)).any (·.1)=aj):PE X (.Call (.Name x p) (e::d) [] b) (λm H Q=>t m H λn o=>v n o Q E0):=λP s m H Q I h=>by
 refine zy (tL I G C ?_ K);refine CH (h₀:=X.base) I.ok.mod.kin F (aW (M b P s m H _ I h) λc w ⟨n,o,l,r,q⟩=>⟨l.kIn,?_⟩) J O;have D:c.length=i.length:=by rw[<-r.length];exact z.len _ _ _ _ q
 refine v4 (ph (z.run X.A X.stack w o ⟨c,[]⟩ c n Q B l.env0 (by have:=L w c l.kIn (by rw[fN];exact D);rwa[fN]at this) r q) λA S a=>?_);cases A with
 |error er=>exact(show False from a).elim
 |ok N=>
  cases N with
  |ret u=>exact l.after a
  |next=>exact gm a
  |brk=>exact gm a
  |cont=>exact gm a
theorem Km{n m:Type}{K:ay}{E o:XK}{c:St}{F:ag->Prop}{S:Nat->ag->Prop}{H:Hp}{C:m->ak->(ag->Prop)->(Nat->ag->Prop)->Hp->Prop}{r:R n}{f:n->ak->R m}(h:Ok K E c F S H (bz (r.bind f)) C):Ok K E c F S H r λa l F S H=>Ok K o c F S H (f a l) C:=by
 cases r with
 |ok a l=>
  intro w u v s q;have h:Ok K E c F S H (bz (f a l)) C:=h;cases e:f a l with
  |ok=>rw[e]at h;exact Ok.from (E:=o) h q
  |_=>rw[e]at h;exact h.elim
 |_=>exact h.elim
theorem PJ(c:xS X.prog X.w X.K X.mg X.base x k i (bt X.K g))(r:kW k X.A)(z:DG X E (e::d) j)(v:Gl X x:=by rfl)(w:(x==("__debug__":Str))=aj:=by decide) (B:aR (e::d) X.env=(aj,a6 e X.env)::aR d X.env:=by rfl) (A:(c7 b (aR d X.env)).any (·.1)=aj:=by rfl):DR X E (.Call (.Name x p) (e::d) [] b) (λa=>bz (a9 g j a)):=λF S a l H Q n h=>by obtain⟨f,J,s,G,y,u⟩:=c.ex;exact b9 (Rc G r v s u y im w B A) (z F S a l H _ n ((Km h).imp λK m N L M o C q I D=>HK o C D q))
end
structure oR(K:ay)(C:ag):Prop where
 ga:qP K (.ref C) "__getattribute__"=aa (aa (.builtin "BaseException.__getattribute__"))
 gt:qP K (.ref C) "__getattr__"=aa ae
 cl:qP K (.ref C) "__class__"=aa (aa (.builtin "object.__class__"))
 gs:Jj K (.builtin "object.__class__") "__get__"=aa (aa (.builtin "getset_descriptor.__get__"))
 tk:PySem.W.takesIn K (.builtin "object.__class__")=aa ah
 ob:zx K C (.type "object")=aa ah
 be:zx K C (.type "BaseException")=aa ah
 cs:(Da K C).isSome=ah
section
variable{b:aV}{w:aL}{A:aX}{E:ai->am->Prop}{K:ay}{h:aD}{g:Array GenState}{d:Drawn}{t:Nat}{c:OsState}{a C:ag}{o:Obj}
theorem Sw{M:Model}{f:ai}{Q:Unit->am->Prop}(X:K.In h)(k:oR K C)(I:v3 h a o C ae)(j:Q () ⟨h,g,d,t,c⟩):ar M A (JD "BaseException.__getattribute__" ⟨[.ref a,f],[]⟩) Q E ⟨h,g,d,t,c⟩:=by
 have l:builtinKind "BaseException.__getattribute__"=aa .slot:=by decide +kernel
 have m:splitId "BaseException.__getattribute__"=aa ("BaseException","__getattribute__"):=by decide +kernel
 have p:=F.args_bexc_ga (.ref a) f;have n:=I.type (M:=M);have i:=PySem.W.looks_mroIn (M:=M) X k.be;simp only[JD,l,m];refine aq ?_
 .unfold isInstance
  repeat (first|with_reducible refine aq (n.at ?_)|with_reducible refine i.at ?_|with_reducible refine aq (i.at ?_)|wp_step)
  exact j
theorem QY{i:Tok}{Q:Fin->am->Prop}(X:K.In h)(k:oR K C)(I:v3 h a o C ae)(j:Q (.done (.ret (.ref C))) ⟨h,g,d,t,c⟩):ar (ax b w) A (Builtin.«object.__getattribute__» ⟨[.ref a,.str "__class__" i],[]⟩) Q E ⟨h,g,d,t,c⟩:=by
 have q:=I.type (M:=ax b w);have l:PySem.W.findObj K C ae "__class__"=aa (.bind (.builtin "getset_descriptor.__get__") (.builtin "object.__class__")):=by obtain⟨u,m⟩:=CI.mp k.cs;unfold PySem.W.findObj;rw[m,iR,k.cl,iR];simp[k.gs,k.tk]
 have p:=PySem.W.looks_find (M:=ax b w) X I l;have n:mK (ax b w) A (.call (.builtin "getset_descriptor.__get__") ⟨[.builtin "object.__class__",.ref a,.ref C],[]⟩) (λr f=>r=.ok (.ret (.ref C))/\f=⟨h,g,d,t,c⟩) ⟨h,g,d,t,c⟩:=PySem.W.class_get (s:=⟨h,g,d,t,c⟩) X I k.ob ⟨rfl,rfl⟩;refine aq (aG (aq (aG (aq (q.at (aq (p.at ?_)))))));show ar _ _ (do ret (<-nQ [Value.builtin "object.__class__"] (call (.builtin "getset_descriptor.__get__") [.builtin "object.__class__",.ref a,.ref C]))) _ _ _;refine aq (j0 (v4 (ph n λr f z=>?_)));obtain⟨rfl,rfl⟩:=z;exact aG j
theorem Lj{i:Tok}{Q:ai->am->Prop}(X:K.In h)(k:oR K C)(I:v3 h a o C ae)(q:Q (.ref C) ⟨h,g,d,t,c⟩):ar (ax b w) A (getAttrBy (.ref a) (.str "__class__" i) aj) Q E ⟨h,g,d,t,c⟩:=by
 have n:=I.type (M:=ax b w);have m:=PySem.W.looks_findIn (M:=ax b w) X k.ga;have f:=PySem.W.looks_findIn (M:=ax b w) X k.gt;have l:(Value.builtin "BaseException.__getattribute__" == Value.builtin "object.__getattribute__")=aj:=by decide +kernel
 have j:(onTheHeap (Value.ref C)&&Value.builtin "BaseException.__getattribute__" == Value.builtin "object.__getattribute__")=aj:=by rw[l];rfl
 unfold getAttrBy;refine j0 (aq (n.at (aq (m.at ?_))));dsimp only;rw[j];rw[if_neg (by decide)];have f3:=F.attr_ValueError.ga.bind (.ref a);have p:(aj&&onTheHeap (Value.builtin "BaseException.__getattribute__"))=aj:=rfl
 repeat (any_goals (first|assumption|with_reducible refine f.at ?_|with_reducible refine aq (f.at ?_)|wp_step))
 refine codeAny_call_builtin F.attr_ValueError.ga.plain F.entry_bexc_ga (Sw X k I (QY X k I ?_))
 repeat (any_goals (first|assumption|wp_step))
theorem Kq{Q:Option ai->am->Prop}(X:K.In h)(k:oR K C)(I:v3 h a o C ae)(f:Q (aa (.ref C)) ⟨h,g,d,t+1,c⟩):ar (ax b w) A (getAttr? (.ref a) "__class__") Q E ⟨h,g,d,t,c⟩:=by
 unfold getAttr? getAttrBy?
 repeat (any_goals (first|assumption|with_reducible apply Lj X k I|wp_step))
theorem Nm(k:oR K C):PySem.W.KitX K (.ref a) (.ref C) (λh=>∃o,v3 h a o C ae) where
 ty:=λ_ _ _ ⟨o,I⟩=>I.type
 it:=λ_ _ X _=>by
  obtain⟨x,f⟩:=CI.mp k.cs;unfold Da at f;split at f
  .rename_i y v m i l;intro J G H D r q;unfold isType loadHead;exact aq (wpAny_loadPart (r _ _ (X _ _ l)) (aG q))
  .cases f
 ne:=λh p F u n B X j=>by
  obtain⟨x,f⟩:=CI.mp k.cs;refine JM.mpr λq=>?_;have e:C=p:=Value.ref.inj (beq_iff_eq.mp q);subst e;unfold Da at f;split at f
  .rename_i y v m i l;have z:=(X _ _ l).symm.trans j;cases z
  .cases f
 ca:=λ{_ _ _ _ _ s} X I q=>by obtain⟨o,I⟩:=I;obtain⟨h,g,d,t,c⟩:=s;exact Kq X k I q
end
def yJ:V->Option ai
 |.ref D=>aa (.ref D)
 |.ty T=>aa (.type T)
 |_=>ae
theorem LD{v:V}{u a:ai}(e:yJ v=aa u)(r:RelV v a):a=u:=by
 cases v <;> simp[yJ]at e <;> subst e <;> exact r
section
variable{X:Cx}{K:ay}
def Ja(K:ay):List V->Hp->VK->Prop:=λxs H Q=>∃a C D u b,xs=[.ref a,D]/\H a=aa (jo a (.ref C))/\oR K C/\yJ D=aa u/\eQ K (.ref C) u=aa b/\Q (.bl b) H
theorem U7:eU X (.builtin "isinstance") (Ja X.K):=by
 intro B s w H xs y Q I r h;obtain⟨a,C,D,u,b,rfl,j,k,i,e,q⟩:=h;cases r with
 |cons g f=>
  cases f with
  |cons d c=>
   cases c;cases g;have v:=LD i d;subst v;obtain⟨⟨o,x,p,n,m,l⟩,_,_⟩:=I.hok a _ j;refine lT (Nm (a:=a) k) I.kIn ⟨o,p,n,?_,?_⟩ e (by intro z;cases z) λA=>⟨.bl b,H,I.tok _,rfl,q⟩
   .unfold PySem.W.notCls;rw[m]
   .rw[l];trivial
def jN(tab:ai->V->Option Bool):List PV->Option PV
 |[.exc c,.raw D]=>(tab c D).map .bl
 |xs=>fD xs
def Gu(K:ay):List V->Hp->VK->Prop:=λxs H Q=>Ja K xs H Q\/∃x t T b,xs=[x,.ty T]/\i_ K H x (.type t)/\eQ K (.type t) (.type T)=aa b/\Q (.bl b) H
theorem k_:eU X (.builtin "isinstance") (Gu X.K):=U7.or sd
def AS(K:ay)(tab:ai->V->Option Bool):Prop:=∀c D b,tab c D=aa b->∃C u,c=.ref C/\oR K C/\yJ D=aa u/\eQ K (.ref C) u=aa b
theorem kT{tab:ai->V->Option Bool}(j:AS K tab):PL K (Gu K) (jN tab):=λF H xs g Q pv f e q=>by
 unfold jN at e;split at e
 .rename_i c D;cases d:tab c D with
  |none=>rw[d]at e;cases e
  |some b=>
   rw[d]at e;cases e;obtain⟨C,u,rfl,k,i,l⟩:=j c D b d;obtain⟨v,p,rfl,⟨a,rfl,m⟩,o⟩:=f;obtain⟨h,rfl,n⟩:=ik o;rw[show h=D from n];exact .inl ⟨a,C,D,u,b,rfl,m,k,i,l,q _ F H (Al.refl ..) rfl⟩
 .exact .inr (sJ F H _ g Q pv f e q)
theorem iJ{E:XK}{x:Str}{D:ag}{d:Pos}(a:X.mg x=aa (.ref D))(b:Gl X x:=by rfl)(c:(x==("__debug__":Str))=aj:=by decide):DE X E (.Name x d) (dC (.raw (.ref D))):=λF S g f H Q r q=>b9 (Bw (v:=.ref D) b a rfl c) (q F S H r (bp.refl ..) _ rfl)
variable{E:XK}{e:aB}{de:ak->R PV}{d:Pos}{y:Str}
def A0(xs:List PV)(y:PV):Option PV:=(d_ y).bind λv=>(k8 xs).map λa=>.int (a.countP λz=>eX z v)
def BN(xs:List PV)(y:PV):Option PV:=(d_ y).bind λv=>(k8 xs).bind λa=>(a.findIdx? λz=>eX z v).map λj=>.int j
def sL(f:List PV->PV->Option PV)(i:Nat)(de:ak->R PV):ak->R PV:=λb=>(aQ (eC b i) b).bind λ_ b=>(de b).bind λk a=>(aQ (eC a i) a).bind λxs a=>aQ (f xs k) a
theorem M3(i:Nat){p c b:Pos}(N:DE X E e de)(T:X.N[i]?=aa y:=by rfl)(L:ez X.env.scope y:=by first|exact Or.inl rfl|exact Or.inr (Or.inl rfl)|exact Or.inr (Or.inr rfl))(O:(y==("__debug__":Str))=aj:=by decide)(bB:(y==("__classdict__":Str))=aj:=by decide) (h1:nX (.Name y p) "count" X.env (a6 (.Name y p) X.env)=a6 (.Name y p) X.env:=by rfl)(Z:((c7 b (aR [e] X.env)).all (λx=>!x.1)&&(qT b (qU [] X.env)).all (λx=>x.1.isSome)&&decide ([e].length+([]:List kD).length+(if([]:List kD).isEmpty then 0 else 1)<30))=ah:=by rfl)(Y:(c.endLine == b.line)=ah:=by rfl) (u:aR [e] X.env=(aj,a6 e X.env)::aR [] X.env:=by rfl) (W:(c7 b (aR [] X.env)).any (·.1)=aj:=by rfl):DE X E (.Call (.Attribute (.Name y p) "count" c) [e] [] b) (sL A0 i de):=λF S o A H Q r h=>by
 unfold sL at h;cases n:eC o i with
 |none=>rw[n]at h;exact h.elim
 |some B=>
  rw[n]at h;simp only[b7,R.bind_ok]at h;obtain⟨a,C,z,P,_,_,_⟩:=r.lstAt (jy n);refine b9 (vG C9 PySem.F.slot_list_count PySem.F.type_list_count Ng (fI T L O bB) (i4 bT ki u) h1 Z Y u W) ⟨.ref a,z,.inl ⟨rfl,_,cy.of P⟩,?_⟩;refine N F S o A H _ r ((Ok.bind h).imp λk j F1 S1 H1 s g1 q v G=>?_);cases m:eC j i with
  |none=>rw[m]at q;exact q.elim
  |some xs=>
   rw[m]at q;simp only[b7,R.bind_ok]at q;obtain⟨a',D,g,J,I,_,_⟩:=s.lstAt (jy m);rw[z]at g;cases g;unfold A0 at q;cases f:d_ k with
   |none=>rw[f]at q;exact q.elim
   |some w=>
    cases l:k8 xs with
    |none=>rw[f,l]at q;exact q.elim
    |some ws=>rw[f,l]at q;obtain⟨rfl,M⟩:=xw I l;rw[kc G f];exact⟨a,D,w,rfl,rfl,J,ux f,M,q F1 S1 H1 s (bp.refl ..) _ rfl⟩
theorem Lu(i:Nat){p c b:Pos}(he:DE X E e de)(hN:X.N[i]?=aa y:=by rfl)(Y:ez X.env.scope y:=by first|exact Or.inl rfl|exact Or.inr (Or.inl rfl)|exact Or.inr (Or.inr rfl))(hd:(y==("__debug__":Str))=aj:=by decide)(bB:(y==("__classdict__":Str))=aj:=by decide) (h1:nX (.Name y p) "index" X.env (a6 (.Name y p) X.env)=a6 (.Name y p) X.env:=by rfl)(h2:((c7 b (aR [e] X.env)).all (λx=>!x.1)&&(qT b (qU [] X.env)).all (λx=>x.1.isSome)&&decide ([e].length+([]:List kD).length+(if([]:List kD).isEmpty then 0 else 1)<30))=ah:=by rfl)(h3:(c.endLine == b.line)=ah:=by rfl) (G:aR [e] X.env=(aj,a6 e X.env)::aR [] X.env:=by rfl) (h5:(c7 b (aR [] X.env)).any (·.1)=aj:=by rfl):DE X E (.Call (.Attribute (.Name y p) "index" c) [e] [] b) (sL BN i de):=λF S A J H Q B h=>by
 unfold sL at h;cases u:eC A i with
 |none=>rw[u]at h;exact h.elim
 |some L=>
  rw[u]at h;simp only[b7,R.bind_ok]at h;obtain⟨a,N,I,ha,_,_,_⟩:=B.lstAt (jy u);refine b9 (vG C9 PySem.F.slot_list_index PySem.F.type_list_index QN (fI hN Y hd bB) (i4 bT ki G) h1 h2 h3 G h5) ⟨.ref a,I,.inl ⟨rfl,_,cy.of ha⟩,?_⟩;refine he F S A J H _ B ((Ok.bind h).imp λk r F1 S1 H1 C g1 q v P=>?_);cases s:eC r i with
  |none=>rw[s]at q;exact q.elim
  |some xs=>
   rw[s]at q;simp only[b7,R.bind_ok]at q;obtain⟨a',O,l,W,T,_,_⟩:=C.lstAt (jy s);rw[I]at l;cases l;unfold BN at q;cases f:d_ k with
   |none=>rw[f]at q;exact q.elim
   |some w=>
    cases o:k8 xs with
    |none=>rw[f,o]at q;exact q.elim
    |some M=>
     cases n:M.findIdx? λz=>eX z w with
     |none=>rw[f,o]at q;simp only[iR]at q;rw[n]at q;exact q.elim
     |some j=>
      rw[f,o]at q;simp only[iR]at q;rw[n]at q;obtain⟨rfl,hf⟩:=xw T o;rw[kc P f];rw[UM]at n;obtain⟨D,h6,h7⟩:=n;refine⟨a,O,w,j,rfl,rfl,W,ux f,hf,D,λz g=>?_,λm z Z g=>?_,q F1 S1 H1 C (bp.refl ..) _ rfl⟩
      .rw[fE D]at g;cases g;exact h6
      .have:=h7 m Z;rw[fE ∅]at g;cases g;simpa using this
end
def iB(g:Tx):List Tx->Tx
 |[]=>[]
 |[x]=>x
 |x::y::r=>x++g++iB g (y::r)
theorem Eg(a b:Tx):tS (a++b)=tS a++tS b:=by apply Str.ext';simp[tS,Str.cps_append]
theorem G_(g:Tx):∀a:List Tx,Str.join (tS g) (a.map tS)=tS (iB g a)
 |[]=>rfl
 |[x]=>rfl
 |x::y::r=>by show tS x++tS g++Str.join (tS g) ((y::r).map tS)=tS (x++g++iB g (y::r));rw[G_ g (y::r),Eg,Eg]
theorem HD(g:Tx)(a:List Tx):Txt.join (tS g) (a.map tS)=tS (iB g a):=by unfold Txt.join;rw[StrLaws.glued_eq_join,G_]
theorem Ei(c:Nat):∀l:List Nat,PyProof.Rows.cnt c l=(l.count c:Nat)
 |[]=>rfl
 |a::l=>by
  rw[PyProof.Rows.cnt_cons,Ei c l,List.count_cons];by_cases h:a=c
  .simp[h];lia
  .simp[h]
theorem MW(c:Nat)(x:Tx):Txt.count (tS x) (tS [c])=(x.count c:Nat):=by have:=PyProof.Rows.count_cnt (tS x) c;rw[k9,Ei]at this;exact this
theorem LJ(c:Nat)(x:Tx):xj [c] x=x.contains c:=by unfold xj;have:=StrLaws.found_one (tS x) c;rw[k9]at this;rw[show(tS [c])=⟨#[c]⟩from rfl,this];simp[List.contains_eq_mem]
theorem Ce:∀{b:List Tx}{a:List ai},bx (cL b) a->eh a (b.map tS)
 |[],_,r=>by cases r;exact .nil
 |x::b,_,r=>by
  cases r with
  |cons d c=>obtain⟨t,rfl⟩:=d;exact .cons _ t (Ce c)
section
variable{X:Cx}{K:ay}
def i9(g:Tx)(ls:List Tx):Nat:=(ls.map lU).sum+ls.length*g.length
theorem GR(g:Tx):∀a,(iB g a).length<=i9 g a
 |[]=>lY _
 |[x]=>by simp[iB,i9]
 |x::y::r=>by have h:=GR g (y::r);show(x++g++iB g (y::r)).length<=_;generalize iB g (y::r)=z at h;unfold i9 at *;simp only[dS,cn,jg,eG,Nat.add_mul]at *;lia
def AN(K:ay):V->List V->Hp->VK->Prop:=λx xs H Q=>∃g p a,x=tV g/\xs=[.ref p]/\(cy K H p (cL a)\/cu K H p (cL a))/\i9 g a<=bo/\Q (tV (iB g a)) H
theorem My:tQ X "str.join" (AN X.K):=by
 intro A s y H x xs v z Q I m o h;obtain⟨g,p,b,rfl,rfl,d,w,q⟩:=h;obtain⟨t,rfl⟩:=m;obtain⟨u,rfl,n⟩:=vals1 o;cases n;have c:((b.map tS).map (·.length)).sum+(b.map tS).length*(tS g).length<=16777216:=by
  have e:((b.map tS).map (·.length))=b.map lU:=by rw[et];exact j2 λa _=>kN a
  rw[e,cz,kN];unfold i9 bo at w;lia
 rcases d with d|d
 .obtain⟨l,i,j,r⟩:=I.list d;exact join_list j.isList (by simpa using Ce i) c λf k=>⟨tV (iB g b),H,I.tok _,(by rw[HD];exact⟨f,rfl⟩),q⟩
 .obtain⟨l,i,j,r⟩:=I.tuple d;exact join_tuple j (by simpa using Ce i) c λf k=>⟨tV (iB g b),H,I.tok _,(by rw[HD];exact⟨f,rfl⟩),q⟩
def Ft:V->List V->Hp->VK->Prop:=λx xs H Q=>∃y c,x=tV y/\xs=[tV [c]]/\Q (.int (y.count c:Nat)) H
theorem QA:tQ X "str.count" Ft:=by intro i s d H x xs v f Q I a b h;obtain⟨y,c,rfl,rfl,q⟩:=h;obtain⟨t,rfl⟩:=a;obtain⟨u,rfl,g,rfl⟩:=vals1 b;exact SC.count ⟨.int _,H,I.tok _,⟨_,by rw[MW]⟩,q⟩
def PM(K:ay)(r:V->List V->Hp->VK->Prop)(f:Tx->List PV->Option PV):Prop:=∀(F:ag->Prop) (H:Hp) (x:Tx) (xs:List PV) (b:List V) (Q:VK) (pv:PV),x.length<=bo->Reps K H F xs b->f x xs=aa pv->(∀w c a,Al F c H a->aU K a c pv w->Q w a)->r (tV x) b H Q
def BC:PV->Option Tx
 |.str x=>aa x
 |_=>ae
def u9(f:Tx->List PV->Option PV)(d:ak->R PV)(m:ak->R (List PV)):ak->R PV:=λc=>(d c).bind λx a=>(aQ (BC x) a).bind λy a=>(m a).bind λg b=>aQ (f y g) b
variable{E:XK}{o e:aB}{l:List aB}{d:ak->R PV}{m:ak->R (List PV)}{i:Str}{j b:Pos}{n:String}{r:V->List V->Hp->VK->Prop}{f:Tx->List PV->Option PV}
theorem Gg(g:PySem.Slot "str" i n)(T:typeOf (.builtin n)=pure (.type "method_descriptor"))(hm:tQ X n r)(hp:PM X.K r f)(ho:DE X E o d)(ha:DA X E (e::l) m)(N:nX o i X.env (a6 o X.env)=a6 o X.env:=by rfl)(D:((c7 b (aR (e::l) X.env)).all (λx=>!x.1)&&(qT b (qU [] X.env)).all (λx=>x.1.isSome)&&decide ((e::l).length+([]:List kD).length+(if([]:List kD).isEmpty then 0 else 1)<30))=ah:=by rfl)(M:(j.endLine == b.line)=ah:=by rfl) (Z:aR (e::l) X.env=(aj,a6 e X.env)::aR l X.env:=by rfl) (Dz:(c7 b (aR l X.env)).any (·.1)=aj:=by rfl):DE X E (.Call (.Attribute o i j) (e::l) [] b) (u9 f d m):=λF S C s H Q L h=>by
 refine b9 (vG PySem.F.plainAttrs_str g T hm bT im N D M Z Dz) (ho F S C s H _ L ((Ok.bind h).imp λx c B z A P g1 q v J=>?_));cases x <;> first|exact(show False from q).elim|skip
 rename_i y;obtain⟨rfl,Y⟩:=J;refine⟨rfl,?_⟩;have q:Ok X.K E s B z A ((m c).bind λG a=>aQ (f y G) a) _:=q;refine ha B z c s A _ P ((Ok.bind q).imp λxs a F2 S2 H2 O g2 p I W=>?_);cases e:f y xs with
 |none=>rw[e]at p;exact p.elim
 |some pv=>rw[e]at p;exact hp F2 H2 y xs I Q pv Y W e λw F' H' al u=>p F' S2 H' (O.al al) al.grow w u
def xK(g:Tx):List PV->Option PV
 |[.lst xs]=>(io xs).bind λa=>if i9 g a<=bo then aa (.str (iB g a))else ae
 |[.tup xs]=>(io xs).bind λa=>if i9 g a<=bo then aa (.str (iB g a))else ae
 |_=>ae
theorem PP:PM K (AN K) xK:=λF H g xs D Q pv G z e q=>by
 have u:∀(w:List PV) (p:ag) (c:List V),Reps K H F w c->(cy K H p c\/cu K H p c)->((io w).bind λs=>if i9 g s<=bo then aa (PV.str (iB g s))else ae)=aa pv->AN K (tV g) [.ref p] H Q:=λw p c h C e=>by
  cases x:io w with
  |none=>rw[x]at e;cases e
  |some s=>
   rw[x,iR]at e;split at e
   .rename_i A;cases e;have B:=(Va.mp (xm x ▸ h)).1;subst B;exact⟨g,p,s,rfl,rfl,C,A,q _ F H (Al.refl ..) ⟨rfl,c0 (GR g s) A⟩⟩
   .cases e
 unfold xK at e;split at e
 .obtain⟨v,rfl,a,c,rfl,y,_,h⟩:=ik z;exact u _ a c h (.inl (.inl y)) e
 .obtain⟨v,rfl,a,c,rfl,y,h⟩:=ik z;exact u _ a c h (.inr (cu.of y)) e
 .cases e
def xJ(y:Tx):List PV->Option PV
 |[.str [c]]=>aa (.int (y.count c:Nat))
 |_=>ae
theorem Rx:PM K Ft xJ:=λF H y xs g Q pv h a e q=>by
 unfold xJ at e;split at e
 .rename_i c;cases e;obtain⟨v,rfl,rfl,_⟩:=ik a;exact⟨y,c,rfl,rfl,q _ F H (Al.refl ..) rfl⟩
 .cases e
end
theorem T8:fillsNumberSlot (.type "tuple") "mul"=pure aj :=PySem.fillsNumberSlot_seq (id:="tuple.__mul__") (r:=aa (.builtin "tuple.__rmul__")) F.slot_tuple_mul.lookup (by decide +kernel) F.slot_tuple_rmul.lookup (by decide +kernel)
theorem Qu:seqRepeat? (.type "tuple")=pure (aa (.builtin "tuple.__mul__")):=by unfold seqRepeat?;rw[PySem.seqSlot_of (T:="tuple") (name:="__mul__") (id:="tuple.__mul__") F.slot_tuple_mul.lookup (by decide +kernel),PySem.seqSlot_of (T:="tuple") (name:="__rmul__") (id:="tuple.__rmul__") F.slot_tuple_rmul.lookup (by decide +kernel)];rfl
theorem UA(a:Int)(t:Tok)(l:ag)(b:Array ai)(n:Nat)(i:Option ag)(f:Array (Option ai)):Meets (Builtin.«int.__rmul__» ⟨[.int a t,.ref l],[]⟩) (λ_ R s=>s.heap.get? l=aa {cls:=.type "tuple",dict:=i,data:=.seq b n,slots:=f}/\R (.ok (.ret Value.notImplemented)) s) :=.of_wp λc w A R s h=>by obtain⟨o,g,d,j,m⟩:=s;obtain⟨p,h⟩:=h;wp_walk;exact⟨_,rfl,h⟩
theorem Ou(l:ag)(a:Array ai)(n:Nat)(j:Option ag)(c:Array (Option ai))(x:Int)(u:Tok)(i:(decide (x < -(2^63))||decide (x ≥ 2^63))=aj)(z:(a.isEmpty||x == 1)=aj)(y:(decide (x<=0)||a.isEmpty)=aj)(f:¬(a.size*x > (2^63-1) / 8))(v:Builtin.Tuple.tupleTooMany (a.size*x)=aj)(r:((bu x.toNat a).foldl (·++·) #[]).size<=bh):Meets (Builtin.«tuple.__mul__» ⟨[.ref l,.int x u],[]⟩) (λ_ R s=>s.heap.get? l=aa {cls:=.type "tuple",dict:=j,data:=.seq a n,slots:=c}/\R (.ok (.ret (.ref s.heap.objs.size))) {s with heap:=s.heap.push {cls:=.type "tuple",data:=.seq ((bu x.toNat a).foldl (·++·) #[])}}) :=
 .of_wp λb w A R s h=>by
  obtain⟨p,g,d,m,o⟩:=s;obtain⟨q,h⟩:=h
  wp_walk
  refine wpAny_ite_false (decide_eq_false (by rw[i];exact eF)) ?_
  wp_walk
  refine wpAny_ite_false (decide_eq_false f) ?_
  wp_walk
  exact⟨_,rfl,h⟩
section
variable{X:Cx}{K:ay}
def Hx(K:ay):R2:=λx y H Q=>∃a k xs,x=.ref a/\y=.int k/\cu K H a xs/\xs≠[]/\2<=k/\k<=1000/\xs.length<=1000/\∀p,H p=ae->Q (.ref p) (upd H p (.tup (bu k.toNat xs).flatten))
theorem UB:bX X (iy .Mult) (Hx X.K):=by
 intro af s W H x y v u Q I D C h;obtain⟨l,k,xs,rfl,rfl,L,O,h1,M,G,q⟩:=h;cases D;obtain⟨t,rfl⟩:=C;obtain⟨a,r,E,_⟩:=I.tuple L;obtain⟨⟨P,m,p,d⟩,c,i,n,g⟩:=id E;simp only at i g;subst i g;have Z:=r.length;have S:a≠[]:=λz=>O (r.nil_iff.mp z);have j:List.foldl (λA w=>A++w) #[] (bu k.toNat a.toArray)=(bu k.toNat a).flatten.toArray:=by have:=foldl_rep a k.toNat [];rw[gI]at this;exact this
 have f:a.toArray.isEmpty=aj:=by cases a with|nil=>exact absurd rfl S|cons=>rfl
 have N:(k == 1)=aj:=by rw[beq_eq_false_iff_ne];lia
 have DP:a.toArray.size*k<=1000000:=by
  rw[cH];have J:(a.length:Int)<=1000:=∅
  have:=Int.mul_le_mul J M ∅ ∅;lia
 refine wpAny_binaryOp_repeat_ref (T:="tuple") (U:="int") (by decide) ⟨_,c,rfl⟩ (λB=>zA B k t) T8 F.fills_int_mul Db Qu F.slot_int_index.lookup
  (qV Db (zA s k t) F.entry_int_rmul (F.args_int_rmul_2 _ _) (UA k t l a.toArray n m d) ⟨c,rfl,⟨_,c,rfl⟩,qV F.slot_tuple_mul ⟨_,c,rfl⟩ F.entry_tuple_mul (F.args_tuple_mul_2 _ _) (Ou l a.toArray n m d k t ?_ ?_ ?_ ?_ ?_ ?_) ⟨c,?_⟩⟩)
 .rw[decide_eq_false ∅,decide_eq_false ∅];rfl
 .rw[f,N];rfl
 .rw[f,decide_eq_false ∅];rfl
 .lia
 .unfold Builtin.Tuple.tupleTooMany;exact decide_eq_false (by rw[lR];lia)
 .rw[j,cH,yr,lR];have:=qY (show k.toNat<=1000 by lia) (show a.length<=1000 by lia);lia
 .rw[j];refine⟨.ref s.heap.objs.size,_,I.laid (t':=s.toks) (o:=.tup (bu k.toNat xs).flatten) (λb Y q=>bK _ q) (bd _) ?_,rfl,q _ (I.hok.fresh (bd _))⟩;refine⟨?_,_,r.rep k.toNat,Jc.new _ _⟩;rw[yr,lR];have:=qY (show k.toNat<=1000 by lia) G;lia
theorem _root_.Pu.Reps.rep{H:Hp}{F:ag->Prop}{xs:List PV}{a:List V}(r:Reps K H F xs a):∀n:Nat,Reps K H F (bu n xs).flatten (bu n a).flatten
 |0=>rfl
 |n+1=>by rw[pr,pr,tZ,tZ];exact r.app (r.rep n)
def xR:PV->PV->Option PV
 |.tup xs,.int k=>if xs≠[]/\2<=k/\k<=1000/\xs.length<=1000 then aa (.tup (bu k.toNat xs).flatten)else ae
 |_,_=>ae
theorem T_:P2 K (Hx K) xR:=λF H x y v u Q pv i g e q=>by
 unfold xR at e;split at e
 .split at e
  .rename_i xs k h;cases e;obtain⟨a,f,rfl,j,b⟩:=i;have d:=b.len;exact⟨a,k,f,rfl,g,cu.of j,(λz=>h.1 (by rw[z]at d;exact t6 d.symm)),h.2.1,h.2.2.1,∅,λp c=>q _ F _ (Al.new0 c) ⟨p,_,rfl,upd_same,(Al.new0 c).reps (b.rep _)⟩⟩
  .cases e
 .cases e
end
section
variable{X:Cx}{E:XK}{n:d7}{x:Str}{N':List Str}{cap:List Nat}
variable{pin:List Nat}
theorem EZ{F:ag->Prop}{S:Nat->ag->Prop}{l:ak}{f:St}{H:Hp}{D:kX}{i:Nat}{dn:ak->R PO}(P:i∉pin)(rl:aN X.K F S l f H)(h:ir X.K E pin f F S H (bW i (dF dn) l) D):Ok X.K E f F S H (dn l) (λq _ p u j=>∀a d,eZ X.K j p q a d->(∀b,d b->H b=ae/\¬p b/\¬U u b/\∃o,j b=aa o/\cU o)->D.nx (f.set i (aa (.ref a))) j):=by
 unfold bW dF at h;cases s:dn l with
 |no=>rw[s]at h;exact h.elim
 |er c I=>rw[s]at h;exact λx p u j M Z=>h x p u f j M Z (iC.refl _ _)
 |ok q G=>
  rw[s]at h;intro B A m L g a d N v;cases q with
  |dK r=>exact h.elim
  |lls j5=>exact h.elim
  |ins C fs=>exact h.elim
  |dT r=>exact h.elim
  |inl C fs y xs=>exact h.elim
  |lst xs=>
   have W:∀b,d b->¬U A b/\∃o,m b=aa o:=λb z=>let ⟨_,_,x3,o,x4,_⟩:=v b z;⟨x3,o,x4⟩
   obtain⟨⟨J,Q,O⟩,T⟩:=N;have Y:bp (U S) (U A) F (λb=>B b\/d b) H m:=⟨λb z=>.inl (g.fro b z),g.keep,g.there,λb z=>z.elim (g.fnew b) λw=>.inr (.inl (v b w).1),g.onew⟩
   have K:aU X.K m (λb=>B b\/d b) (.lst xs) (.ref a):=⟨a,J,rfl,.inl Q,.inr ((T a).mpr rfl),Reps.mono (λ_ z=>.inl z) (λ_ _ _ z=>z) (λ_ _ z _=>z) _ _ O⟩
   exact h _ _ _ m ((L.more W).set K) (Y.trans (bp.less i)) (iC.set P)
section
variable{c a:aB}{y:Str}{g j f d:Pos}{l:ak->R (List PV)}{dt:ak->R Bool}{de:ak->R PV}{m:ak->R PO}{b:List aB}
theorem K6(i:Nat)(T:X.N.Nodup)(B:jq X n x N' cap)(P:X.calm=ah)(M:DI X E (.Name x g) a l)(J:∀C o p r q,DF (bM X n N' C o p r q) E0 b dt) (O:∀C o p r q,DE (bM X n N' C o p r q) E0 c de)(L:i∉pin:=by decide) (A:X.N[i]?=aa y:=by rfl) (G:Loc X.env.scope y:=by first|exact Or.inl rfl|exact Or.inr rfl) (z:jZ (.ListComp c [⟨.Name x g,a,b,0⟩] n f) (aa (.Name y j)) d.line X.env=pure ah:=by rfl)(N:X.fn y=ah\/X.env.scope.names.lookup y=aa .local:=by first|exact .inl rfl|exact .inr rfl) (K:∀x,mJ a X.env x=pure x:=by intro _;rfl):DS X E pin (.Assign [.Name y j] (.ListComp c [⟨.Name x g,a,b,0⟩] n f) d) (bW i (dF (cV cap l dt de))):=λF S W u H D w h=>gC (TN (wi:=nL X (.Name x g) a) (ts:=λu H Q=>∀C o p r q,qu (bM X n N' C o p r q) b u H Q) (te:=λu H Q=>∀C o p r q,ig (bM X n N' C o p r q) c u H Q) B P zq (λC o p r q v s u H Q I h=>(h C o p r q).run v s I) (λC o p r q v s u H Q I h=>(h C o p r q).run v s I) T A G z N K) (Gz M J O w (EZ L w h))
end
end
def fk(a:List Nat):Nat->ak->Bool
 |_,[]=>ah
 |i,.own c::b=>a.contains i&&ge c&&fk a (i+1) b
 |i,_::b=>fk a (i+1) b
theorem sq{c:List Nat}:∀{b:ak}{k:Nat},fk c k b=ah->∀(i:Nat) a,b[i]?=aa (.own a)->k+i∈c/\ge a=ah
 |[],_,_,i,a,e=>by simp at e
 |.own q::b,k,h,0,a,e=>by simp only[List.getElem?_cons_zero,Option.some.injEq,Slot.own.injEq]at e;subst e;simp only[fk,gG]at h;exact⟨by simpa using h.1.1,h.1.2⟩
 |.own q::b,k,h,i+1,a,e=>by simp only[fk,gG]at h;have:=sq (k:=k+1) h.2 i a (by simpa using e);rwa[JN,Dc]at this
 |.val q::b,k,h,0,a,e=>by simp at e
 |.none::b,k,h,0,a,e=>by simp at e
 |.val q::b,k,h,i+1,a,e=>by have:=sq (k:=k+1) (by simpa[fk]using h) i a (by simpa using e);rwa[JN,Dc]at this
 |.none::b,k,h,i+1,a,e=>by have:=sq (k:=k+1) (by simpa[fk]using h) i a (by simpa using e);rwa[JN,Dc]at this
def bH(len:Nat)(b:List Nat)(g:ak->R Slot):ak->R Slot:=λa=>if a.length=len/\fk b 0 a=ah then g a else .no
theorem c9{q:gx}{P:aV}{w:aL}{K:ay}{o:Str->Option ai}{g:aD}{x:Str}{c:ba}{N b:List Str}{k n:Nat}{d:ak->R aO}{pin:List Nat}(D:cC K o x c)(G:cb N b (a_ c))(y:N.length=b.length+n)(B:∀(kV p u:ai) (F:Option ag) (l C:ai) (m:List ai),m.length=b.length->gF (je x x (kg c) (gE c) (a_ c) .none kV p u F l C) ⟨m,[]⟩=pure (b.zip m))(v:∀(f:ag) (l:ai) (A:aX) (j:List Env) (s:am) (H:Hp) (E:XK),dW k (A.deeper (jB x (a_ c) s.heap.objs.size f l))->gL (jr q P w K o g N x (a_ c) f l A j s H E) E pin (gE c) d):cf q P w K o g x (k+1) b (bt K (bH b.length pin (bG n d))):=by
 have no:∀{a},bH b.length pin (bG n d) a≠.no->a.length=b.length/\fk pin 0 a=ah:=λ{a} h=>by
  unfold bH at h;by_cases z:a.length=b.length/\fk pin 0 a=ah
  .exact z
  .rw[if_neg z]at h;exact absurd rfl h
 exact Uy D G y B (λa h=>(no h).1) (λa h i r e=>by have:=sq (no h).2 i r e;rwa[ud]at this) (λa h=>by unfold bH;rw[if_pos (no h)]) v
theorem Oe{f:ag}{r:gi}{u:gx}{P:aV}{w:aL}{K:ay}{q:Str->Option ai}{j:aD}{x a:Str}{g:ba}{N c:List Str}{k n:Nat}{d:ak->R aO}{pin:List Nat}(J:qg K x a g f r)(I:cb N c (a_ g))(C:N.length=c.length+n)(D:∀(kV p y:ai) (G:Option ag) (m F:ai) (o:List ai),o.length=c.length->gF (je x a (kg g) (gE g) (a_ g) .none kV p y G m F) ⟨o,[]⟩=pure (c.zip o))(B:∀(f:ag) (m:ai) (A:aX) (l:List Env) (s:am) (H:Hp) (E:XK),dW k (A.deeper (jB a (a_ g) s.heap.objs.size f m))->gL (jr u P w K q j N a (a_ g) f m A l s H E) E pin (gE g) d):jP P w K q j u (k+1) f r c (bt K (bH c.length pin (bG n d))):=by
 have no:∀{b},bH c.length pin (bG n d) b≠.no->b.length=c.length/\fk pin 0 b=ah:=λ{b} h=>by
  unfold bH at h;by_cases z:b.length=c.length/\fk pin 0 b=ah
  .exact z
  .rw[if_neg z]at h;exact absurd rfl h
 exact GM J I C D (λb h=>(no h).1) (λb h i v e=>by have:=sq (no h).2 i v e;rwa[ud]at this) (λb h=>by unfold bH;rw[if_pos (no h)]) B
theorem Mu{P:aV}{w:aL}{K:ay}{o:Str->Option ai}{g:aD}{x:Str}{c:ba}{N b:List Str}{k n:Nat}{d:ak->R aO}{pin:List Nat}(D:cC K o x c)(E:cb N b (a_ c))(v:N.length=b.length+n)(y:∀(kV p r:ai) (C:Option ag) (l B:ai) (m:List ai),m.length=b.length->gF (je x x (kg c) (gE c) (a_ c) .none kV p r C l B) ⟨m,[]⟩=pure (b.zip m))(u:∀(f:ag) (l:ai) (A:aX) (j:List Env) (s:am) (H:Hp),kW k (A.deeper (jB x (a_ c) s.heap.objs.size f l))->gL (vQ P w K o g N x (a_ c) f l A j s H) E0 pin (gE c) d):xS P w K o g x (k+1) b (bt K (bH b.length pin (bG n d))):=by
 have no:∀{a},bH b.length pin (bG n d) a≠.no->a.length=b.length/\fk pin 0 a=ah:=λ{a} h=>by
  unfold bH at h;by_cases z:a.length=b.length/\fk pin 0 a=ah
  .exact z
  .rw[if_neg z]at h;exact absurd rfl h
 exact Kn D E v y (λa h=>(no h).1) (λa h i q e=>by have:=sq (no h).2 i q e;rwa[ud]at this) (λa h=>by unfold bH;rw[if_pos (no h)]) u
theorem Iu{P:List ai->Prop}(h:∀a,P [a])(c:List ai)(d:c.length=1):P c:=by
 cases c with
 |nil=>cases d
 |cons a r=>cases r with
  |nil=>exact h a
  |cons b r=>cases d
theorem IK{P:List ai->Prop}(h:∀a b,P [a,b])(c:List ai)(d:c.length=2):P c:=by
 cases c with
 |nil=>cases d
 |cons a r=>exact Iu (P:=λr=>P (a::r)) (h a) r (zN d)
theorem Fu{P:List ai->Prop}(h:∀a b c,P [a,b,c])(d:List ai)(f:d.length=3):P d:=by
 cases d with
 |nil=>cases f
 |cons a r=>exact IK (P:=λr=>P (a::r)) (h a) r (zN f)
theorem Tn{P:List ai->Prop}(h:∀a b c d,P [a,b,c,d])(f:List ai)(g:f.length=4):P f:=by
 cases f with
 |nil=>cases g
 |cons a r=>exact Fu (P:=λr=>P (a::r)) (h a) r (zN g)
theorem Vk{d:gi}{c:List Str}(h:∀a,gF d ⟨[a],[]⟩=pure (c.zip [a]))(b:List ai)(f:b.length=1):gF d ⟨b,[]⟩=pure (c.zip b):=Iu (P:=λb=>gF d ⟨b,[]⟩=pure (c.zip b)) h b f
theorem U8{f:gi}{d:List Str}(h:∀a b,gF f ⟨[a,b],[]⟩=pure (d.zip [a,b]))(c:List ai)(g:c.length=2):gF f ⟨c,[]⟩=pure (d.zip c):=IK (P:=λc=>gF f ⟨c,[]⟩=pure (d.zip c)) h c g
theorem Vh{g:gi}{f:List Str}(h:∀a b c,gF g ⟨[a,b,c],[]⟩=pure (f.zip [a,b,c]))(d:List ai)(i:d.length=3):gF g ⟨d,[]⟩=pure (f.zip d):=Fu (P:=λd=>gF g ⟨d,[]⟩=pure (f.zip d)) h d i
theorem Vv{i:gi}{g:List Str}(h:∀a b c d,gF i ⟨[a,b,c,d],[]⟩=pure (g.zip [a,b,c,d]))(f:List ai)(j:f.length=4):gF i ⟨f,[]⟩=pure (g.zip f):=Tn (P:=λf=>gF i ⟨f,[]⟩=pure (g.zip f)) h f j
theorem kx{P:aV}{w:aL}{X:Cx}:sN (bU P w) X E0:=λ_ _ _ _ _ _ _ h=>by obtain⟨a,T,c,b,_,_,_,_,_,_,_,z⟩:=h;exact z.elim
theorem iF:fe "len"=aa (.builtin "len"):=by decide +kernel
theorem IT:fe "all"=aa (.builtin "all"):=by decide +kernel
theorem Qy:fe "any"=aa (.builtin "any"):=by decide +kernel
theorem nz:fe "sorted"=aa (.builtin "sorted"):=by decide +kernel
theorem iH:fe "isinstance"=aa (.builtin "isinstance"):=by decide +kernel
theorem QO:fe "int"=aa (.type "int"):=by decide +kernel
theorem Qz:fe "bool"=aa (.type "bool"):=by decide +kernel
theorem OL:fe "str"=aa (.type "str"):=by decide +kernel
theorem Fl:fe "list"=aa (.type "list"):=by decide +kernel
theorem qh:fe "tuple"=aa (.type "tuple"):=by decide +kernel
theorem OC:fe "set"=aa (.type "set"):=by decide +kernel
theorem R_:fe "ValueError"=aa (.type "ValueError"):=by decide +kernel
def oU:aB->Bool
 |.Starred _ _=>ah
 |_=>aj
theorem j9{e:aB}{b:List aB}{a:Env}(h:oU e=aj):aR (e::b) a=(aj,a6 e a)::aR b a:=by
 cases e <;> first|rfl|cases h
section
variable{X:Cx}{E:XK}{e:aB}{a:List aB}{d:ak->R PV}{b:ak->R (List PV)}{c:ak->R (List b0)}
theorem au(g:DE X E e d)(f:DA X E a b)(h:oU e=aj:=by rfl):DA X E (e::a) (ap d b):=O3 g f (j9 h)
theorem aZ(g:DE X E e d)(f:DG X E a c)(h:oU e=aj:=by rfl):DG X E (e::a) (gV d c):=Mb g f (j9 h)
end
def vk:List ai:=[.type "ValueError",.type "Exception",.type "BaseException",.type "object"]
theorem Cb{K:ay}{h:aD}{C:ag}{B:List ai}{nw:String}(X:K.In h)(q:pF K C B nw=ah):∃i N w p bs E j a G c F D A z y x g,h.get? C=aa (C_ w p C N bs i E j a G c F D A z y x nw)/\h.Ns N g/\g "__init__"=ae/\OwnTail h B i:=by
 unfold pF at q;split at q
 case h_2=>cases q
 case h_1 d0 cdata slots look=>
  split at q
  case h_2=>cases q
  case h_1 C2 tl s0 s1 s2 s3 nn s5 em es=>
   rw[gG,gG,gG,gG,gG]at q;obtain⟨⟨⟨⟨⟨v,u⟩,f⟩,s⟩,b⟩,r⟩:=q;have o:=beq_iff_eq.mp v;have n:=beq_iff_eq.mp u;have d:=beq_iff_eq.mp r;subst o n;cases cdata;dsimp only at em f b d;subst em;have m:=JO _ |>.mp f
   subst m;have l:slots=#[s0,s1,s2,s3,aa (.builtin nn),s5]:=by cases slots;exact congrArg Array.mk es
   subst l;exact⟨tl,_,_,_,_,_,_,_,_,_,d0,s0,s1,s2,s3,s5,_,X _ _ look,Heap.Ns.of_isNs (PySem.W.isNs_of_in X b),PySem.W.nsMap_none_of_in X b d,PySem.W.tail_of_in X s⟩
theorem Mj{K:ay}{h:aD}{a:Str->Option ai}{x:Str}{C:ag}{B:List ai}{nw:String}(X:K.In h)(e:a x=aa (.ref C))(q:pF K C B nw=ah):OwnCls x C B nw a h:=⟨e,Cb X q⟩
theorem SN{K:ay}{h:aD}{C:ag}{nw:String}(X:K.In h)(q:pF K C vk nw=ah):tj h C:=by obtain⟨p,N,f,d,bs,n,c,a,r,b,o,m,l,j,i,g,s,e,_,_,t⟩:=Cb X q;exact⟨p,N,f,d,bs,n,c,a,r,b,o,m,l,j,i,g,nw,e,t.hasType rfl⟩
def subB(K:ay)(D C:ag):Bool:=match K.lookup C with
 |some ⟨_,_,.cls a,_⟩=>a.mro.contains (.ref D)
 |_=>aj
theorem MY{K:ay}{h:aD}{C D:ag}{B:List ai}{nw:String}(X:K.In h)(q:pF K C B nw=ah)(s:subB K D C=ah):Under h D (.ref C):=by
 obtain⟨r,N,g,f,bs,o,d,a,u,c,p,n,m,l,j,i,y,e,_⟩:=Cb X q;refine⟨C,r,N,g,f,bs,o,d,a,u,c,p,n,m,l,j,i,nw,rfl,e,?_⟩;unfold subB at s;split at s
 .rename_i x w z v look;have b:=X _ _ look;rw[e]at b;unfold C_ at b;cases b;exact s
 .cases s
def yw(K:ay)(C:ag):Bool :=
 qP K (.ref C) "__getattribute__" == aa (aa (.builtin "BaseException.__getattribute__"))&&qP K (.ref C) "__getattr__" == aa ae&&qP K (.ref C) "__class__" == aa (aa (.builtin "object.__class__")) &&
 Jj K (.builtin "object.__class__") "__get__" == aa (aa (.builtin "getset_descriptor.__get__"))&&PySem.W.takesIn K (.builtin "object.__class__") == aa ah&&zx K C (.type "object") == aa ah&&zx K C (.type "BaseException") == aa ah&&(Da K C).isSome
theorem FA{K:ay}{C:ag}(h:yw K C=ah):oR K C:=by simp only[yw,gG,beq_iff_eq]at h;obtain⟨⟨⟨⟨⟨⟨⟨j,i⟩,g⟩,f⟩,d⟩,c⟩,b⟩,a⟩:=h;exact⟨j,i,g,f,d,c,b,a⟩
def z_(K:ay):Bool:=K.all λp=>match p.2.cls with
 |.type t=>t != "list"
 |_=>ah
theorem HU{a:ag}{o:Obj}:∀{K:ay},K.lookup a=aa o->(a,o)∈K
 |[],e=>by cases e
 | (b,u)::K,e=>by
  rw[lq]at e;cases q:a == b with
  |true=>rw[q]at e;cases e;rw[beq_iff_eq.mp q];exact lP ..
  |false=>rw[q]at e;exact kA _ (HU e)
theorem GF{K:ay}{H:Hp}{F:ag->Prop}:∀a:List Int,Reps K H F (a.map .int) (a.map V.int)
 |[]=>rfl
 |x::a=>⟨.int x,a.map V.int,rfl,rfl,GF a⟩
theorem Sm{K:ay}{H:Hp}{a:ag}{xs:List V}(h:z_ K=ah)(s:cy K H a xs):Rd H a (.lst xs):=by
 rcases s with s|⟨o,c,n,b,d,_⟩
 .exact s
 .have:=lZ.mp h _ (HU b);rw[d]at this;simp at this
theorem Tf{K:ay}{g:ak->R Slot}{H:Hp}{a:ag}{c:List Int}{E:XK}(d:Rd H a (.lst (c.map V.int)))(h:g [.val (.lst (c.map .int))]=.ok (.val (.bl ah)) [.val (.lst (c.map .int))]):bt K g [.ref a] H (λv _=>v=.bl ah) E:=by
 refine⟨λb=>b=a,λ_ _=>False,[.val (.lst (c.map .int))],⟨rfl,λb e=>?_,λi pv e=>?_,λi l e=>?_,λi b z=>z.elim,λi j b z=>z.elim⟩,?_⟩
 .subst e;rcases d with d|⟨o,d⟩ <;> exact⟨_,d⟩
 .cases i with
  |zero=>cases e;exact⟨_,rfl,a,_,rfl,d,rfl,GF c⟩
  |succ i=>simp at e
 .cases i with
  |zero=>cases e
  |succ i=>simp at e
 .rw[h];exact λv q n p m _ _ f _ _=>f.1
theorem Vp{K:ay}{x:Str}{i:Int}{t:Tok}(e:c8 K b8 x=aa (aa (.int i t))):∃t,c8 K b8 x=aa (aa (.int i t)):=⟨t,e⟩
theorem Vl{K:ay}{x:Str}{l:Tx}{t:Tok}(e:c8 K b8 x=aa (aa (.str (tS l) t))):∃t,c8 K b8 x=aa (aa (.str (tS l) t)):=⟨t,e⟩
def cK(K:ay)(x:Str)(a:ba):Prop:=∃f oc g kV h d j b i c,c8 K b8 x=aa (aa (.ref f))/\K.lookup f=aa ⟨oc,g,.func (je x x (kg a) (gE a) (a_ a) .none kV h d j b i),c⟩/\v6 K b x=ah/\nU K (.ref f)=ah
theorem U6{K:ay}{x:Str}{b:ba}{f:ag}{oc kV j h d m:ai}{i n:Option ag}{g:Array (Option ai)}(a:c8 K b8 x=aa (aa (.ref f)))(l:K.lookup f=aa ⟨oc,i,.func (je x x (kg b) (gE b) (a_ b) .none kV j h n d m),g⟩)(c:v6 K d x=ah) (k:nU K (.ref f)=ah):cK K x b:=⟨f,oc,i,kV,j,h,n,d,m,g,a,l,c,k⟩
theorem cK.at{K:ay}{h:aD}{b:Str->Option ai}{x:Str}{st:ba}(d:cK K x st)(X:K.In h)(G:h.Ns b8 b):cC K b x st:=by obtain⟨f,oc,j,kV,m,i,o,n,ct,g,a,l,c,k⟩:=d;exact⟨f,_,gY X G a,HP l c k⟩
def jl(a:List (aF×PV))(k:aF):Option PV:=(a.find? λb=>decide (b.1=k)).map (·.2)
def oG(a:List (aF×PV))(k:aF)(v:PV):List (aF×PV):=if(a.any λb=>decide (b.1=k))=ah then a.map (λb=>if b.1=k then(b.1,v)else b)else a++[(k,v)]
def ij:PV->Option aF
 |.int i=>aa (.inl i)
 |.str x=>aa (.inr (tS x))
 |_=>ae
section
variable{K:ay}{F:ag->Prop}{S:Nat->ag->Prop}{ε:ak}{l:St}{H:Hp}{i:Nat}{d:List (aF×PV)}{f:List (aF×V)}{a:ag}
theorem tt{x:PV}{v:V}{k:aF}(r:aU K H F x v)(e:ij x=aa k):v=kV k:=by
 cases x <;> simp[ij]at e
 .subst e;exact r
 .subst e;exact r.1
theorem iu.len(h:iu K H F d f):f.length=d.length:=by
 unfold iu at h
 induction h with
 |nil=>rfl
 |cons _ _ b=>simp[b]
theorem iu.val(h:iu K H F d f)(k:aF):(∃x v,jl d k=aa x/\jQ f k=aa v/\aU K H F x v)\/(jl d k=ae/\jQ f k=ae):=by
 unfold iu at h
 induction h with
 |nil=>exact .inr ⟨rfl,rfl⟩
 |@cons p q ps qs r _ ih=>
  by_cases e:p.1=k
  .refine .inl ⟨p.2,q.2,by simp[jl,ln,e],?_,r.2⟩;rw[yR (by rw[<-r.1];exact e)]
  .have b:¬q.1=k:=by rw[<-r.1];exact e
   rw[yg b];have:jl (p::ps) k=jl ps k:=by simp[jl,ln,e]
   rw[this];exact ih
theorem iu.any(h:iu K H F d f)(k:aF):(d.any λb=>decide (b.1=k))=f.any λb=>decide (b.1=k):=by
 unfold iu at h
 induction h with
 |nil=>rfl
 |cons r _ c=>rw[nW,nW,c,r.1]
theorem iu.put(h:iu K H F d f)(k:aF){x:PV}{v:V}(r:aU K H F x v):iu K H F (oG d k x) (fW f k v):=by
 unfold oG fW;rw[h.any k];split
 .rename_i b;clear b;unfold iu at h ⊢
  induction h with
  |nil=>exact .nil
  |@cons p q ps qs r1 _ ih=>
   refine .cons ?_ ih;dsimp only;by_cases e:p.1=k
   .rw[if_pos e,if_pos (by rw[<-r1.1];exact e)];exact⟨r1.1,r⟩
   .rw[if_neg e,if_neg (by rw[<-r1.1];exact e)];exact r1
 .exact CM h ⟨rfl,r⟩
theorem aN.dkAt(r:aN K F S ε l H)(e:ε[i]?=aa (.own (.dK d))):∃a f,l[i]?=aa (aa (.ref a))/\H a=aa (.dK f)/\iu K H F d f/\S i a/\∀b,S i b->b=a:=by obtain⟨a,n,⟨g,m,j⟩,c⟩:=r.own i _ e;exact⟨a,g,n,m,j,(c a).mpr rfl,λb h=>(c b).mp h⟩
theorem aN.updO{p po':PO}{o':HO}(r:aN K F S ε l H)(e:ε[i]?=aa (.own p))(P:ge p=ah)(G:l[i]?=aa (aa (.ref a)))(O:cU o')(h:∀A,(∀x v,aU K H F x v->aU K A F x v)->(∀x v,Reps K H F x v->Reps K A F x v)->A a=aa o'->∀J:ag->Prop,(∀b,J b↔b=a)->eZ K A F po' a J):aN K F S (ε.set i (.own po')) l (L2.upd H a o')/\bp (U S) (U S) F F H (L2.upd H a o'):=by
 obtain⟨Q,I,N⟩:=r.own i p e;rw[G]at I;cases I;have s:=FH N P;have C:S i a:=(s a).mpr rfl;have E:∀b,S i b->b=a:=λb z=>(s b).mp z;have B:i<ε.length:=(cM.mp e).1;have g:bp (U S) (U S) F F H (L2.upd H a o'):=⟨λ_ z=>z,λb o q n=>by rw[bj (by rintro rfl;exact n ⟨i,C⟩)];exact q,λb o q=>by
  by_cases D:b=a
  .subst D;exact⟨_,upd_same⟩
  .exact⟨o,by rw[bj D];exact q⟩,λ_ z=>.inl z,λ_ z=>.inl z⟩
 refine⟨⟨by rw[gn];exact r.len,λb z=>let ⟨o,q⟩:=r.ex b z;g.there b o q,λj pv q=>?_,λj p q=>?_,λj b z=>?_,r.dist⟩,g⟩
 .have m:i≠j:=by rintro rfl;rw[fM B]at q;cases q
  rw[d8 m]at q;obtain⟨v,y,u⟩:=r.val j pv q;exact⟨v,y,u.grow g r.fit⟩
 .by_cases m:i=j
  .subst m;rw[fM B]at q;cases q;exact⟨a,G,h _ (λ_ _ z=>z.grow g r.fit) (λ_ _ z=>z.grow g r.fit) upd_same _ s⟩
  .rw[d8 m]at q;obtain⟨c,y,u⟩:=r.own j p q;refine⟨c,y,u.mono (λ_ _ z=>z.grow g r.fit) (λ_ _ z=>z.grow g r.fit) λb o z w=>?_⟩;rw[bj (by rintro rfl;exact m (r.dist i j b C z))];exact w
 .obtain⟨⟨p,y⟩,u,o,M,L⟩:=r.foot j b z;by_cases m:i=j
  .subst m;rw[E b z];exact⟨⟨_,fM B⟩,by rw[<-E b z];exact u,_,upd_same,O⟩
  .exact⟨⟨p,by rw[d8 m];exact y⟩,u,o,by rw[bj (by rintro rfl;exact m (r.dist i j b C z))];exact M,L⟩
end
def dm(b:ak)(i:Nat):Option (List (aF×PV)):=match b[i]? with
 |some (.own (.dK a))=>aa a
 |_=>ae
theorem lJ{b:ak}{i:Nat}{a:List (aF×PV)}(h:dm b i=aa a):b[i]?=aa (.own (.dK a)):=by
 unfold dm at h;split at h
 .cases h;assumption
 .cases h
section
variable{X:Cx}{E:XK}{pin:List Nat}{e b c:aB}{de db f:ak->R PV}{d:Pos}
def sF:ak->R PO:=λa=>.ok (.dK []) a
theorem E8:DN X E (.Dict [] [] d) sF:=λF S l i H Q g h=>b9 Nd λp a=>by
 have al:Al F F H (upd H p (.dK [])):=Al.new0 a;refine h F S _ (g.al al) al.grow p (λb=>b=p) ⟨⟨[],upd_same,.nil⟩,λb=>l6⟩ λb z=>?_;subst z;refine⟨a,λz=>?_,λ⟨j,z⟩=>?_,_,upd_same,trivial⟩
 .obtain⟨o,q⟩:=g.ex b z;rw[a]at q;cases q
 .obtain⟨_,_,o,q,_⟩:=g.foot j b z;rw[a]at q;cases q
def iO(i:Nat)(db:ak->R PV):ak->R PV:=λε=>(aQ (dm ε i) ε).bind λ_ ε=>(db ε).bind λk ε1=>(aQ (dm ε1 i) ε1).bind λa ε1=>aQ ((ij k).bind λk=>jl a k) ε1
theorem ya(i:Nat){y:Str}{A:Pos}(hu:X.A.units+64<cLine)(L:DE X E b db)(N:X.N[i]?=aa y:=by rfl)(O:ez X.env.scope y:=by first|exact Or.inl rfl|exact Or.inr (Or.inl rfl)|exact Or.inr (Or.inr rfl))(K:(y==("__debug__":Str))=aj:=by decide) (P:(y==("__classdict__":Str))=aj:=by decide) (I:Bk b:=by exact λ_ _=>rfl):DE X E (.Subscript (.Name y A) b d) (iO i db):=λF S o z H Q p h=>by
 unfold iO at h;cases n:dm o i with
 |none=>rw[n]at h;exact h.elim
 |some s=>
  rw[n]at h;simp only[b7,R.bind_ok]at h;obtain⟨a,B,w,_⟩:=p.dkAt (lJ n);refine b9 (KA ∅ (fI N O K P) bT I) ⟨.ref a,w,L F S o z H _ p ((Ok.bind h).imp λk j Y T W r g1 q u C=>?_)⟩;cases m:dm j i with
  |none=>rw[m]at q;exact q.elim
  |some G=>
   rw[m]at q;simp only[b7,R.bind_ok]at q;obtain⟨a',Z,g,M,J,_⟩:=r.dkAt (lJ m);rw[w]at g;cases g;cases l:ij k with
   |none=>rw[l]at q;exact q.elim
   |some D=>
    rw[l,iR]at q;rw[tt C l];rcases J.val D with⟨x,v,h1,h2,h3⟩|⟨h1,h2⟩
    .rw[h1]at q;exact⟨a,v,rfl,by rw[<-h2];exact m_.k M,q Y T W r (bp.refl ..) v h3⟩
    .rw[h1]at q;exact q.elim
def iN(i:Nat)(db f:ak->R PV):ak->R PV:=λg=>(aQ (dm g i) g).bind λ_ g=>(db g).bind λk h=>(f h).bind λz a=>(aQ (dm a i) a).bind λj a=>aQ ((ij k).map λk=>(jl j k).getD z) a
theorem yV(i:Nat){y:Str}{j g:Pos}(hu:X.A.units+64<cLine)(hb:DE X E b db)(hc:DE X E c f)(hN:X.N[i]?=aa y:=by rfl)(ff:ez X.env.scope y:=by first|exact Or.inl rfl|exact Or.inr (Or.inl rfl)|exact Or.inr (Or.inr rfl))(hd:(y==("__debug__":Str))=aj:=by decide) (bB:(y==("__classdict__":Str))=aj:=by decide)(l:nX (.Name y j) "get" X.env (a6 (.Name y j) X.env)=a6 (.Name y j) X.env:=by rfl) (B:(g.endLine == d.line)=ah:=by rfl) (s1:oU b=aj:=by rfl) (Z:oU c=aj:=by rfl):DE X E (.Call (.Attribute (.Name y j) "get" g) [b,c] [] d) (iN i db f):=λF S J I H Q L h=>by
 have K:aR [b,c] X.env=[(aj,a6 b X.env),(aj,a6 c X.env)]:=by rw[j9 s1,j9 Z];rfl
 have m:M2 X (.Name y j) "get" g b c d:=⟨l,by rw[K];rfl,B,by rw[K];rfl⟩
 unfold iN at h;cases G:dm J i with
 |none=>rw[G]at h;exact h.elim
 |some M=>
  rw[G]at h;simp only[b7,R.bind_ok]at h;obtain⟨a,Y,O,A,_⟩:=L.dkAt (lJ G);refine b9 (Nl ∅ (fI hN ff hd bB) bT bT m) ⟨.ref a,O,a,rfl,.inl ⟨_,.inl A⟩,hb F S J I H _ L ((Ok.bind h).imp λk p F1 S1 H1 r1 g1 q u ru=>?_)⟩;refine hc F1 S1 p I H1 _ r1 ((Ok.bind q).imp λz o W P T s g2 q w r=>?_);cases D:dm o i with
  |none=>rw[D]at q;exact q.elim
  |some kvs=>
   rw[D]at q;simp only[b7,R.bind_ok]at q;obtain⟨a',ws,n,N,hk,_⟩:=s.dkAt (lJ D);rw[O]at n;cases n;cases C:ij k with
   |none=>rw[C]at q;exact q.elim
   |some ky=>
    rw[C,pD]at q;rw[tt ru C];rcases hk.val ky with⟨x,v,l,h2,B⟩|⟨l,h2⟩
    .rw[l]at q;exact⟨aa v,by rw[<-h2];exact m_.k N,q W P T s (bp.refl ..) v B⟩
    .rw[l]at q;exact⟨ae,by rw[<-h2];exact m_.k N,q W P T s (bp.refl ..) w r⟩
def fQ(i:Nat)(db de:ak->R PV):ak->R aO:=λj=>(de j).bind λy g=>(aQ (dm g i) g).bind λ_ g=>(db g).bind λk a=>(aQ (dm a i) a).bind λh a=>(aQ (ij k) a).bind λk a=>if h.length<bo then .ok .next (a.set i (.own (.dK (oG h k y))))else .no
theorem qH(i:Nat){y:Str}{C j:Pos}(hu:X.A.units+64<cLine)(hb:DE X E b db)(he:DE X E e de)(hN:X.N[i]?=aa y:=by rfl)(ff:ez X.env.scope y:=by first|exact Or.inl rfl|exact Or.inr (Or.inl rfl)|exact Or.inr (Or.inr rfl))(hd:(y==("__debug__":Str))=aj:=by decide) (bB:(y==("__classdict__":Str))=aj:=by decide) (Y:jZ e (aa (.Subscript (.Name y C) b j)) d.line X.env=pure aj:=by rfl):DS X E pin (.Assign [.Subscript (.Name y C) b j] e d) (fQ i db de):=λF S K o H D P h=>by
 refine gC (E4 ∅ (fI hN ff hd bB) bT bT Y) (he F S K o H _ P (h.bindE.imp λy l F1 S1 H1 r g1 q v N=>?_));cases B:dm l i with
 |none=>rw[B]at q;exact q.elim
 |some I=>
  rw[B]at q;simp only[b7,R.bind_ok]at q;obtain⟨a,L,z,ha0,_⟩:=r.dkAt (lJ B);refine⟨.ref a,z,hb F1 S1 l o H1 _ r (q.bindE.imp λk p F2 S2 H2 G g2 g u O=>?_)⟩;cases n:dm p i with
  |none=>rw[n]at g;exact g.elim
  |some w=>
   rw[n]at g;simp only[b7,R.bind_ok]at g;obtain⟨a',M,m,ha,J,_⟩:=G.dkAt (lJ n);rw[z]at m;cases m;cases A:ij k with
   |none=>rw[A]at g;exact g.elim
   |some s=>
    rw[A]at g;simp only[b7,R.bind_ok]at g;split at g
    .rename_i Z;rw[tt O A];have eJ:=J.put s (N.grow g2 r.fit);obtain⟨Q,g3⟩:=G.updO (po':=.dK (oG w s y)) (o':=.dK (fW M s v)) (lJ n) rfl z trivial λH' W m2 x Sa T=>⟨⟨_,x,eJ.mono W⟩,T⟩
     exact⟨a,_,rfl,zu.k ha (by rw[J.len];exact ix Z mE),g F2 S2 o _ Q g3 (iC.refl _ _)⟩
    .exact g.elim
end
section
variable{X:Cx}
def vp(a d:ag):HO:=.ext λh=>h.IsValuesView a d
theorem PF:tQ X "dict.values" (λx xs H Q=>∃d b,x=.ref d/\xs=[]/\H d=aa (.dK b)/\∀a,H a=ae->Q (.ref a) (upd H a (vp a d))):=by
 intro A s r H x xs v u Q I g i h;obtain⟨d,b,rfl,rfl,p,q⟩:=h;cases g;cases i.zero;obtain⟨z,n,f,j,c⟩:=vt I.hok p;refine call_meetsIn PySem.F.slot_dict_values c.typeIs PySem.F.entry_dict_values (PySem.F.args_dict_values_1 _) (meets_dict_values (gA X.prog X.w) d n) ⟨⟨f,c⟩,?_⟩;refine⟨.ref s.heap.objs.size,_,I.laid (a:=s.heap.objs.size) (o:=vp s.heap.objs.size d) (t':=s.toks) (λ_ _ q=>bK _ q) (bd _) ?_,rfl,q _ I.fresh⟩;exact⟨⟨_,cG _ rfl,rfl,rfl⟩,⟨_,cG _ rfl⟩,λy w ⟨o,m,l⟩ k=>⟨o,k o m,l⟩⟩
theorem KV.at{kvs:List (aF×V)}{a:List (aF×ai)}(r:KV kvs a){i:Nat}{k:aF}{u:ai}(h:a[i]?=aa (k,u)):∃v,kvs[i]?=aa (k,v)/\RelV v u:=by
 unfold KV at r
 induction r generalizing i with
 |nil=>simp at h
 |@cons p q ps qs r1 _ ih=>
  cases i with
  |zero=>simp at h;subst h;exact⟨p.2,by simp[show k=p.1 from r1.1.symm],r1.2⟩
  |succ i=>exact ih (by simpa using h)
def lc(a:List (aF×V)):Option Bool:=match a with
 |[]=>aa aj
 | (_,.int i)::r=>(lc r).map λb=>(decide (i≠0))||b
 |_=>ae
theorem Gm:∀{a:List (aF×V)}{b:Bool},lc a=aa b->(∀(i:Nat) k v,a[i]?=aa (k,v)->∃n,v=.int n)/\b=(dY a.length).any λi=>match a[i]? with|aa (_,.int n)=>decide (n≠0)|_=>aj
 |[],b,h=>by simp[lc]at h;subst h;exact⟨by simp,rfl⟩
 | (k,.int n)::r,b,h=>by
  simp only[lc,jD]at h;obtain⟨l,j,g⟩:=h;obtain⟨f,d⟩:=Gm j;refine⟨λi c v e=>?_,?_⟩
  .cases i with
   |zero=>simp at e;exact⟨n,e.2.symm⟩
   |succ i=>exact f i c v (by simpa using e)
  .rw[eG,CT,nW,Dd,<-g,d];rfl
 | (_,.non)::_,_,h=>by simp[lc]at h
 | (_,.bl _)::_,_,h=>by simp[lc]at h
 | (_,.str _)::_,_,h=>by simp[lc]at h
 | (_,.ref _)::_,_,h=>by simp[lc]at h
 | (_,.ty _)::_,_,h=>by simp[lc]at h
theorem Ml(O:X.calm=ah):eU X (.builtin "any") (λxs H Q=>∃(p d:ag) (a:List (aF×V)) (b:Bool),xs=[.ref p]/\H p=aa (vp p d)/\H d=aa (.dK a)/\lc a=aa b/\Q (.bl b) H):=by
 intro Z s C H xs us Q I r h;obtain⟨p,d,a,b,rfl,m,N,S,q⟩:=h;obtain⟨u,rfl,E⟩:=vals1 r;cases E;obtain⟨l,_,_⟩:=(show cB X.prog X.w H s.heap p (vp p d)from I.hok p _ m)
 obtain⟨z,hs,g,f,Y⟩:=vt I.hok N;obtain⟨A,j⟩:=Y.dictAt;obtain⟨L,K⟩:=Gm S;refine call_any_walk (wpAny_pyIter_values l j ?_);refine⟨s.heap.objs.size,_,_,_,_,_,λi=>match a[i]? with|aa (_,.int n)=>decide (n≠0)|_=>aj,rfl,Walks.dictValues (uy (I.ok.hd O)) _ d (cZ j.lt_size) g A,⟨⟨_,cG _ rfl,rfl,rfl⟩,j.push _⟩,λi v s' Q' E' l y=>?_,λh' D k=>?_⟩
 .obtain⟨J,M⟩:=l;obtain⟨w,B,W⟩:=KV.at f M;obtain⟨n,rfl⟩:=L i J w B;obtain⟨t,rfl⟩:=W;dsimp only at y;rw[B]at y;exact PyProof.Rows.truthy_int (by rw[show(n != 0)=decide (n≠0) by by_cases z:n=0 <;> simp[z]];exact y)
 .have I1:Inv X Z C H {s with heap:=s.heap.push {cls:=.type "dict_valueiterator",data:=.fields #[.ref d,.int 0 0,.int g.length 0,.int A 0]},toks:=s.toks}:=I.kept (t':=s.toks) λb o e=>bK _ e;have T:(dY g.length).any (λi=>match a[i]? with|aa (_,.int n)=>decide (n≠0)|_=>aj)=b:=by rw[<-f.length];exact K.symm
  rw[T];exact⟨.bl _,H,Inv.turned (t':=D) I1 (it:=s.heap.objs.size) (λb o P e=>k b o (by simpa using P) e) I.fresh (qO I.lt) (.inr I.sz) (λx c e z=>by obtain⟨v,F⟩:=I.cell x c e;exact absurd F.lt (by rw[z];exact fL _)) (λG m z=>absurd (bN (I.pin G m).1) (by rw[z];exact fL _)),rfl,q⟩
end
section
variable{X:Cx}{E:XK}{pin:List Nat}{e b c:aB}{de db I:ak->R PV}{A:Pos}
def qB:List (aF×PV)->Option Bool
 |[]=>aa aj
 | (_,.int i)::r=>(qB r).map λb=>(decide (i≠0))||b
 |_=>ae
theorem Q5{K:ay}{H:Hp}{F:ag->Prop}{a:List (aF×PV)}{d:List (aF×V)}{k:Bool}(h:iu K H F a d)(e:qB a=aa k):lc d=aa k:=by
 unfold iu at h
 induction h generalizing k with
 |nil=>exact e
 |@cons p q D qs r _ ih=>
  obtain⟨l,pv⟩:=p;obtain⟨j,g⟩:=q;cases pv <;> simp only[qB,jD]at e <;> try cases e
  obtain⟨i,f⟩:=r;obtain rfl:g=V.int _:=f;rename_i h;simp only[lc,ih h.1,pD];rw[<-h.2]
def vh(i:Nat):ak->R PV:=λa=>(aQ (dm a i) a).bind λd a=>aQ ((qB d).map .bl) a
theorem PX(i:Nat){y:Str}{g p f d:Pos}(G:X.calm=ah)(z:X.mg "any"=ae)(J:X.N[i]?=aa y:=by rfl)(K:ez X.env.scope y:=by first|exact Or.inl rfl|exact Or.inr (Or.inl rfl)|exact Or.inr (Or.inr rfl))(D:(y==("__debug__":Str))=aj:=by decide) (O:(y==("__classdict__":Str))=aj:=by decide) (C:Gl X "any":=by rfl)(x:nX (.Name y g) "values" X.env (a6 (.Name y g) X.env)=a6 (.Name y g) X.env:=by rfl) (w:(f.endLine == d.line)=ah:=by rfl)(u:aR [.Call (.Attribute (.Name y g) "values" f) [] [] d] X.env=(aj,a6 (.Call (.Attribute (.Name y g) "values" f) [] [] d) X.env)::aR [] X.env:=by rfl) (M:(c7 A (aR [] X.env)).any (·.1)=aj:=by rfl):DE X E (.Call (.Name "any" p) [.Call (.Attribute (.Name y g) "values" f) [] [] d] [] A) (vh i):=λF S v P H Q s h=>by
 unfold vh at h;cases o:dm v i with
 |none=>rw[o]at h;exact h.elim
 |some l=>
  rw[o]at h;simp only[b7,R.bind_ok]at h;obtain⟨a,r,L,j,B,T,_⟩:=s.dkAt (lJ o);cases n:qB l with
  |none=>rw[n]at h;exact h.elim
  |some k=>
   rw[n,pD]at h;refine b9 (nJ (Ml G) C z Qy (i4 (MR PySem.F.plainAttrs_dict PySem.F.slot_dict_values PySem.F.type_dict_values PF (fI J K D O) x w) ki u) (by decide) (by decide) u M) ⟨.ref a,L,.inr (.inr (.inl ⟨rfl,.inl ⟨_,j⟩⟩)),a,r,rfl,rfl,j,λq m=>?_⟩;have al:Al F F H (L2.upd H q (vp q a)):=Al.new0 m;have N:a≠q:=by rintro rfl;rw[j]at m;cases m
   exact⟨q,a,r,k,rfl,upd_same,by rw[bj N];exact j,Q5 B n,h F S _ (s.al al) al.grow _ rfl⟩
def xZ(X:Cx)(E:XK)(m:List aB)(d:ak->R (PO×List b0)):Prop :=
 ∀F S i f H Q,aN X.K F S i f H->Ok X.K E f F S H (d i) (λp _ h n g=>∀a l j,eZ X.K g h p.1 a l->(∀b,l b->H b=ae/\¬h b/\¬U n b/\∃o,g b=aa o/\cU o)->hU X.K (f++[aa (.ref a)]) h g p.2 j->Q j g)->p8 X m f H Q
theorem hU.app{K:ay}{g:St}{F:ag->Prop}{H:Hp}(d:St):∀{l:List b0}{j:List V},hU K g F H l j->hU K (g++d) F H l j
 |[],_,h=>h
 |.inl _::_,_,⟨v,r,e,a,f⟩=>⟨v,r,e,a,f.app d⟩
 |.inr i::_,_,⟨v,r,e,a,f⟩=>⟨v,r,e,by rw[jC (cM.mp a).1];exact a,f.app d⟩
theorem eZ.stay{K:ay}{O i F h:ag->Prop}{H f:Hp}{po:PO}{a:ag}{Sa:ag->Prop}(n:eZ K H F po a Sa)(g:bp O i F h H f)(fit:Fit O F H)(d:∀b,Sa b->¬F b/\¬O b/\∃o,H b=aa o/\cU o):eZ K f h po a Sa/\∀b,Sa b->¬h b/\¬i b/\∃o,f b=aa o/\cU o:=by refine⟨n.mono (λ_ _ z=>z.grow g fit) (λ_ _ z=>z.grow g fit) λb o z w=>(g.stay w (d b z).2.1 (d b z).1).1,λb z=>?_⟩;obtain⟨s,r,o,q,p⟩:=d b z;obtain⟨m,l,j⟩:=g.stay q r s;exact⟨l,j,o,m,p⟩
variable{m:List aB}{dn:ak->R PO}{C:ak->R (List b0)}{B:ak->R (PO×List b0)}
def gN(dn:ak->R PO)(C:ak->R (List b0)):ak->R (PO×List b0):=λf=>(dn f).bind λg d=>(C d).bind λh a=>.ok (g,.inr a.length::h) a
theorem Nk(w:DN X E e dn)(v:DG X E m C)(u:oU e=aj:=by rfl):xZ X E (e::m) (gN dn C):=λF S q i H Q r h=>by refine qe (i4 bT im (j9 u)) (w F S q i H _ r ((Ok.bind h).imp λT d P L N n W y a J s o=>?_));refine v P L d i N _ n ((Ok.bind y).imp λY p O K M l D x j G=>?_);obtain⟨f,g⟩:=s.stay D n.fit λb z=>(o b z).2;refine x O K M l (bp.refl ..) a J (.ref a::j) f (λb z=>⟨(o b z).1,g b z⟩) ⟨.ref a,j,rfl,?_,G.app _⟩;rw[l.len,qQ (bd _),Nat.sub_self];rfl
def sK(d:ak->R PV)(B:ak->R (PO×List b0)):ak->R (PO×List b0):=λg=>(d g).bind λx f=>(B f).bind λp a=>.ok (p.1,.inl x::p.2) a
theorem EB(y:DE X E e de)(w:xZ X E m B)(u:oU e=aj:=by rfl):xZ X E (e::m) (sK de B):=λF S l f H Q q h=>by refine qe (i4 bT im (j9 u)) (y F S l f H _ q ((Ok.bind h).imp λx d Y O T g K G v o=>?_));refine w Y O d f T _ g ((Ok.bind G).imp λp j W N P r J D a M n s i L=>?_);exact D W N P r (bp.refl ..) a M _ s (λb z=>⟨kM K (i b z).1,(i b z).2⟩) ⟨v,n,rfl,o.grow J g.fit,L⟩
theorem aN.push{K:ay}{F:ag->Prop}{S:Nat->ag->Prop}{d:ak}{y:St}{H:Hp}{w:PO}{a:ag}{i:ag->Prop}(r:aN K F S d y H)(D:eZ K H F w a i)(x:∀b,i b->¬F b/\¬U S b/\∃o,H b=aa o/\cU o):aN K F (λj b=>S j b\/(j=d.length/\i b)) (d++[.own w]) (y++[aa (.ref a)]) H:=by
 have lt:∀j b,S j b->j<d.length:=λj b z=>by obtain⟨⟨p,q⟩,_⟩:=r.foot j b z;exact(cM.mp q).1
 refine⟨by simp[r.len],r.ex,λj pv q=>?_,λj p q=>?_,λj b z=>?_,λj k b g f=>?_⟩
 .by_cases h:j<d.length
  .rw[jC h]at q;obtain⟨v,u,l⟩:=r.val j pv q;exact⟨v,by rw[jC (by rw[<-r.len];exact h)];exact u,l⟩
  .rw[qQ ∅]at q;cases s:j-d.length with
   |zero=>rw[s]at q;simp at q
   |succ n=>rw[s]at q;simp at q
 .by_cases h:j<d.length
  .rw[jC h]at q;obtain⟨v,u,l⟩:=r.own j p q;refine⟨v,by rw[jC (by rw[<-r.len];exact h)];exact u,?_⟩;have:(λb=>S j b\/(j=d.length/\i b))=S j:=by funext b;exact propext ⟨λz=>z.elim id λz=>absurd z.1 (cZ h),.inl⟩
   rw[this];exact l
  .rw[qQ ∅]at q;cases s:j-d.length with
   |zero=>
    rw[s]at q;simp at q;subst q;have L:j=d.length:=∅
    subst L;refine⟨a,by rw[r.len,qQ (bd _),Nat.sub_self];rfl,?_⟩;have:(λb=>S d.length b\/(d.length=d.length/\i b))=i:=by funext b;exact propext ⟨λz=>z.elim (λz=>absurd (lt _ _ z) (fL _)) (·.2),λz=>.inr ⟨rfl,z⟩⟩
    rw[this];exact D
   |succ n=>rw[s]at q;simp at q
 .rcases z with z|⟨rfl,z⟩
  .obtain⟨⟨p,q⟩,l⟩:=r.foot j b z;exact⟨⟨p,by rw[jC (lt j b z)];exact q⟩,l⟩
  .obtain⟨J,M,G⟩:=x b z;exact⟨⟨w,by rw[qQ (bd _),Nat.sub_self];rfl⟩,J,G⟩
 .rcases g with g|⟨rfl,g⟩ <;> rcases f with f|⟨rfl,f⟩
  .exact r.dist j k b g f
  .exact absurd ⟨j,g⟩ (x b f).2.1
  .exact absurd ⟨k,f⟩ (x b g).2.1
  .rfl
theorem aN.pop{K:ay}{F:ag->Prop}{S:Nat->ag->Prop}{d:ak}{n:Slot}{h:St}{u:Option V}{H:Hp}(r:aN K F S (d++[n]) (h++[u]) H):aN K F (λj b=>S j b/\j<d.length) d h H:=by
 have len:d.length=h.length:=by have:=r.len;simpa using this
 refine⟨len,r.ex,λj pv q=>?_,λj p q=>?_,λj b z=>?_,λj k b l i=>r.dist j k b l.1 i.1⟩
 .have a:=(cM.mp q).1;obtain⟨v,g,f⟩:=r.val j pv (by rw[jC a];exact q);exact⟨v,by rw[jC (by rw[<-len];exact a)]at g;exact g,f⟩
 .have a:=(cM.mp q).1;obtain⟨v,g,f⟩:=r.own j p (by rw[jC a];exact q);refine⟨v,by rw[jC (by rw[<-len];exact a)]at g;exact g,?_⟩;have:(λb=>S j b/\j<d.length)=S j:=by funext b;simp[a]
  rw[this];exact f
 .obtain⟨⟨p,q⟩,f⟩:=r.foot j b z.1;exact⟨⟨p,by rw[jC z.2]at q;exact q⟩,f⟩
def Gc{d:Type}:R d->R d
 |.ok s a=>.ok s a.dropLast
 |.er c a=>.er c a.dropLast
 |.no=>.no
def uA(g:ak->R Slot)(B:ak->R (PO×List b0)):ak->R Slot:=λd=>(B d).bind λp a=>(aQ (if(cm p.2).Nodup then dR (a++[.own p.1]) p.2 else ae) a).bind λf a=>Gc (d9 (a++[.own p.1]) p.2 (g f))
theorem En{a:ak}{n:Nat}(h:a.length=n+1):∃l x,a=l++[x]/\l.length=n:=by
 refine⟨a.dropLast,a.getLast (by intro z;rw[z]at h;cases h),(List.dropLast_concat_getLast _).symm,by rw[De,h];rfl⟩
theorem bp.pushed{K:ay}{F s:ag->Prop}{S i:Nat->ag->Prop}{f H p:Hp}{n:Nat}{h:ag->Prop}(g:bp (U λj b=>S j b\/(j=n/\h b)) (U i) F s H p){r:ag->Prop}{l:Nat->ag->Prop}(a:bp (U l) (U S) r F f H)(d:∀b,h b->f b=ae):bp (U l) (U λj b=>i j b/\j<n) r s f p where
 fro:=λb z=>g.fro b (a.fro b z)
 keep:=λb o q no=>g.keep b o (a.keep b o q no) λ⟨j,z⟩=>by
  rcases z with z|⟨_,z⟩
  .rcases a.onew b ⟨j,z⟩with w|w
   .exact no w
   .rw[w]at q;cases q
  .rw[d b z]at q;cases q
 there:=λb o q=>let ⟨o',q'⟩:=a.there b o q;g.there b o' q'
 fnew:=λb z=>by
  rcases g.fnew b z with w|w|⟨j,w|⟨_,w⟩⟩
  .exact a.fnew b w
  .exact .inr (.inl (kM a w))
  .exact .inr ((a.onew b ⟨j,w⟩).symm)
  .exact .inr (.inl (d b w))
 onew:=λb ⟨j,z,_⟩=>by
  rcases g.onew b ⟨j,z⟩with⟨k,w|⟨_,w⟩⟩|w
  .exact a.onew b ⟨k,w⟩
  .exact .inr (d b w)
  .exact .inr (kM a w)
variable{G:gx}{x:Str}{k:Nat}{D:List Str}{g:ak->R Slot}{p:Pos}
theorem Sf(c:cf G X.prog X.w X.K X.mg X.base x k D (bt X.K g))(hr:dW k X.A)(hx:sN G X E)(ha:xZ X E (e::m) B)(hg:Gl X x:=by rfl)(hd:(x==("__debug__":Str))=aj:=by decide) (h1:aR (e::m) X.env=(aj,a6 e X.env)::aR m X.env:=by rfl) (h2:(c7 A (aR m X.env)).any (·.1)=aj:=by rfl):DR X E (.Call (.Name x p) (e::m) [] A) (uA g B):=λF S ε W H Q rl h=>by
 obtain⟨f,fd,hm,Fn,hb,hk⟩:=c.ex;refine b9 (Fq Fn hr hg hm hk hb .nil hx im hd h1 h2) (ha F S ε W H _ rl ?_);unfold uA at h;cases ed:B ε with
 |no=>rw[ed]at h;exact h.elim
 |er cv d=>rw[ed]at h;exact h
 |ok pa d=>
  obtain⟨P,q⟩:=pa;rw[ed]at h;simp only[R.bind_ok]at h;intro F1 S1 H1 r1 g1 a Sa vs ow Z T;dsimp only at h T ow;have O:=r1.push ow λb z=>(Z b z).2;by_cases L:(cm q).Nodup
  .rw[if_pos L]at h;cases m:dR (d++[.own P]) q with
   |none=>rw[m]at h;exact h.elim
   |some ss=>
    rw[m]at h;simp only[b7,R.bind_ok]at h;rw[fN];refine⟨F1,kY q _,ss,O.cal T m L,?_⟩;have len:∀n,(f_ (d++[.own P]) q n).length=d.length+1:=λn=>by rw[xH];simp
    cases eg:g ss with
    |no=>rw[eg]at h;exact h.elim
    |er cv n=>
     rw[eg]at h;intro y F' S' H' Y g';unfold d9 at h;dsimp only at h;by_cases u:eP q n=ah
     .rw[if_pos u]at h;obtain⟨S2,J,g2,_⟩:=O.called T m L Y g' (λ_ z=>z) (kU u);obtain⟨l,sl,N,ll⟩:=En (len n);rw[N]at J;have h:Ok X.K E W F S H (R.er cv (f_ (d++[.own P]) q n).dropLast:R Slot) _:=h;rw[N,List.dropLast_concat]at h;have M:=bp.pushed (K:=X.K) g2 g1 λb z=>(Z b z).1;rw[<-ll]at M;exact h y F' _ H' J.pop M
     .rw[if_neg u]at h;exact h.elim
    |ok s n=>
     rw[eg]at h;intro v F' S' H' Sr Y g' rv r fr;unfold d9 at h;dsimp only at h;by_cases u:eP q n=ah
     .rw[if_pos u]at h;obtain⟨S2,J,g2,u2⟩:=O.called T m L Y g' (λ_ z=>.inl z) (kU u);obtain⟨l,sl,N,ll⟩:=En (len n);rw[N]at J;have h:Ok X.K E W F S H (R.ok s (f_ (d++[.own P]) q n).dropLast:R Slot) _:=h;rw[N,List.dropLast_concat]at h;have M:=bp.pushed (K:=X.K) g2 g1 λb z=>(Z b z).1;rw[<-ll]at M;refine h F' _ H' J.pop M v Sr rv λb z=>⟨kM g1 (fr b z),(r b z).1,λ⟨j,w,_⟩=>?_,(r b z).2.2⟩
      rcases u2 b ⟨j,w⟩with w|⟨i,w⟩
      .exact(r b z).2.1 w
      .obtain⟨_,_,o,y1,_⟩:=O.foot i b w;rw[fr b z]at y1;cases y1
     .rw[if_neg u]at h;exact h.elim
  .rw[if_neg L]at h;exact h.elim
end
section
variable{X:Cx}{E:XK}{h:List Nat}{e b c o:aB}{de l j d:ak->R PV}{i:ak->R (List PV)}{g p q f:Pos}
def Rb(X:Cx)(r:List V->Hp->VK->Prop):List V->Hp->VK->Prop:=λxs H Q=>∃(p:ag) (m:List Tx),xs=[.ref p]/\cy X.K H p (cL m)/\(gB m).length<4000/\∀a,H a=ae->r [.ref a] (upd H a (p9 X a (gB m))) Q
end
section
variable{X:Cx}
theorem FP:∀(a:List ai) (ss:List Str),a.length=ss.length->(∀(i:Nat) v x,a[i]?=aa v->ss[i]?=aa x->∃t,v=.str x t)->eh a ss
 |[],[],_,_=>.nil
 |v::a,x::ss,b,h=>by obtain⟨t,rfl⟩:=h 0 v x rfl rfl;exact .cons x t (FP a ss (zN b) λi v x d c=>h (i+1) v x (by simpa using d) (by simpa using c))
 |[],_::_,b,_=>by cases b
 |_::_,[],b,_=>by cases b
theorem Ul(P:X.calm=ah):eU X (.builtin "sorted") (λxs H Q=>∃(d:ag) (kvs:List (aF×V)) (a:List Tx),xs=[.ref d]/\H d=aa (.dK kvs)/\kvs.map (·.1)=a.map (λx=>Sum.inr (tS x))/\a.length<64/\∀l,H l=ae->Q (.ref l) (upd H l (.lst (cL (aH a))))):=by
 intro af s E H xs us Q I r h;obtain⟨d,kvs,a,rfl,O,w,p,q⟩:=h;obtain⟨u,rfl,F⟩:=vals1 r;cases F;obtain⟨z,M,o,b,Y⟩:=vt I.hok O;obtain⟨ep,G⟩:=Y.dictAt;have C:o.length=a.length:=by have g:=congrArg lU w;simp only[cz]at g;rw[<-b.length];exact g
 refine N3 (PySem.W.kdu_collect (PySem.W.kdl_dict (knd:=gA X.prog X.w) (kvs:=o) (ep:=ep) M) (uy (I.ok.hd P)) G (by rw[<-b.length];exact z) λA j aE k m=>?_);have f:eh aE.toList (a.map tS):=by
  refine FP _ _ (by rw[cz,jc,m.1,C]) λi v x g c=>?_;obtain⟨K,y,W,T⟩:=m.2 i v (by rw[<-pE];exact g);obtain⟨wv,S,_⟩:=KV.at b W;have n:(kvs.map (·.1))[i]?=aa K:=by rw[eR,S];rfl
  rw[w,eR]at n;rw[eR]at c;cases B:a[i]? with
  |none=>rw[B]at c;cases c
  |some l=>
   rw[B]at n c;cases n;cases c;exact Value.isStrOf_shape T
 have D:Inv X af E H {s with heap:=A,toks:=j}:=I.kept (t':=j) k;refine⟨a.map tS,f,by rw[jc,m.1,C];exact p,λc J aJ e L N b1 b2 Z=>?_⟩;exact⟨.ref _,_,Inv.sorted (s1:={s with heap:=A,toks:=j}) (ss:=a.map tS) D rfl p L N b1 b2 Z,rfl,q _ D.fresh⟩
def qA:List (aF×PV)->Option (List Tx)
 |[]=>aa []
 | (.inr k,_)::r=>(qA r).map (k.cps.toList::·)
 |_=>ae
theorem Hw:∀{a:List (aF×PV)}{b:List Tx},qA a=aa b->a.map (·.1)=b.map (λx=>Sum.inr (tS x))
 |[],b,h=>by cases h;rfl
 | (.inr k,_)::r,b,h=>by simp only[qA,jD]at h;obtain⟨l,c,rfl⟩:=h;rw[cn,cn,Hw c,qr]
 | (.inl _,_)::_,_,h=>by cases h
def xX(b:List (aF×PV)):Option PO:=(qA b).bind λa=>if a.length<64/\(∀x∈a,x.length<=bo)then aa (.lst (ao (aH a)))else ae
def o9(i:Nat):ak->R PO:=λε=>(aQ (dm ε i) ε).bind λa ε=>aQ (xX a) ε
theorem iu.keys{K:ay}{H:Hp}{F:ag->Prop}{a:List (aF×PV)}{b:List (aF×V)}(h:iu K H F a b):b.map (·.1)=a.map (·.1):=by
 unfold iu at h
 induction h with
 |nil=>rfl
 |cons r _ c=>rw[cn,cn,c,r.1]
theorem O0{E:XK}(i:Nat){y:Str}{v p g:Pos}(J:X.calm=ah)(C:X.mg "sorted"=ae)(L:X.N[i]?=aa y:=by rfl)(M:ez X.env.scope y:=by first|exact Or.inl rfl|exact Or.inr (Or.inl rfl)|exact Or.inr (Or.inr rfl))(I:(y==("__debug__":Str))=aj:=by decide) (O:(y==("__classdict__":Str))=aj:=by decide) (G:Gl X "sorted":=by rfl):DN X E (.Call (.Name "sorted" p) [.Name y v] [] g) (o9 i):=λF S u P H Q d h=>by
 unfold o9 at h;cases q:dm u i with
 |none=>rw[q]at h;exact h.elim
 |some m=>
  rw[q]at h;simp only[b7,R.bind_ok]at h;obtain⟨a,A,N,K,D,T,_⟩:=d.dkAt (lJ q);unfold xX at h;cases n:qA m with
  |none=>rw[n]at h;exact h.elim
  |some r=>
   rw[n,iR]at h;split at h
   .rename_i s;refine b9 (nJ (Ul J) G C nz (i4 (fI L M I O) ki (j9 rfl)) (by decide) (by decide) (j9 rfl) rfl) ⟨.ref a,N,a,A,r,rfl,K,by rw[D.keys];exact Hw n,s.1,λl f=>?_⟩;have al:Al F F H (L2.upd H l (.lst (cL (aH r)))):=Al.new0 f;refine h F S _ (d.al al) al.grow l (λc=>c=l) ⟨⟨_,upd_same,Va.mpr ⟨rfl,λx B=>s.2 x ((eM _).mem_iff.mp B)⟩⟩,λc=>l6⟩ λb z=>?_;subst z;exact⟨f,λz=>zO (d.ex _ z) (λo w=>by rw[f]at w;cases w),λ⟨j,z⟩=>zO (d.foot j b z).2.2 (λo w=>by rw[f]at w;cases w.1),_,upd_same,trivial⟩
   .exact h.elim
end
end Pu
namespace L2
def yx:Bool->Keyed->Array Keyed->Nat->Nat->Nat->StateT bQ Sem (Option Nat):=sortPriv% PySem.Builtin.gallop
def HB:Array Keyed->Array Keyed->StateT bQ Sem (Array Keyed):=sortPriv% PySem.Builtin.mergeLo
def HF:Array Keyed->Array Keyed->StateT bQ Sem (Array Keyed):=sortPriv% PySem.Builtin.mergeHi
def kO(κ:KeyKind)(p:Keyed):κ.α:=(κ.keyOf p.1).getD κ.dflt
def hZ(b:KeyKind)(p:Keyed):Prop:=∃a,b.keyOf p.1=aa a
theorem hZ.k{κ:KeyKind}{p:Keyed}(h:hZ κ p):κ.keyOf p.1=aa (kO κ p):=by obtain⟨a,e⟩:=h;unfold kO;rw[e];rfl
def iP(κ:KeyKind)(kz:gZ)(c:aV)(w:aL)(A:aX)(s:am):Prop :=
 ∀(E:ai->am->Prop) (x y:ai) (a b:κ.α) {Q:Bool->am->Prop},κ.keyOf x=aa a->κ.keyOf y=aa b->Q (κ.blt a b) s->ar (ax c w) A (keyLt' kz x y) Q E s
theorem OneLt.ok{κ:KeyKind}(f:κ.OneLt){prog:aV}{w:aL}{A:aX}{s:am}:iP κ oneType' prog w A s:=λE x y a b _ d c h=>by rw[keyLt'_oneType];exact f prog w A E s x y a b d c h
structure SB(kz:gZ)(st:bQ):Prop where
 kind:kindOf st=kz
 failed:failedOf st=ae
section
variable{a:aV}{w:aL}{A:aX}{E:ai->am->Prop}{s:am}{d:KeyKind}{f:gZ}
theorem vU(j:iP d f a w A s){b:bQ}{x y:Keyed}{Q:Option Bool->bQ->Prop}(i:SB f b)(g:hZ d x)(c:hZ d y)(h:Q (aa (d.blt (kO d x) (kO d y))) b):wpS (ax a w) A E s (lt' x y) Q b:=by rw[lt'_eq];refine aP (l8 ?_);rw[i.kind];exact aP (ue (C1 (j _ x.1 y.1 _ _ g.k c.k ⟨rfl,aY h⟩)))
theorem fH{c:bQ}{b:Array Keyed}{i:Nat}(g:i<b.size){Q:Keyed->bQ->Prop}(h:Q b[i] c):wpS (ax a w) A E s (elem' b i) Q c:=by rw[elem'_eq,getElem?_pos b i g];exact aY h
def Ed(c:Bool)(g:Keyed)(j:Array Keyed)(h i:Nat):StateT bQ Sem (Option Bool) :=elem' j (h+i) >>= λx=>if c=ah then lt' x g else lt' g x >>= λb=>pure (b.map (!·))
def mz(d:KeyKind)(b:Bool)(c x:Keyed):Bool:=if b=ah then d.blt (kO d x) (kO d c)else !d.blt (kO d c) (kO d x)
theorem N_(p:iP d f a w A s){l:bQ}{c:Bool}{j:Keyed}{g:Array Keyed}{b i:Nat}{Q:Option Bool->bQ->Prop}(o:SB f l)(n:hZ d j)(q:b+i<g.size)(m:hZ d g[b+i])(h:Q (aa (mz d c j g[b+i])) l):wpS (ax a w) A E s (Ed c j g b i) Q l:=by
 refine aP (fH q ?_);cases c
 .rw[if_neg (by simp)];exact aP (vU p o n m (aY h))
 .rw[if_pos rfl];exact vU p o m n h
theorem HM(hO:iP d f a w A s){K:bQ}(hk:SB f K){G:Bool}{L:Keyed}{z:Array Keyed}{u n b:Nat}{Q:Option Nat->bQ->Prop}(lw:hZ d L)(hn:u+n<=z.size)(hA:∀i (g:i<z.size),hZ d z[i]) (B:Nat->Bool) (hB:∀i (g:i<n),B i=mz d G L (z[u+i]'∅))(mono:∀i j,i<=j->j<n->B j=ah->B i=ah) (hh:b<n)(h:∀r,r<=n->(∀i,i<r->B i=ah)->(∀i,r<=i->i<n->B i=aj)->Q (aa r) K):wpS (ax a w) A E s (yx G L z u n b) Q K:=by
 have O:∀{i:Nat}{Q:Option Bool->bQ->Prop},i<n->Q (aa (B i)) K->wpS (ax a w) A E s (Ed G L z u i) Q K:=λ{i Q} g q=>N_ hO hk lw ∅ (hA _ _) (by rw[<-hB i g];exact q);have dn:∀{i j:Nat},i<=j->j<n->B i=aj->B j=aj:=λ{i j} bR hj hf=>by
  cases e:B j with
  |false=>rfl
  |true=>rw[mono i j bR hj e]at hf;cases hf
 unfold yx;refine aP (O hh ?_);cases hr:B b with
 |true=>
  dsimp only;rw[if_pos rfl];refine aP (g7 (g8 (I:=λx c m=>m=K/\∃l o,c=(ae,l,o)/\l<o/\x<o/\l<n-b/\B (b+l)=ah) (Q:=λc m=>m=K/\∃l o,c=(ae,l,o)/\l<o/\l<n-b/\B (b+l)=ah/\(n-b<=o\/(o<n-b/\B (b+o)=aj))) ?_ ?_ ?_) ?_)
  .rintro x c m _ P ⟨rfl,l,o,rfl,J,T,H,p⟩;dsimp only;by_cases v:o ≥ n-b
   .rw[if_pos v];exact aY ⟨rfl,l,o,rfl,J,H,p,.inl v⟩
   .rw[if_neg v];refine aP (O ∅ ?_);cases e:B (b+o)with
    |true=>exact aY ⟨rfl,o,2*o+1,rfl,∅,∅,∅,e⟩
    |false=>exact aY ⟨rfl,l,o,rfl,J,H,p,.inr ⟨∅,e⟩⟩
  .rintro c m ⟨rfl,l,o,rfl,J,T,H,p⟩;exact⟨rfl,l,o,rfl,J,H,p,.inl ∅⟩
  .exact⟨rfl,0,1,rfl,∅,∅,∅,hr⟩
  rintro c m ⟨rfl,l,o,rfl,J,H,p,M⟩;dsimp only;have Z:b+l+1<=b+min o (n-b):=∅
  have Y:b+min o (n-b)<=n:=∅
  have X:∀i,i<b+l+1->B i=ah:=λi g=>mono i (b+l) ∅ ∅ p;have W:∀i,b+min o (n-b)<=i->i<n->B i=aj:=by
   intro i g N;rcases M with M|⟨M,S⟩
   .lia
   .exact dn (i:=b+o) ∅ N S
  clear M;generalize b+l+1=lo at *;generalize b+min o (n-b)=g at *;refine aP (g7 (g8 (I:=λx c y=>y=m/\∃l r,c=(ae,l,r)/\l<=r/\r<=n/\r-l<=n-x/\(∀i,i<l->B i=ah)/\(∀i,r<=i->i<n->B i=aj)) (Q:=λc y=>y=m/\∃l r,c=(ae,l,r)/\r<=n/\(∀i,i<r->B i=ah)/\(∀i,r<=i->i<n->B i=aj)) ?_ ?_ ?_) ?_)
  .rintro x c y _ P ⟨rfl,l,r,rfl,a1,F,a3,D,C⟩;dsimp only;by_cases v:l ≥ r
   .rw[if_pos v];have:l=r:=∅
    subst this;exact aY ⟨rfl,l,l,rfl,F,D,C⟩
   .rw[if_neg v];refine aP (O ∅ ?_);cases e:B (l+(r-l) / 2)with
    |true=>exact aY ⟨rfl,_,r,rfl,∅,F,∅,λi g=>mono _ _ ∅ ∅ e,C⟩
    |false=>exact aY ⟨rfl,l,_,rfl,∅,∅,∅,D,λi g N=>dn (i:=l+(r-l) / 2) g N e⟩
  .rintro c y ⟨rfl,l,r,rfl,a1,F,a3,D,C⟩;have:l=r:=∅
   subst this;exact⟨rfl,l,l,rfl,F,D,C⟩
  .exact⟨rfl,lo,g,rfl,Z,Y,∅,X,W⟩
  .rintro c y ⟨rfl,l,r,rfl,F,D,C⟩;exact aY (h r F D C)
 |false=>
  dsimp only;rw[if_neg (by simp)];refine aP (g7 (g8 (I:=λx c m=>m=K/\∃l o,c=(ae,l,o)/\l<o/\x<o/\l<=b/\B (b-l)=aj) (Q:=λc m=>m=K/\∃l o,c=(ae,l,o)/\l<o/\l<=b/\B (b-l)=aj/\(b+1<=o\/(o<=b/\B (b-o)=ah))) ?_ ?_ ?_) ?_)
  .rintro x c m _ P ⟨rfl,l,o,rfl,J,T,H,p⟩;dsimp only;by_cases v:o ≥ b+1
   .rw[if_pos v];exact aY ⟨rfl,l,o,rfl,J,H,p,.inl v⟩
   .rw[if_neg v];refine aP (O ∅ ?_);cases e:B (b-o)with
    |false=>exact aY ⟨rfl,o,2*o+1,rfl,∅,∅,∅,e⟩
    |true=>exact aY ⟨rfl,l,o,rfl,J,H,p,.inr ⟨∅,e⟩⟩
  .rintro c m ⟨rfl,l,o,rfl,J,T,H,p⟩;exact⟨rfl,l,o,rfl,J,H,p,.inl ∅⟩
  .exact⟨rfl,0,1,rfl,∅,∅,∅,hr⟩
  rintro c m ⟨rfl,l,o,rfl,J,H,p,M⟩;dsimp only;have Z:b+1-min o (b+1)<=b-l:=∅
  have Y:b-l<=n:=∅
  have X:∀i,i<b+1-min o (b+1)->B i=ah:=by
   intro i g;rcases M with M|⟨M,S⟩
   .lia
   .exact mono i (b-o) ∅ ∅ S
  have W:∀i,b-l<=i->i<n->B i=aj:=λi g N=>dn (i:=b-l) ∅ N p;clear M p;generalize b+1-min o (b+1)=lo at *;generalize b-l=g at *;refine aP (g7 (g8 (I:=λx c y=>y=m/\∃l r,c=(ae,l,r)/\l<=r/\r<=n/\r-l<=n-x/\(∀i,i<l->B i=ah)/\(∀i,r<=i->i<n->B i=aj)) (Q:=λc y=>y=m/\∃l r,c=(ae,l,r)/\r<=n/\(∀i,i<r->B i=ah)/\(∀i,r<=i->i<n->B i=aj)) ?_ ?_ ?_) ?_)
  .rintro x c y _ P ⟨rfl,l,r,rfl,a1,F,a3,D,C⟩;dsimp only;by_cases v:l ≥ r
   .rw[if_pos v];have:l=r:=∅
    subst this;exact aY ⟨rfl,l,l,rfl,F,D,C⟩
   .rw[if_neg v];refine aP (O ∅ ?_);cases e:B (l+(r-l) / 2)with
    |true=>exact aY ⟨rfl,_,r,rfl,∅,F,∅,λi g=>mono _ _ ∅ ∅ e,C⟩
    |false=>exact aY ⟨rfl,l,_,rfl,∅,∅,∅,D,λi g N=>dn (i:=l+(r-l) / 2) g N e⟩
  .rintro c y ⟨rfl,l,r,rfl,a1,F,a3,D,C⟩;have:l=r:=∅
   subst this;exact⟨rfl,l,l,rfl,F,D,C⟩
  .exact⟨rfl,lo,g,rfl,Z,Y,∅,X,W⟩
  .rintro c y ⟨rfl,l,r,rfl,F,D,C⟩;exact aY (h r F D C)
end
section
variable{κ:KeyKind}{kz:gZ}
def bV(κ:KeyKind)(x y:Keyed):Prop:=κ.kle (kO κ x) (kO κ y)
theorem bV.trans{x y z:Keyed}(b:bV κ x y)(a:bV κ y z):bV κ x z:=uf b a
structure MS(κ:KeyKind)(T o ra rb:List Keyed):Prop where
 perm:(o++(ra++rb)).Perm T
 so:o.Pairwise (bV κ)
 sa:ra.Pairwise (bV κ)
 sb:rb.Pairwise (bV κ)
 oa:∀x∈o,∀y∈ra,bV κ x y
 ob:∀x∈o,∀y∈rb,bV κ x y
theorem MS.stepA{T o x f d:List Keyed}(h:MS κ T o (x++f) d)(i:∀u∈x,∀v∈d,bV κ u v):MS κ T (o++x) f d:=by
 obtain⟨n,m,c,l,g,j⟩:=h;rw[JP]at c;refine⟨by simpa[gH]using n,?_,c.2.1,l,?_,?_⟩
 .rw[JP];exact⟨m,c.1,λu a v b=>g u a v (pc _ b)⟩
 .intro u a v b;rcases kB.mp a with a|a
  .exact g u a v (jd _ b)
  .exact c.2.2 u a v b
 .intro u a v b;rcases kB.mp a with a|a
  .exact j u a v b
  .exact i u a v b
theorem MS.swap{T o b a:List Keyed}(h:MS κ T o b a):MS κ T o a b :=⟨(zJ _ List.perm_append_comm).trans h.perm,h.so,h.sb,h.sa,h.ob,h.oa⟩
theorem MS.stepB{T o x a b:List Keyed}(h:MS κ T o a (x++b))(c:∀u∈x,∀v∈a,bV κ u v):MS κ T (o++x) a b :=(h.swap.stepA c).swap
def gU(κ:KeyKind)(T:List Keyed)(r:Array Keyed):Prop:=r.toList.Perm T/\r.toList.Pairwise (bV κ)
theorem MS.endA{T o a:List Keyed}{r:Array Keyed}(h:MS κ T o a [])(e:r.toList=o++a):gU κ T r:=by obtain⟨f,d,c,i,b,g⟩:=h;refine⟨by rw[e];simpa using f,?_⟩;rw[e,JP];exact⟨d,c,b⟩
theorem MS.last{T o b a:List Keyed}{r:Array Keyed}(h:MS κ T o b a)(c:∀u∈a,∀v∈b,bV κ u v)(e:r.toList=o++(a++b)):gU κ T r:=by
 have d:MS κ T o b (a++[]):=by simpa using h
 exact(d.stepB c).endA (by rw[e];simp)
theorem lK(a:Array Keyed)(i j:Nat):(a.extract i j).toList=(a.toList.drop i).take (j-i):=by simp[Array.toList_extract,List.extract_eq_take_drop]
theorem sM(a:Array Keyed)(i:Nat):(a.extract i a.size).toList=a.toList.drop i:=by rw[lK,pB];simp
theorem Gr{a:Array Keyed}{i:Nat}(h:i<a.size):a.toList.drop i=a[i]::a.toList.drop (i+1):=by rw[uc (by simpa using h)];simp
theorem IR(a:Array Keyed)(i k:Nat):a.toList.drop i=(a.extract i (i+k)).toList++a.toList.drop (i+k):=by rw[lK,show i+k-i=k by lia,<-List.drop_drop,pA]
theorem rZ{a:Array Keyed}{i:Nat}{x:Keyed}(h:x∈a.toList.drop i):∃j,∃d:j<a.size,i<=j/\a[j]=x:=by
 obtain⟨k,c,e⟩:=zP h;rw[Df]at e;have b:i+k<a.size:=by simp at c;lia
 exact⟨i+k,b,∅,by simpa using e⟩
theorem Gn{a:Array Keyed}{i k:Nat}{x:Keyed}(h:x∈(a.extract i (i+k)).toList):∃j,∃c:j<a.size,i<=j/\j<i+k/\a[j]=x:=by
 rw[lK]at h;obtain⟨m,b,e⟩:=zP h;rw[Dg,Df]at e;refine⟨i+m,?_,∅,?_,by simpa using e⟩
 all_goals simp at b;lia
def vj(κ:KeyKind)(a:Array Keyed):Prop:=∀i j (b:j<a.size) (c:i<=j),bV κ (a[i]'∅) a[j]
theorem vj.pw{a:Array Keyed}(h:vj κ a):a.toList.Pairwise (bV κ):=by rw[JQ];intro i j c b d;have:=h i j (by simpa using b) ∅;simpa using this
structure gc(κ:KeyKind)(a b c:Array Keyed)(d f:Nat):Prop where
 ms:MS κ (a.toList++b.toList) c.toList (a.toList.drop d) (b.toList.drop f)
 la:d<=a.size
 lb:f<=b.size
variable{a b c:Array Keyed}{d f:Nat}
theorem gc.pushA(h:gc κ a b c d f)(i:d<a.size)(l:∀j (g:j<b.size),f<=j->bV κ a[d] b[j]):gc κ a b (c.push a[d]) (d+1) f:=by refine⟨?_,i,h.lb⟩;rw[wj];refine MS.stepA (by rw[Dh,<-Gr i];exact h.ms) λu n v m=>?_;obtain⟨j,g,o,rfl⟩:=rZ m;rw[jF.mp n];exact l j g o
theorem gc.pushB(h:gc κ a b c d f)(i:f<b.size)(l:∀j (g:j<a.size),d<=j->bV κ b[f] a[j]):gc κ a b (c.push b[f]) d (f+1):=by refine⟨?_,h.la,i⟩;rw[wj];refine MS.stepB (by rw[Dh,<-Gr i];exact h.ms) λu n v m=>?_;obtain⟨j,g,o,rfl⟩:=rZ m;rw[jF.mp n];exact l j g o
theorem gc.extA{k:Nat}(h:gc κ a b c d f)(p:d+k<=a.size)(m:∀i (l:i<a.size),d<=i->i<d+k->∀j (g:j<b.size),f<=j->bV κ a[i] b[j]):gc κ a b (c++a.extract d (d+k)) (d+k) f:=by refine⟨?_,p,h.lb⟩;rw[jG];refine MS.stepA (by rw[<-IR];exact h.ms) λu o v n=>?_;obtain⟨j,g,s,rfl⟩:=rZ n;obtain⟨i,l,r,q,rfl⟩:=Gn o;exact m i l r q j g s
theorem gc.extB{k:Nat}(h:gc κ a b c d f)(p:f+k<=b.size)(m:∀i (l:i<b.size),f<=i->i<f+k->∀j (g:j<a.size),d<=j->bV κ b[i] a[j]):gc κ a b (c++b.extract f (f+k)) d (f+k):=by refine⟨?_,h.la,p⟩;rw[jG];refine MS.stepB (by rw[<-IR];exact h.ms) λu o v n=>?_;obtain⟨j,g,s,rfl⟩:=rZ n;obtain⟨i,l,r,q,rfl⟩:=Gn o;exact m i l r q j g s
theorem gc.doneA(h:gc κ a b c d f)(e:f=b.size):gU κ (a.toList++b.toList) (c++a.extract d a.size++b.extract f b.size):=by have:=h.ms;rw[show b.toList.drop f=[] by rw[Di];simp[e]]at this;refine this.endA ?_;rw[jG,jG,sM,sM,show b.toList.drop f=[] by rw[Di];simp[e],fN]
theorem gc.doneB(h:gc κ a b c d f)(e:d=a.size):gU κ (a.toList++b.toList) (c++a.extract d a.size++b.extract f b.size):=by have:=h.ms;rw[show a.toList.drop d=[] by rw[Di];simp[e]]at this;refine this.swap.endA ?_;rw[jG,jG,sM,sM,show a.toList.drop d=[] by rw[Di];simp[e],fN]
theorem gc.last(h:gc κ a b c d f)(e:d+1=a.size)(n:∀j (g:j<b.size),bV κ b[j] (a[d]'∅)):gU κ (a.toList++b.toList) (c++b.extract f b.size++a.extract d a.size):=by
 refine h.ms.last (λu m v l=>?_) (by rw[jG,jG,sM,sM,gH]);obtain⟨j,g,q,rfl⟩:=rZ m;obtain⟨i,o,p,rfl⟩:=rZ l;have:i=d:=∅
 subst this;exact n j g
end
section
variable{b:aV}{w:aL}{A:aX}{E:ai->am->Prop}{s:am}{a:KeyKind}{c:gZ}
theorem BS(z:iP a c b w A s){l:bQ}(v:SB c l){f:Keyed}{d:Array Keyed}{base n hint:Nat}{Q:Option Nat->bQ->Prop}(o:hZ a f)(u:base+n<=d.size)(B:∀i (g:i<d.size),hZ a d[i]) (p:∀i j (G:i<=j) (m:j<base+n),base<=i->bV a (d[i]'∅) (d[j]'∅)) (x:hint<n)(h:∀r,r<=n->(∀i (g:i<d.size),base<=i->i<base+r->bV a d[i] f)->(∀i (g:i<d.size),base+r<=i->i<base+n->a.klt (kO a f) (kO a d[i]))->Q (aa r) l):wpS (ax b w) A E s (yx aj f d base n hint) Q l:=by
 refine HM z v o u B (λi=>if g:i<n then mz a aj f (d[base+i]'∅)else aj) (λi g=>by rw[dif_pos g]) ?_ x ?_
 .intro i j G m e;rw[dif_pos m]at e;rw[dif_pos ∅];simp only[mz,l0,if_false,JO]at e ⊢;exact uf (p (base+i) (base+j) ∅ ∅ ∅) e
 .intro r q D C;refine h r q (λi g y F=>?_) (λi g y F=>?_)
  .have:=D (i-base) ∅;rw[dif_pos ∅]at this;simp only[mz,l0,if_false,JO,show base+(i-base)=i by lia]at this;exact this
  .have:=C (i-base) ∅ ∅;rw[dif_pos ∅]at this;simp only[mz,l0,if_false,Bool.not_eq_false',show base+(i-base)=i by lia]at this;exact this
theorem Bm(z:iP a c b w A s){l:bQ}(v:SB c l){f:Keyed}{d:Array Keyed}{base n hint:Nat}{Q:Option Nat->bQ->Prop}(o:hZ a f)(u:base+n<=d.size)(B:∀i (g:i<d.size),hZ a d[i]) (p:∀i j (G:i<=j) (m:j<base+n),base<=i->bV a (d[i]'∅) (d[j]'∅)) (x:hint<n)(h:∀r,r<=n->(∀i (g:i<d.size),base<=i->i<base+r->a.klt (kO a d[i]) (kO a f))->(∀i (g:i<d.size),base+r<=i->i<base+n->bV a f d[i])->Q (aa r) l):wpS (ax b w) A E s (yx ah f d base n hint) Q l:=by
 refine HM z v o u B (λi=>if g:i<n then mz a ah f (d[base+i]'∅)else aj) (λi g=>by rw[dif_pos g]) ?_ x ?_
 .intro i j G m e;rw[dif_pos m]at e;rw[dif_pos ∅];simp only[mz,if_true]at e ⊢;exact KeyOrd.klt_of_kle_of_klt (p (base+i) (base+j) ∅ ∅ ∅) e
 .intro r q D C;refine h r q (λi g y F=>?_) (λi g y F=>?_)
  .have:=D (i-base) ∅;rw[dif_pos ∅]at this;simp only[mz,if_true,show base+(i-base)=i by lia]at this;exact this
  .have:=C (i-base) ∅ ∅;rw[dif_pos ∅]at this;simp only[mz,if_true,show base+(i-base)=i by lia]at this;exact this
end
structure gS(st aA:bQ):Prop where
 kind:kindOf aA=kindOf st
 arr:arrOf aA=arrOf st
 pend:bA aA=bA st
 failed:failedOf aA=failedOf st
theorem gS.rfl{st:bQ}:gS st st:=⟨_root_.rfl,_root_.rfl,_root_.rfl,_root_.rfl⟩
theorem gS.sb{b:gZ}{a c:bQ}(h:gS a c)(k:SB b a):SB b c:=⟨h.kind.trans k.kind,h.failed.trans k.failed⟩
section
variable{d:aV}{w:aL}{A:aX}{E:ai->am->Prop}{s:am}{κ:KeyKind}{kz:gZ}
theorem cQ{a f:Type}{M:Model}{c:Prop}[Decidable c]{t e:StateT a Sem f}{Q:f->a->Prop}{b:a}(h:c->wpS M A E s t Q b)(g:¬c->wpS M A E s e Q b):wpS M A E s (if c then t else e) Q b:=by
 split
 .exact h ‹_›
 .exact g ‹_›
def Qb:Nat->StateT bQ Sem Unit:=sortPriv% PySem.Builtin.setMinGallop
theorem gS.trans{a b c:bQ}(g:gS a b)(f:gS b c):gS a c:=⟨f.kind.trans g.kind,f.arr.trans g.arr,f.pend.trans g.pend,f.failed.trans g.failed⟩
theorem AT{a b:bQ}{g:Nat}{Q:Unit->bQ->Prop}(f:gS b a)(h:∀c,gS b c->Q () c):wpS (ax d w) A E s (Qb g) Q a :=n8 (h _ (f.trans ⟨rfl,rfl,rfl,rfl⟩))
theorem RB(hO:iP κ kz d w A s){M:bQ}(hk:SB kz M){a b:Array Keyed}{Q:Array Keyed->bQ->Prop}(ha:0<a.size)(hb:0<b.size)(hA:∀i (P:i<a.size),hZ κ a[i]) (hB:∀i (P:i<b.size),hZ κ b[i]) (sa:vj κ a) (sb:vj κ b)(h0:bV κ b[0] a[0]) (hl:∀j (q:j<b.size),bV κ b[j] a[a.size-1])(h:∀r G,gS M G->gU κ (a.toList++b.toList) r->Q r G):wpS (ax d w) A E s (HB a b) Q M:=by
 have jj:∀{i:Nat} (P:i<a.size),i+1=a.size->∀j (q:j<b.size),bV κ b[j] a[i]:=λ{i} P e j q=>by
  have:i=a.size-1:=∅
  subst this;exact hl j q
 have I0:gc κ a b #[b[0]] 0 1:=by
  have B:gc κ a b #[] 0 0:=⟨⟨by simp,by simp,by simpa using sa.pw,by simpa using sb.pw,by simp,by simp⟩,∅,∅⟩
  exact B.pushB hb λj q _=>h0.trans (sa 0 j q ∅)
 unfold HB;refine aP (ue (nZ ⟨rfl,?_⟩));refine aP (fH hb ?_);by_cases e1:1=b.size
 .rw[if_pos (by simp[<-e1])];exact aY (h _ _ .rfl (I0.doneA e1))
 rw[if_neg (by simpa using e1)];by_cases e2:0+1=a.size
 .rw[if_pos (by simp[<-e2])];exact aY (h _ _ .rfl (I0.last e2 (jj ∅ ∅)))
 rw[if_neg (by simpa using e2)];refine aP (l8 ?_);refine aP (g7 (g8 (I:=λx c G=>gS M G/\∃f l p K,c=(ae,f,l,p,K)/\gc κ a b f l p/\l+1<a.size/\p<b.size/\x+1<=l+p) (Q:=λc G=>gS M G/\∃r,c.1=aa r/\gU κ (a.toList++b.toList) r) ?_ ?_ ?_) ?_);rotate_left
 .rintro c G ⟨_,f,l,p,K,rfl,z,B,u,N⟩;lia
 .exact⟨.rfl,_,0,1,_,rfl,I0,∅,∅,∅⟩
 .rintro⟨c1,c⟩ G ⟨v,r,rfl,Y⟩;exact aY (h r G v Y)
 rintro x c G _ hx ⟨v,f,l,p,K,rfl,z,B,u,N⟩;refine aP (g7 (g8 (I:=λy c C=>C=G/\∃f l p F D,c=(ae,f,l,p,F,D)/\gc κ a b f l p/\l+1<a.size/\p<b.size/\x+1+y<=l+p) (Q:=λc C=>C=G/\((∃r Z,c=(aa r,Z)/\gU κ (a.toList++b.toList) r)\/∃f l p F D,c=(ae,f,l,p,F,D)/\gc κ a b f l p/\l+1<a.size/\p<b.size/\x+1+1<=l+p)) ?_ ?_ ?_) ?_)
 .rintro y c C _ hy ⟨rfl,f,l,p,F,D,rfl,z,B,u,N⟩;dsimp only;refine aP (fH u (aP (fH ∅ (aP (vU hO (v.sb hk) (hB p u) (hA l ∅) ?_)))));cases e:κ.blt (kO κ b[p]) (kO κ (a[l]'∅))with
  |true=>
   dsimp only;rw[if_pos rfl];refine aP (fH u ?_);have O:=z.pushB u λj q fg=>bV.trans (l9 e) (sa l j q fg);by_cases J:p+1=b.size
   .rw[if_pos (by simp[J])];exact aY ⟨rfl,.inl ⟨_,_,rfl,O.doneA J⟩⟩
   rw[if_neg (by simpa using J)];split
   .exact aY ⟨rfl,.inr ⟨_,_,_,_,_,rfl,O,∅,∅,∅⟩⟩
   .exact aY ⟨rfl,_,_,_,_,_,rfl,O,∅,∅,∅⟩
  |false=>
   dsimp only;rw[if_neg (by simp)];refine aP (fH ∅ ?_);have O:=z.pushA ∅ λj q fg=>bV.trans (show bV κ (a[l]'∅) b[p] from e) (sb p j q fg);by_cases J:l+1+1=a.size
   .rw[if_pos (by simp[J])];exact aY ⟨rfl,.inl ⟨_,_,rfl,O.last J (jj ∅ ∅)⟩⟩
   rw[if_neg (by simpa using J)];split
   .exact aY ⟨rfl,.inr ⟨_,_,_,_,_,rfl,O,∅,∅,∅⟩⟩
   .exact aY ⟨rfl,_,_,_,_,_,rfl,O,∅,∅,∅⟩
 .rintro c C ⟨rfl,f,l,p,F,D,rfl,z,B,u,N⟩;lia
 .exact⟨rfl,_,_,_,_,_,rfl,z,B,u,∅⟩
 rintro c C ⟨rfl,⟨r,Z,rfl,Y⟩|⟨f,l,p,F,D,rfl,z,B,u,N⟩⟩
 .exact aY ⟨v,r,rfl,Y⟩
 refine aP (ue (nZ ⟨rfl,?_⟩));refine aP (g7 (g8 (I:=λy c C=>gS M C/\∃f l p K F D,c=(ae,f,l,p,K,F,D)/\gc κ a b f l p/\l+1<a.size/\p<b.size/\x+2+y<=l+p) (Q:=λc C=>gS M C/\((∃r Z,c=(aa r,Z)/\gU κ (a.toList++b.toList) r)\/∃f l p K F D,c=(ae,f,l,p,K,F,D)/\gc κ a b f l p/\l+1<a.size/\p<b.size/\x+1+1<=l+p)) ?_ ?_ ?_) ?_);rotate_left
 .rintro c C ⟨_,f,l,p,K,F,D,rfl,z,B,u,N⟩;lia
 .exact⟨v,_,_,_,_,_,_,rfl,z,B,u,∅⟩
 .rintro c C ⟨v,⟨r,Z,rfl,Y⟩|⟨f,l,p,K,F,D,rfl,z,B,u,N⟩⟩
  .exact aY ⟨v,r,rfl,Y⟩
  .dsimp only;refine aP (n8 (aY ⟨⟨v.kind,v.arr,v.pend,v.failed⟩,_,_,_,_,rfl,z,B,u,∅⟩))
 clear B u N z v I0 e1 e2;rintro y c C _ hy ⟨v,f,l,p,K,F,D,rfl,z,B,u,N⟩;clear hx hy;have mh:∀{i j:Nat} (L:i<=j) (q:j<b.size),bV κ (b[i]'∅) b[j]:=λ{i j} L q=>sb i j q L;have rG:∀{i j:Nat} (L:i<=j) (q:j<a.size),bV κ (a[i]'∅) a[j]:=λ{i j} L q=>sa i j q L;refine(?_:wpS (ax d w) A E s _ ?Q _);extract_lets -merge x1 x2 x3 x4 x5 x6 x7 x8 x9 xa xb xc jp;have q:∀g W,gS M W->wpS (ax d w) A E s (jp () g) ?Q W:=by
  intro g W H;dsimp -zeta only[jp,x1,x2,x3,x4,x5,x6,x7,x8,x9,xa,xb,xc];refine aP (AT H λW H=>?_);refine aP (fH u ?_);refine aP (BS hO (H.sb hk) (base:=l) (n:=a.size-l) (hint:=0) (hB p u) ∅ hA (λi j L q _=>rG L ∅) ∅ λk ly eJ fP=>?_);dsimp -zeta only;extract_lets -merge y1 jp2;have wN:∀o n,gc κ a b o n p->l+k<=n->n+1<a.size->wpS (ax d w) A E s (jp2 () o n) ?Q W:=by
   intro o n X pV e4;dsimp -zeta only[jp2,y1];refine aP (fH u ?_);have S:=X.pushB u λj q g=>l9 (fP j q ∅ ∅);refine cQ (λe5=>?_) λe5=>?_
   .exact aY ⟨H,.inl ⟨_,_,rfl,S.doneA (by simpa using e5)⟩⟩
   have e5':p+1≠b.size:=by simpa using e5
   refine aP (fH ∅ ?_);refine aP (Bm hO (H.sb hk) (base:=p+1) (n:=b.size-(p+1)) (hint:=0) (hA _ _) ∅ hB (λi j L q _=>mh L ∅) ∅ λk' m1 m2 m3=>?_);dsimp -zeta only;extract_lets -merge z1 z2 jp3;have wP:∀o m,gc κ a b o n m->p+1+k'<=m->m<b.size->wpS (ax d w) A E s (jp3 () o m) ?Q W:=by
    intro o m wQ e6 e7;dsimp -zeta only[jp3,z1,z2];refine aP (fH ∅ ?_);have wR:=wQ.pushA ∅ (λj q g=>m3 j q ∅ ∅);refine cQ (λe7=>?_) λe7=>?_
    .have T:n+1+1=a.size:=by simpa using e7
     exact aY ⟨H,.inl ⟨_,_,rfl,wR.last T (jj ∅ T)⟩⟩
    have T:n+1+1≠a.size:=by simpa using e7
    refine cQ (λe8=>?_) λe8=>?_
    .exact aY ⟨H,.inr ⟨_,_,_,_,_,_,rfl,wR,∅,∅,∅⟩⟩
    .exact aY ⟨H,_,_,_,_,_,_,rfl,wR,∅,∅,∅⟩
   clear_value jp3;refine cQ (λDQ=>?_) (λDQ=>?_)
   .have wQ:=S.extB (k:=k') ∅ (λi P g1 g2 j q g3=>bV.trans (l9 (m2 i P g1 g2)) (rG g3 q));refine cQ (λe6=>?_) λe6=>?_
    .exact aY ⟨H,.inl ⟨_,_,rfl,wQ.doneA (by simpa using e6)⟩⟩
    have e6':p+1+k'≠b.size:=by simpa using e6
    exact wP _ _ wQ ∅ ∅
   .exact wP _ _ S ∅ ∅
  clear_value jp2;refine cQ (λhk0=>?_) (λhk0=>?_)
  .have X:gc κ a b (f++a.extract l (l+k)) (l+k) p:=z.extA ∅ λi P g1 g2 j q g3=>(eJ i P g1 g2).trans (mh g3 q);refine cQ (λJ=>?_) λJ=>?_
   .have pV:l+k+1=a.size:=by simpa using J
    exact aY ⟨H,.inl ⟨_,_,rfl,X.last pV (jj ∅ pV)⟩⟩
   have pV:l+k+1≠a.size:=by simpa using J
   refine cQ (λe4=>?_) λe4=>?_
   .exact aY ⟨H,.inl ⟨_,_,rfl,X.doneB (by simpa using e4)⟩⟩
   have e4':l+k≠a.size:=by simpa using e4
   exact wN _ _ X ∅ ∅
  .exact wN _ _ z ∅ ∅
 exact cQ (λ_=>q _ _ v) λ_=>q _ _ v
end
def BO(d:KeyKind):KeyKind where
 α:=d.α
 blt:=λa b=>d.blt b a
 irrefl:=d.irrefl
 trans:=λa b c g f=>d.trans c b a f g
 negTrans:=λa b c h=>(d.negTrans c b a h).symm
 total:=λa b g f=>d.total a b f g
 keyOf:=d.keyOf
 dflt:=d.dflt
section
variable{κ:KeyKind}{g:gZ}
theorem uB{x y:Keyed}(h:bV κ y x):bV (BO κ) x y:=h
theorem Ee{a:Array Keyed}{n:Nat}(h:0<n)(b:n<=a.size):(a.toList.take n).reverse=(a[n-1]'∅)::(a.toList.take (n-1)).reverse:=by
 obtain⟨m,rfl⟩:∃m,n=m+1:=⟨n-1,∅⟩
 rw[List.take_succ_eq_append_getElem (by simp;lia),JR];simp
theorem HZ(a:Array Keyed)(p n:Nat)(b:p<=n):a.toList.take n=a.toList.take p++(a.extract p n).toList:=by
 rw[lK]
 conv=>lhs;rw[show n=p+(n-p) by lia]
 rw[List.take_add]
theorem sy{a:Array Keyed}{n:Nat}(d:n<=a.size){x:Keyed}(h:x∈a.toList.take n):∃j,∃f:j<a.size,j<n/\a[j]=x:=by
 obtain⟨m,b,e⟩:=zP h;rw[Dg]at e;have c:m<n:=by simp at b;lia
 exact⟨m,∅,c,by simpa using e⟩
theorem Bq{a:Array Keyed}{p n:Nat}(d:n<=a.size){x:Keyed}(h:x∈(a.extract p n).toList):∃j,∃f:j<a.size,p<=j/\j<n/\a[j]=x:=by
 rw[lK]at h;obtain⟨m,b,e⟩:=zP h;rw[Dg,Df]at e;have c:p+m<n:=by simp at b;lia
 exact⟨p+m,∅,∅,c,by simpa using e⟩
theorem qm(a:Array Keyed)(n:Nat):(a.extract 0 n).toList=a.toList.take n:=by rw[lK];simp
structure gf(κ:KeyKind)(a b c:Array Keyed)(f d:Nat):Prop where
 ms:MS (BO κ) (a.toList++b.toList) c.toList (a.toList.take f).reverse (b.toList.take d).reverse
 la:f<=a.size
 lb:d<=b.size
variable{a b c:Array Keyed}{f d:Nat}
theorem gf.pushA(h:gf κ a b c f d)(o:0<f)(p:f-1<a.size)(l:∀j (i:j<b.size),j<d->bV κ b[j] a[f-1]):gf κ a b (c.push a[f-1]) (f-1) d:=by refine⟨?_,∅,h.lb⟩;rw[wj];refine MS.stepA (by rw[Dh,<-Ee o h.la];exact h.ms) λu n v m=>?_;obtain⟨j,i,q,rfl⟩:=sy h.lb (q_.mp m);rw[jF.mp n];exact uB (l j i q)
theorem gf.pushB(h:gf κ a b c f d)(o:0<d)(p:d-1<b.size)(l:∀j (i:j<a.size),j<f->bV κ a[j] b[d-1]):gf κ a b (c.push b[d-1]) f (d-1):=by refine⟨?_,h.la,∅⟩;rw[wj];refine MS.stepB (by rw[Dh,<-Ee o h.lb];exact h.ms) λu n v m=>?_;obtain⟨j,i,q,rfl⟩:=sy h.la (q_.mp m);rw[jF.mp n];exact uB (l j i q)
theorem gf.extA{p:Nat}(h:gf κ a b c f d)(l:p<=f)(o:∀i (n:i<a.size),p<=i->i<f->∀j (m:j<b.size),j<d->bV κ b[j] a[i]):gf κ a b (c++(a.extract p f).reverse) p d:=by refine⟨?_,c0 l h.la,h.lb⟩;rw[jG,Array.toList_reverse];refine MS.stepA (by rw[<-JR,<-HZ _ _ _ l];exact h.ms) λu r v q=>?_;obtain⟨j,m,x,rfl⟩:=sy h.lb (q_.mp q);obtain⟨i,n,w,s,rfl⟩:=Bq h.la (q_.mp r);exact uB (o i n w s j m x)
theorem gf.extB{p:Nat}(h:gf κ a b c f d)(l:p<=d)(o:∀i (n:i<b.size),p<=i->i<d->∀j (m:j<a.size),j<f->bV κ a[j] b[i]):gf κ a b (c++(b.extract p d).reverse) f p:=by refine⟨?_,h.la,c0 l h.lb⟩;rw[jG,Array.toList_reverse];refine MS.stepB (by rw[<-JR,<-HZ _ _ _ l];exact h.ms) λu r v q=>?_;obtain⟨j,m,x,rfl⟩:=sy h.la (q_.mp q);obtain⟨i,n,w,s,rfl⟩:=Bq h.lb (q_.mp r);exact uB (o i n w s j m x)
theorem Aq{T:List Keyed}{r q:Array Keyed}(h:gU (BO κ) T q)(e:r.toList=q.toList.reverse):gU κ T r:=by refine⟨by rw[e];exact(JS _).trans h.1,?_⟩;rw[e,JT];exact h.2
theorem gf.doneA(h:gf κ a b c f d)(e:f=0):gU κ (a.toList++b.toList) (a.extract 0 f++b.extract 0 d++c.reverse):=by have:=h.ms;rw[e,C6,List.reverse_nil]at this;refine Aq (q:=(c.toList++(b.toList.take d).reverse).toArray) (this.swap.endA (by simp)) ?_;rw[jG,jG,qm,qm,e];simp
theorem gf.doneB(h:gf κ a b c f d)(e:d=0):gU κ (a.toList++b.toList) (a.extract 0 f++b.extract 0 d++c.reverse):=by have:=h.ms;rw[e,C6,List.reverse_nil]at this;refine Aq (q:=(c.toList++(a.toList.take f).reverse).toArray) (this.endA (by simp)) ?_;rw[jG,jG,qm,qm,e];simp
theorem gf.first(h:gf κ a b c f d)(e:d=1)(p:∀j (n:j<a.size),bV κ (b[0]'(by have:=h.lb;lia)) a[j]):gU κ (a.toList++b.toList) (b.extract 0 d++a.extract 0 f++c.reverse):=by
 refine Aq (q:=(c.toList++((a.toList.take f).reverse++(b.toList.take d).reverse)).toArray) (h.ms.swap.last (λu m v l=>?_) (by simp)) ?_
 .obtain⟨i,o,s,rfl⟩:=sy h.la (q_.mp m);obtain⟨j,n,r,rfl⟩:=sy h.lb (q_.mp l);have:j=0:=∅
  subst this;exact uB (p i o)
 .rw[jG,jG,qm,qm];simp
end
section
variable{f:aV}{w:aL}{A:aX}{E:ai->am->Prop}{s:am}{d:KeyKind}{l:gZ}
theorem NC(hO:iP d l f w A s){T:bQ}(hk:SB l T){a b:Array Keyed}{Q:Array Keyed->bQ->Prop}(ha:0<a.size)(hb:0<b.size)(hA:∀i (hi:i<a.size),hZ d a[i]) (hB:∀i (hi:i<b.size),hZ d b[i]) (sa:vj d a) (sb:vj d b)(h0:bV d b[0] a[0]) (hl:∀j (z:j<b.size),bV d b[j] a[a.size-1])(h:∀r K,gS T K->gU d (a.toList++b.toList) r->Q r K):wpS (ax f w) A E s (HF a b) Q T:=by
 have mh:∀{i j:Nat} (S:i<=j) (z:j<b.size),bV d (b[i]'∅) b[j]:=λ{i j} S z=>sb i j z S;have rG:∀{i j:Nat} (S:i<=j) (z:j<a.size),bV d (a[i]'∅) a[j]:=λ{i j} S z=>sa i j z S;have hf:∀j (z:j<a.size),bV d b[0] a[j]:=λj z=>h0.trans (rG ∅ z);have I0:gf d a b #[a[a.size-1]] (a.size-1) b.size:=by
  have C:gf d a b #[] a.size b.size:=by
   refine⟨⟨?_,by simp,?_,?_,by simp,by simp⟩,∅,∅⟩
   .simp only[<-jc,JU,gI];exact List.Perm.append (JS _) (JS _)
   .simp only[<-jc,JU,JT];exact sa.pw
   .simp only[<-jc,JU,JT];exact sb.pw
  exact C.pushA ha ∅ λj z _=>hl j z
 unfold HF;refine aP (ue (nZ ⟨rfl,?_⟩));refine aP (fH ∅ ?_);refine cQ (λe1=>aY (h _ _ .rfl (I0.doneA (by simpa using e1)))) λe1=>?_;have um:a.size-1≠0:=by simpa using e1
 refine cQ (λe2=>?_) λe2=>?_
 .have me:b.size=1:=by simpa using e2
  exact aY (h _ _ .rfl (I0.first me hf))
 have me:b.size≠1:=by simpa using e2
 refine aP (l8 ?_);refine aP (g7 (g8 (I:=λx c K=>gS T K/\∃u v q P,c=(ae,v,q,u,P)/\gf d a b u v q/\0<v/\v<=a.size/\1<q/\q<=b.size/\x+1+v+q<=a.size+b.size) (Q:=λc K=>gS T K/\∃r,c.1=aa r/\gU d (a.toList++b.toList) r) ?_ ?_ ?_) ?_);rotate_left
 .rintro c K ⟨_,u,v,q,P,rfl,B,C,N,M,L,W⟩;lia
 .exact⟨.rfl,_,_,_,_,rfl,I0,∅,∅,∅,∅,∅⟩
 .rintro⟨c1,c⟩ K ⟨J,r,rfl,hD⟩;exact aY (h r K J hD)
 rintro x c K _ hx ⟨J,u,v,q,P,rfl,B,C,N,M,L,W⟩;refine aP (g7 (g8 (I:=λy c F=>F=K/\∃u v q H G,c=(ae,v,q,u,H,G)/\gf d a b u v q/\0<v/\v<=a.size/\1<q/\q<=b.size/\x+1+y+v+q<=a.size+b.size) (Q:=λc F=>F=K/\((∃r c',c=(aa r,c')/\gU d (a.toList++b.toList) r)\/∃u v q H G,c=(ae,v,q,u,H,G)/\gf d a b u v q/\0<v/\v<=a.size/\1<q/\q<=b.size/\x+1+1+v+q<=a.size+b.size)) ?_ ?_ ?_) ?_)
 .rintro y c F _ hy ⟨rfl,u,v,q,H,G,rfl,B,C,N,M,L,W⟩;dsimp only;refine aP (fH ∅ (aP (fH ∅ (aP (vU hO (J.sb hk) (hB (q-1) ∅) (hA (v-1) ∅) ?_)))));cases e:d.blt (kO d (b[q-1]'∅)) (kO d (a[v-1]'∅))with
  |true=>
   dsimp only;rw[if_pos rfl];refine aP (fH ∅ ?_);have X:=B.pushA C ∅ λj z fg=>bV.trans (mh (show j<=q-1 by lia) ∅) (l9 e);refine cQ (λO=>?_) λO=>?_
   .exact aY ⟨rfl,.inl ⟨_,_,rfl,X.doneA (by simpa using O)⟩⟩
   have pV:v-1≠0:=by simpa using O
   refine cQ (λe4=>?_) λe4=>?_
   .exact aY ⟨rfl,.inr ⟨_,_,_,_,_,rfl,X,∅,∅,∅,∅,∅⟩⟩
   .exact aY ⟨rfl,_,_,_,_,_,rfl,X,∅,∅,∅,∅,∅⟩
  |false=>
   dsimp only;rw[if_neg (by simp)];refine aP (fH ∅ ?_);have X:=B.pushB ∅ ∅ λj z fg=>bV.trans (rG (show j<=v-1 by lia) ∅) (show bV d (a[v-1]'∅) (b[q-1]'∅)from e);refine cQ (λO=>?_) λO=>?_
   .exact aY ⟨rfl,.inl ⟨_,_,rfl,X.first (by simpa using O) hf⟩⟩
   have pV:q-1≠1:=by simpa using O
   refine cQ (λe4=>?_) λe4=>?_
   .exact aY ⟨rfl,.inr ⟨_,_,_,_,_,rfl,X,∅,∅,∅,∅,∅⟩⟩
   .exact aY ⟨rfl,_,_,_,_,_,rfl,X,∅,∅,∅,∅,∅⟩
 .rintro c F ⟨rfl,u,v,q,H,G,rfl,B,C,N,M,L,W⟩;lia
 .exact⟨rfl,_,_,_,_,_,rfl,B,C,N,M,L,∅⟩
 rintro c F ⟨rfl,⟨r,c',rfl,hD⟩|⟨u,v,q,H,G,rfl,B,C,N,M,L,W⟩⟩
 .exact aY ⟨J,r,rfl,hD⟩
 refine aP (ue (nZ ⟨rfl,?_⟩));refine aP (g7 (g8 (I:=λy c F=>gS T F/\∃u v q P H G,c=(ae,v,q,u,P,H,G)/\gf d a b u v q/\0<v/\v<=a.size/\1<q/\q<=b.size/\x+2+y+v+q<=a.size+b.size) (Q:=λc F=>gS T F/\((∃r c',c=(aa r,c')/\gU d (a.toList++b.toList) r)\/∃u v q P H G,c=(ae,v,q,u,P,H,G)/\gf d a b u v q/\0<v/\v<=a.size/\1<q/\q<=b.size/\x+1+1+v+q<=a.size+b.size)) ?_ ?_ ?_) ?_);rotate_left
 .rintro c F ⟨_,u,v,q,P,H,G,rfl,B,C,N,M,L,W⟩;lia
 .exact⟨J,_,_,_,_,_,_,rfl,B,C,N,M,L,∅⟩
 .rintro c F ⟨J,⟨r,c',rfl,hD⟩|⟨u,v,q,P,H,G,rfl,B,C,N,M,L,W⟩⟩
  .exact aY ⟨J,r,rfl,hD⟩
  .dsimp only;exact aP (AT J λZ D=>aY ⟨D,_,_,_,_,rfl,B,C,N,M,L,∅⟩)
 clear C N M L W B J I0 e1 e2;rintro y c F _ hy ⟨J,u,v,q,P,H,G,rfl,B,C,N,M,L,W⟩;clear hx hy;refine(?_:wpS (ax f w) A E s _ ?Q _);extract_lets -merge x1 x2 x3 x4 x5 x6 x7 x8 x9 xa xb xc jp;have z:∀g Z,gS T Z->wpS (ax f w) A E s (jp () g) ?Q Z:=by
  intro g Z D;dsimp -zeta only[jp,x1,x2,x3,x4,x5,x6,x7,x8,x9,xa,xb,xc];refine aP (AT D λZ D=>?_);refine aP (fH ∅ ?_);refine aP (BS hO (D.sb hk) (base:=0) (n:=v) (hint:=v-1) (hB (q-1) ∅) ∅ hA (λi j S z _=>rG S ∅) ∅ λp ly eJ fP=>?_);dsimp -zeta only;extract_lets -merge y1 y2 jp2;have wN:∀n o,gf d a b o n q->0<n->n<=p->wpS (ax f w) A E s (jp2 () n o) ?Q Z:=by
   intro n o wO pV e4;dsimp -zeta only[jp2,y1,y2];refine aP (fH ∅ ?_);have Y:=wO.pushB ∅ ∅ λj z g=>eJ j z ∅ ∅;refine cQ (λe5=>?_) λe5=>?_
   .exact aY ⟨D,.inl ⟨_,_,rfl,Y.first (by simpa using e5) hf⟩⟩
   have e5':q-1≠1:=by simpa using e5
   refine aP (fH ∅ ?_);refine aP (Bm hO (D.sb hk) (base:=0) (n:=q-1) (hint:=q-1-1) (hA _ _) ∅ hB (λi j S z _=>mh S ∅) ∅ λp' m1 m2 m3=>?_);dsimp -zeta only;extract_lets -merge z1 z2 z3 jp3;have wP:∀m o,gf d a b o n m->1<m->m<=p'->wpS (ax f w) A E s (jp3 () m o) ?Q Z:=by
    intro m o wQ e6 e7;dsimp -zeta only[jp3,z1,z2,z3];refine aP (fH ∅ ?_);have wR:=wQ.pushA ∅ ∅ (λj z g=>l9 (m2 j z ∅ ∅));refine cQ (λe7=>?_) λe7=>?_
    .exact aY ⟨D,.inl ⟨_,_,rfl,wR.doneA (by simpa using e7)⟩⟩
    have e7':n-1≠0:=by simpa using e7
    refine cQ (λe8=>?_) λe8=>?_
    .exact aY ⟨D,.inr ⟨_,_,_,_,_,_,rfl,wR,∅,∅,∅,∅,∅⟩⟩
    .exact aY ⟨D,_,_,_,_,_,_,rfl,wR,∅,∅,∅,∅,∅⟩
   clear_value jp3;refine cQ (λDQ=>?_) (λDQ=>?_)
   .have wQ:=Y.extB (p:=p') ∅ (λi hi g1 g2 j z g3=>bV.trans (rG (show j<=n-1 by lia) ∅) (m3 i hi ∅ ∅));refine cQ (λe6=>?_) λe6=>?_
    .exact aY ⟨D,.inl ⟨_,_,rfl,wQ.first (by simpa using e6) hf⟩⟩
    refine cQ (λe9=>?_) λe9=>?_
    .exact aY ⟨D,.inl ⟨_,_,rfl,wQ.doneB (by simpa using e9)⟩⟩
    have e6':p'≠1:=by simpa using e6
    have e9':p'≠0:=by simpa using e9
    exact wP _ _ wQ ∅ ∅
   .exact wP _ _ Y ∅ ∅
  clear_value jp2;refine cQ (λhk0=>?_) (λhk0=>?_)
  .have wO:gf d a b (u++(a.extract p v).reverse) p q:=B.extA ∅ λi hi g1 g2 j z g3=>bV.trans (mh (show j<=q-1 by lia) ∅) (l9 (fP i hi ∅ ∅));refine cQ (λO=>?_) λO=>?_
   .exact aY ⟨D,.inl ⟨_,_,rfl,wO.doneA (by simpa using O)⟩⟩
   have pV:p≠0:=by simpa using O
   exact wN _ _ wO ∅ ∅
  .exact wN _ _ B ∅ ∅
 exact cQ (λ_=>z _ _ J) λ_=>z _ _ J
end
def putL(a:Array Keyed)(c:Nat)(l:List Keyed):Array Keyed:=l.zipIdx.foldl (λa (b:Keyed×Nat)=>a.setIfInBounds (c+b.2) b.1) a
theorem Ax:∀(l:List Keyed) (n b:Nat) (a:Array Keyed),b+n+l.length<=a.size -> ((l.zipIdx n).foldl (λa (c:Keyed×Nat)=>a.setIfInBounds (b+c.2) c.1) a).size=a.size /\ ∀k,((l.zipIdx n).foldl (λa (c:Keyed×Nat)=>a.setIfInBounds (b+c.2) c.1) a)[k]?=if b+n<=k/\k<b+n+l.length then l[k-(b+n)]? else a[k]?
 |[],n,b,a,_=>⟨rfl,λk=>by rw[if_neg (by simp)];rfl⟩
 |x::l,n,b,a,h=>by
  have g:b+(n+1)+l.length<=(a.setIfInBounds (b+n) x).size:=by simp at h ⊢;lia
  obtain⟨j,i⟩:=Ax l (n+1) b (a.setIfInBounds (b+n) x) g;rw[List.zipIdx_cons,jf];refine⟨by rw[j];simp,λk=>?_⟩;rw[i];by_cases f:b+n=k
  .subst f;rw[if_neg ∅,if_pos (by simp)];rw[Array.getElem?_setIfInBounds_self_of_lt (by simp at h;lia)];simp
  .by_cases d:b+(n+1)<=k/\k<b+(n+1)+l.length
   .rw[if_pos d,if_pos (by simp;lia)];rw[show k-(b+n)=k-(b+(n+1))+1 by lia,JH]
   .rw[if_neg d,if_neg (by simp;lia),Array.getElem?_setIfInBounds_ne f]
theorem Ms{a:Array Keyed}{b:Nat}{l:List Keyed}(h:b+l.length<=a.size):(putL a b l).size=a.size:=(Ax l 0 b a ∅).1
theorem Bv{a:Array Keyed}{b:Nat}{l:List Keyed}(h:b+l.length<=a.size)(k:Nat):(putL a b l)[k]?=if b<=k/\k<b+l.length then l[k-b]? else a[k]? :=(Ax l 0 b a ∅).2 k
theorem RC{a:Array Keyed}{b n:Nat}{l:List Keyed}(h:b+n<=a.size)(d:l.Perm ((a.toList.drop b).take n)):(putL a b l).toList.Perm a.toList:=by
 have f:l.length=n:=by rw[d.length_eq,pi,mL];simp;lia
 have e:(putL a b l).toList=a.toList.take b++(l++a.toList.drop (b+n)):=by
  apply q8;intro k;rw[pE,Bv ∅,List.getElem?_append,List.getElem?_append,pi,JV,C5,f];simp only[jc,pE];rw[show min b a.size=b by lia];by_cases c:k<b
  .rw[if_neg ∅,if_pos c,if_pos c]
  .rw[if_neg c];by_cases i:k<b+n
   .rw[if_pos ∅,if_pos ∅]
   .rw[if_neg ∅,if_neg ∅];congr 1;lia
 rw[e];have g:a.toList=a.toList.take b++((a.toList.drop b).take n++a.toList.drop (b+n)):=by rw[<-List.drop_drop,pA,pA]
 conv=>rhs;rw[g]
 exact zJ _ (List.Perm.append_right _ d)
section
variable{κ:KeyKind}{kz:gZ}
def Run(κ:KeyKind)(a:Array Keyed)(b n:Nat):Prop:=∀i j x y,b<=i->i<=j->j<b+n->a[i]?=aa x->a[j]?=aa y->bV κ x y
theorem bV.refl(x:Keyed):bV κ x x:=mP _
structure Wr(a a':Array Keyed)(lo n:Nat):Prop where
 perm:a'.toList.Perm a.toList
 size:a'.size=a.size
 out:∀k,k<lo\/lo+n<=k->a'[k]?=a[k]?
theorem Run.keep{a m:Array Keyed}{c n b f:Nat}(h:Run κ a c n)(w:Wr a m b f)(d:c+n<=b\/b+f<=c):Run κ m c n:=by intro i j x y q p o l g;rw[w.out i ∅]at l;rw[w.out j ∅]at g;exact h i j x y q p o l g
end
section
variable{b:aV}{w:aL}{A:aX}{E:ai->am->Prop}{s:am}{κ:KeyKind}{kz:gZ}
theorem SD{a:Type}{M:Model}{Q:PUnit->a->Prop}{d c:a}(h:Q ⟨⟩ c):wpS M A E s (set c:StateT a Sem PUnit) Q d:=by unfold wpS;rw[StateT.run_set];exact aG ⟨rfl,h⟩
theorem UJ(a:Array Keyed){p q t:Nat}(d:p<=q)(c:q<=t):(a.extract p q).toList++(a.extract q t).toList=(a.extract p t).toList:=by rw[lK,lK,lK,show t-p=(q-p)+(t-q) by lia,List.take_add,List.drop_drop,show p+(q-p)=q by lia]
theorem TR{a:Array Keyed}{c d o k f:Nat}(Z:c+d+o<=a.size)(hk:k<d)(h0:0<f)(hnb:f<=o)(Y:Run κ a c d)(X:Run κ a (c+d) o)(a1:∀i (l:i<a.size),c<=i->i<c+k->bV κ a[i] (a[c+d]'∅)) (b2:∀i (l:i<a.size),c+d+f<=i->i<c+d+o->bV κ (a[c+d-1]'∅) a[i]){r:Array Keyed} (u:gU κ ((a.extract (c+k) (c+d)).toList++(a.extract (c+d) (c+d+f)).toList) r):Wr a (putL a (c+k) r.toList) c (d+o)/\Run κ (putL a (c+k) r.toList) c (d+o):=by
 rw[UJ _ ∅ ∅]at u;have bD:r.toList.length=d-k+f:=by rw[u.1.length_eq,lK,pi,mL,jc];lia
 have D:c+k+r.toList.length<=a.size:=∅
 have B:∀m∈r.toList,∃t,∃C:t<a.size,c+k<=t/\t<c+d+f/\a[t]=m:=λm B=>Bq ∅ (u.1.mem_iff.mp B);have G:∀{i j:Nat} (z:i<=j) (h:j<c+d),c<=i->bV κ (a[i]'∅) (a[j]'∅):=λ{i j} z h l=>Y i j _ _ l z h (getElem?_pos _ _ _) (getElem?_pos _ _ _);have F:∀{i j:Nat} (z:i<=j) (h:j<c+d+o),c+d<=i->bV κ (a[i]'∅) (a[j]'∅):=λ{i j} z h l=>X i j _ _ l z h (getElem?_pos _ _ _) (getElem?_pos _ _ _);have J:∀i (l:i<a.size) j (h:j<a.size),c<=i->i<c+k->c+d<=j->j<c+d+o->bV κ a[i] a[j]:=λi l j h c1 I N c4=>(a1 i l c1 I).trans (F N c4 (bd _));refine⟨⟨?_,Ms D,λq hq=>?_⟩,?_⟩
 .refine RC (n:=d-k+f) ∅ ?_;have:=u.1;rwa[lK,show c+d+f-(c+k)=d-k+f by lia]at this
 .rw[Bv D,if_neg ∅]
 .intro i j x y h1 K h3 p g;rw[Bv D]at p g;by_cases M:c+k<=i/\i<c+k+r.toList.length
  .rw[if_pos M]at p;obtain⟨t,C,W,T,rfl⟩:=B x (zz p);by_cases v:c+k<=j/\j<c+k+r.toList.length
   .rw[if_pos v]at g;by_cases H:i=j
    .subst H;rw[p]at g;cases g;exact bV.refl _
    .obtain⟨S,Q⟩:=cM.mp p;obtain⟨P,O⟩:=cM.mp g;have:=JQ.mp u.2 (i-(c+k)) (j-(c+k)) S P ∅;rw[Q,O]at this;exact this
   .rw[if_neg v]at g;obtain⟨h,rfl⟩:=qW.mp g;by_cases L:t<c+d
    .exact(G (show t<=c+d-1 by lia) ∅ ∅).trans (b2 j h ∅ ∅)
    .exact F ∅ ∅ ∅
  .rw[if_neg M]at p;obtain⟨l,rfl⟩:=qW.mp p;by_cases v:c+k<=j/\j<c+k+r.toList.length
   .rw[if_pos v]at g;obtain⟨t,C,W,T,rfl⟩:=B y (zz g);by_cases L:t<c+d
    .exact G ∅ L ∅
    .exact J i l t C ∅ ∅ ∅ ∅
   .rw[if_neg v]at g;obtain⟨h,rfl⟩:=qW.mp g;by_cases I:i<c+k
    .by_cases N:j<c+k
     .exact G K ∅ h1
     .exact J i l j h ∅ I ∅ ∅
    .exact F K ∅ ∅
theorem Ex{a:Array Keyed}{d c f:Nat}(p:d+c+f<=a.size)(v:0<c)(q:0<f)(m:Run κ a d c)(l:Run κ a (d+c) f)(r:bV κ (a[d+c-1]'∅) (a[d+c]'∅)):Run κ a d (c+f):=by
 intro i j x y o n z h g;by_cases u:j<d+c
 .exact m i j x y o n u h g
 .by_cases B:i<d+c
  .exact((m i (d+c-1) x _ o ∅ ∅ h (getElem?_pos _ _ _)).trans r).trans (l (d+c) j _ y ∅ ∅ ∅ (getElem?_pos _ _ _) g)
  .exact l i j x y ∅ n ∅ h g
theorem Wr.same{a:Array Keyed}{lo n:Nat}:Wr a a lo n:=⟨qX _,rfl,λ_ _=>rfl⟩
theorem Ry(I:iP κ kz b w A s){m:bQ}(hk:SB kz m)(v:∀i (l:i<(arrOf m).size),hZ κ (arrOf m)[i]){i c a pw f C:Nat}(M:(bA m)[i]?=aa (c,a,pw)) (L:(bA m)[i+1]?=aa (c+a,f,C)) (J:0<a) (D:0<f) (o:c+a+f<=(arrOf m).size)(y:Run κ (arrOf m) c a) (x:Run κ (arrOf m) (c+a) f) {Q:Bool->bQ->Prop}(h:∀q,SB kz q->bA q=((bA m).setIfInBounds i (c,a+f,pw)).eraseIdxIfInBounds (i+1)->Wr (arrOf m) (arrOf q) c (a+f)->Run κ (arrOf q) c (a+f)->Q ah q):wpS (ax b w) A E s (mergeAt' i) Q m:=by
 obtain⟨kd,d,H,mg,fl⟩:=m;have P:kz=kd:=hk.kind.symm;have mU:fl=ae:=hk.failed;subst mU;subst P;replace v:∀i (l:i<d.size),hZ κ d[i]:=v;replace o:c+a+f<=d.size:=o;replace y:Run κ d c a:=y;replace x:Run κ d (c+a) f:=x;replace M:H[i]?=aa (c,a,pw):=M;replace L:H[i+1]?=aa (c+a,f,C):=L;replace h:∀q,SB kz q->bA q=(H.setIfInBounds i (c,a+f,pw)).eraseIdxIfInBounds (i+1)->Wr d (arrOf q) c (a+f)->Run κ (arrOf q) c (a+f)->Q ah q:=h;have g1:∀{i j:Nat} (p:i<=j) (g:j<c+a),c<=i->bV κ (d[i]'∅) (d[j]'∅):=λ{i j} p g l=>y i j _ _ l p g (getElem?_pos _ _ _) (getElem?_pos _ _ _);have g2:∀{i j:Nat} (p:i<=j) (g:j<c+a+f),c+a<=i->bV κ (d[i]'∅) (d[j]'∅):=λ{i j} p g l=>x i j _ _ l p g (getElem?_pos _ _ _) (getElem?_pos _ _ _);unfold mergeAt';refine aP (l8 ?_);dsimp only;rw[M,L];dsimp only;refine aP (SD ?_);generalize (H.setIfInBounds i (c,a+f,pw)).eraseIdxIfInBounds (i+1)=pend at *;refine aP (fH ∅ ?_);refine aP (BS I ⟨rfl,rfl⟩ (base:=c) (n:=a) (hint:=0) (v _ _) ∅ v (λi j p g l=>g1 p g l) J λk m1 Z m3=>?_);dsimp only;refine cQ (λW=>?_) λW=>?_
 .have X:a<=k:=by have:a-k=0:=(by simpa using W);lia
  refine aY (h _ ⟨rfl,rfl⟩ rfl Wr.same (Ex o J D y x (Z _ _ ∅ ∅)))
 have X:k<a:=by have:a-k≠0:=(by simpa using W);lia
 refine aP (fH ∅ ?_);refine aP (Bm I ⟨rfl,rfl⟩ (base:=c+a) (n:=f) (hint:=f-1) (v _ _) ∅ v (λi j p g l=>g2 p g l) ∅ λu n1 Y N=>?_);dsimp only;have F:c+k+(a-k)-1=c+a-1:=∅
 simp only[F]at Y N;refine cQ (λT=>?_) λT=>?_
 .have me:u=0:=by simpa using T
  refine aY (h _ ⟨rfl,rfl⟩ rfl Wr.same (Ex o J D y x (N _ _ ∅ ∅)))
 have me:u≠0:=by simpa using T
 have xs:(d.extract (c+k) (c+a)).size=a-k:=by simp;lia
 have ys:(d.extract (c+a) (c+a+u)).size=u:=by simp;lia
 refine cQ (λ_=>?_) λ_=>?_
 all_goals
  first
   |refine aP (RB I ⟨rfl,rfl⟩ ∅ ∅ ?_ ?_ ?_ ?_ ?_ ?_ ?_)
   |refine aP (NC I ⟨rfl,rfl⟩ ∅ ∅ ?_ ?_ ?_ ?_ ?_ ?_ ?_)
  .intro j g;rw[n9];exact v _ _
  .intro j g;rw[n9];exact v _ _
  .intro i j g p;rw[n9,n9];exact g1 ∅ ∅ ∅
  .intro i j g p;rw[n9,n9];exact g2 ∅ ∅ ∅
  .rw[n9,n9];exact l9 (m3 _ _ ∅ ∅)
  .intro j g;rw[n9,n9];have:=Y (c+a+j) ∅ ∅ ∅;have e:c+k+((d.extract (c+k) (c+a)).size-1)=c+a-1:=∅
   simp only[e];exact l9 this
  .rintro r ⟨O,G,K,mg',S⟩ ⟨B,z,c3,c4⟩ hD;change O=kz at B;change G=d at z;change K=pend at c3;change S=ae at c4;subst B z c3 c4;refine aP (n8 ?_);refine aP (l8 ?_);obtain⟨w1,w2⟩:=TR o X ∅ n1 y x (λi l B z=>Z i l B z) (λi l B z=>N i l B z) hD;exact aY (h _ ⟨rfl,rfl⟩ rfl w1 w2)
end
section
variable{κ:KeyKind}{kz:gZ}
theorem AJ{a:Array Keyed}{i:Nat}{x:Keyed}(h:a[i]?=aa x):KK κ a i=kO κ x:=by unfold KK kO;rw[h]
theorem sU{a:Array Keyed}{i:Nat}(h:i<a.size):KK κ a i=kO κ a[i]:=AJ (getElem?_pos _ _ _)
def iA(κ:KeyKind)(a:Array Keyed)(lo n:Nat):Prop:=∀i j,lo<=i->i<=j->j<lo+n->κ.kle (KK κ a i) (KK κ a j)
def oC(κ:KeyKind)(a:Array Keyed)(lo n:Nat):Prop:=∀i j,lo<=i->i<=j->j<lo+n->κ.kle (KK κ a j) (KK κ a i)
theorem iA.run{a:Array Keyed}{b n:Nat}(h:iA κ a b n):Run κ a b n:=by intro i j x y l g f d c;have:=h i j l g f;rw[AJ d,AJ c]at this;exact this
theorem Wr.trans{a b c:Array Keyed}{d n:Nat}(g:Wr a b d n)(f:Wr b c d n):Wr a c d n :=⟨f.perm.trans g.perm,f.size.trans g.size,λk h=>(f.out k h).trans (g.out k h)⟩
theorem Wr.mono{a b:Array Keyed}{d n c f:Nat}(h:Wr a b d n)(j:c<=d)(i:d+n<=c+f):Wr a b c f :=⟨h.perm,h.size,λk g=>h.out k ∅⟩
theorem KI{a:Array Keyed}{i j:Nat}(b:j<=a.size)(d:i<=j):Wr a (mirror a i j ((j-i) / 2)) i (j-i) :=⟨Dj.mp (mirror_perm _ _ _ _),mirror_size _ _ _ _,λk c=>by rw[getElem?_mirror_all b,if_neg ∅]⟩
theorem O_{a:Array Keyed}{b d:Nat}(c:b<a.size)(f:d<=b):Wr a (bubble a b d) (b-d) (d+1) :=⟨Dj.mp (bubble_perm _ _ _),bubble_size _ _ _,λk g=>by rw[getElem?_bubble c d f,if_neg ∅,if_neg ∅]⟩
def AllK(κ:KeyKind)(a:Array Keyed):Prop:=∀i (b:i<a.size),hZ κ a[i]
theorem AllK.of{a b:Array Keyed}(h:AllK κ a)(p:b.toList.Perm a.toList):AllK κ b:=by intro i f;have c:b[i]∈a.toList:=p.mem_iff.mp (by simp);obtain⟨j,d,e⟩:=zP c;rw[<-e];simpa using h j (by simpa using d)
end
section
variable{d:aV}{w:aL}{A:aX}{E:ai->am->Prop}{s:am}{κ:KeyKind}{f:gZ}
theorem qb(m:iP κ f d w A s){a:bQ}(l:SB f a)(g:AllK κ (arrOf a)){i j:Nat}{Q:Option Bool->bQ->Prop}(c:i<(arrOf a).size)(b:j<(arrOf a).size)(h:Q (aa (κ.blt (KK κ (arrOf a) i) (KK κ (arrOf a) j))) a):wpS (ax d w) A E s (ltAt' i j) Q a:=by rw[sU c,sU b]at h;rw[ltAt'_eq];refine aP (l8 ?_);exact aP (fH c (aP (fH b (vU m l (g i c) (g j b) h))))
theorem vn{b a:bQ}{lo n i j:Nat}{Q:Unit->bQ->Prop}(m:SB f a)(o:bA a=bA b)(l:Wr (arrOf b) (arrOf a) lo n)(r:i<=j)(p:j<=(arrOf b).size)(q:lo<=i)(u:j<=lo+n)(h:∀c,SB f c->bA c=bA b->Wr (arrOf b) (arrOf c) lo n->(∀k,KK κ (arrOf c) k=if i<=k/\k<j then KK κ (arrOf a) (i+j-1-k)else KK κ (arrOf a) k)->Q () c):wpS (ax d w) A E s (reverseSlice' i j) Q a:=by
 have g:j<=(arrOf a).size:=by rw[l.size];exact p
 exact wpS_reverse (h _ ⟨m.kind,m.failed⟩ o (l.trans ((KI g r).mono q ∅)) λk=>KK_mirror g k)
theorem UE{i:Type}{c:Prop}[Decidable c]{j h:StateT bQ Sem i}{Q:i->bQ->Prop}{g:bQ}{J:bQ->Prop}(l:¬c->J g)(a:∀b,J b->wpS (ax d w) A E s h Q b)(m:c->(∀b,J b->wpS (ax d w) A E s h Q b)->wpS (ax d w) A E s j Q g):wpS (ax d w) A E s (if c then j else h) Q g :=cQ (λe=>m e a) λe=>a g (l e)
theorem Bn{a:Array Keyed}{lo x:Nat}(b:iA κ a lo x)(h:1<=x)(e:κ.kle (KK κ a (lo+x-1)) (KK κ a (lo+x))):iA κ a lo (x+1):=λi j c n o=>by
 by_cases l:j<lo+x
 .exact b i j c n l
 .have g:j=lo+x:=∅
  subst g;by_cases m:i=lo+x
  .subst m;exact mP _
  .exact uf (b i (lo+x-1) c ∅ ∅) e
theorem El{a:Array Keyed}{lo x:Nat}(b:oC κ a lo x)(h:1<=x)(e:κ.kle (KK κ a (lo+x)) (KK κ a (lo+x-1))):oC κ a lo (x+1):=λi j c n o=>by
 by_cases l:j<lo+x
 .exact b i j c n l
 .have g:j=lo+x:=∅
  subst g;by_cases m:i=lo+x
  .subst m;exact mP _
  .exact uf e (b i (lo+x-1) c ∅ ∅)
theorem Oi{a:Array Keyed}{lo x b:Nat}(g:∀i,lo+x-(b+1)<=i->i<lo+x->KK κ a i=KK κ a (lo+x-1))(h:KK κ a (lo+x)=KK κ a (lo+x-1)):∀i,lo+(x+1)-(b+1+1)<=i->i<lo+(x+1)->KK κ a i=KK κ a (lo+(x+1)-1):=λi l j=>by
 rw[show lo+(x+1)-1=lo+x by lia];by_cases c:i=lo+x
 .rw[c]
 .rw[g i ∅ ∅,h]
theorem E_{a b:Array Keyed}{i j n:Nat}(g:∀k,KK κ b k=if i<=k/\k<j then KK κ a (i+j-1-k)else KK κ a k)(c:∀k,i<=k->k<j->KK κ a k=KK κ a n):∀k,KK κ b k=KK κ a k:=λk=>by
 rw[g];split
 .rw[c _ ∅ ∅,c k ∅ ∅]
 .rfl
theorem LK(P:iP κ f d w A s){v:bQ}(O:SB f v)(S:AllK κ (arrOf v)){lo a:Nat}(h1:1<=a)(hsz:lo+a<=(arrOf v).size){Q:Option Nat->bQ->Prop}(h:∀n p,SB f p->bA p=bA v->Wr (arrOf v) (arrOf p) lo a->1<=n->n<=a->iA κ (arrOf p) lo n->Q (aa n) p):wpS (ax d w) A E s (countRun' lo a) Q v:=by
 have one:iA κ (arrOf v) lo 1:=λi j r y D=>by
  have:i=j:=∅
  subst this;exact mP _
 have go:∀{u:bQ},Wr (arrOf v) (arrOf u) lo a->(arrOf u).size=(arrOf v).size:=λw=>w.size;unfold countRun';refine aP (g7 (g8 (I:=λx c g=>g=v/\c=(ae,x)/\iA κ (arrOf v) lo x) (Q:=λc g=>g=v/\∃n,c=(ae,n)/\1<=n/\n<=a/\iA κ (arrOf v) lo n/\(n=a\/κ.klt (KK κ (arrOf v) (lo+n)) (KK κ (arrOf v) (lo+n-1)))) ?_ ?_ ?_) ?_)
 .rintro x c g pR mj ⟨rfl,rfl,o⟩;dsimp only;refine aP (qb P O S ∅ ∅ ?_);cases e:κ.blt (KK κ (arrOf g) (lo+x)) (KK κ (arrOf g) (lo+x-1))with
  |true=>exact aY ⟨rfl,x,rfl,∅,∅,o,.inr e⟩
  |false=>exact aY ⟨rfl,rfl,Bn o ∅ e⟩
 .rintro c g ⟨rfl,rfl,o⟩;rw[show max 1 a=a by lia]at o ⊢;exact⟨rfl,a,rfl,∅,∅,o,.inl rfl⟩
 .exact⟨rfl,rfl,one⟩
 rintro c p ⟨rfl,n,rfl,n1,n2,o,hn⟩;dsimp only;refine cQ (λe1=>aY (h n p O rfl Wr.same n1 n2 o)) λe1=>?_;have um:n≠a:=by simpa using e1
 replace hn:κ.klt (KK κ (arrOf p) (lo+n)) (KK κ (arrOf p) (lo+n-1)):=hn.resolve_left um;refine UE (J:=λC=>SB f C/\bA C=bA p/\Wr (arrOf p) (arrOf C) lo a/\oC κ (arrOf C) lo (n+1)) (λen=>⟨O,rfl,Wr.same,λi j r y D=>?_⟩) (λC ⟨eJ,f9,uq,hD⟩=>?_) λen key=>?_
 .have en':n=1:=∅
  by_cases hi:i=j
  .subst hi;exact mP _
  .have e1:i=lo+n-1:=∅
   have e2:j=lo+n:=∅
   rw[e1,e2];exact l9 hn
 .refine aP (ue (nZ ⟨rfl,?_⟩));refine aP (g7 (g8 (I:=λx c l=>∃b,c=(ae,x,b)/\SB f l/\bA l=bA p/\Wr (arrOf p) (arrOf l) lo a/\oC κ (arrOf l) lo x/\b+1<=x/\(∀i,lo+x-(b+1)<=i->i<lo+x->KK κ (arrOf l) i=KK κ (arrOf l) (lo+x-1))) (Q:=λc l=>∃m b,c=(ae,m,b)/\SB f l/\bA l=bA p/\Wr (arrOf p) (arrOf l) lo a/\1<=m/\m<=a/\oC κ (arrOf l) lo m/\b+1<=m/\(∀i,lo+m-(b+1)<=i->i<lo+m->KK κ (arrOf l) i=KK κ (arrOf l) (lo+m-1))) ?_ ?_ ?_) ?_)
  .rintro x c l pR mj ⟨b,rfl,B,G,z,F,hq,H⟩;have sz3:=z.size;dsimp only;refine aP (qb P B (S.of z.perm) ∅ ∅ ?_);cases e3:κ.blt (KK κ (arrOf l) (lo+x)) (KK κ (arrOf l) (lo+x-1))with
   |true=>
    have ui:oC κ (arrOf l) lo (x+1):=El F ∅ (l9 e3);dsimp only;rw[if_pos rfl];refine cQ (λDU=>?_) λDU=>?_
    .refine aP (vn (κ:=κ) (lo:=lo) (n:=a) B G z ∅ ∅ ∅ ∅ λbZ Z iW X DV=>?_);have W:=E_ DV H;exact aY ⟨0,rfl,Z,iW,X,λi j r y D=>by rw[W,W];exact ui i j r y D,∅,λi r y=>by congr 1;lia⟩
    .exact aY ⟨0,rfl,B,G,z,ui,∅,λi r y=>by congr 1;lia⟩
   |false=>
    dsimp only;rw[if_neg (by simp)];refine aP (qb P B (S.of z.perm) ∅ ∅ ?_);cases e4:κ.blt (KK κ (arrOf l) (lo+x-1)) (KK κ (arrOf l) (lo+x))with
    |true=>exact aY ⟨x,b,rfl,B,G,z,∅,∅,F,hq,H⟩
    |false=>have ex:KK κ (arrOf l) (lo+x)=KK κ (arrOf l) (lo+x-1):=KeyOrd.kle_antisymm e4 e3;exact aY ⟨b+1,rfl,B,G,z,El F ∅ (by rw[ex];exact mP _),∅,Oi H ex⟩
  .rintro c l ⟨b,rfl,B,G,z,F,hq,H⟩;rw[show max (n+1) a=a by lia]at F hq H ⊢;exact⟨a,b,rfl,B,G,z,∅,∅,F,hq,H⟩
  .exact⟨0,rfl,eJ,f9,uq,hD,∅,λi r y=>by congr 1;lia⟩
  rintro c l ⟨m,b,rfl,B,G,z,m1,m2,F,hq,H⟩;dsimp only;refine cQ (λDU=>?_) λDU=>?_
  .refine aP (vn (κ:=κ) (lo:=lo) (n:=a) B G z ∅ ∅ ∅ ∅ λbZ Z iW X DV=>?_);have W:=E_ DV H;have wS:oC κ (arrOf bZ) lo m:=λi j r y D=>by rw[W,W];exact F i j r y D
   refine aP (vn (κ:=κ) (lo:=lo) (n:=a) Z iW X ∅ ∅ ∅ ∅ λu Y N K T=>?_);have M:iA κ (arrOf u) lo m:=λi j r y D=>by rw[T,T,if_pos ⟨r,∅⟩,if_pos ⟨∅,D⟩];exact wS _ _ ∅ ∅ ∅
   have sz5:=K.size;refine aP (g7 (g8 (I:=λx c g=>g=u/\c=(ae,x)/\iA κ (arrOf u) lo x) (Q:=λc g=>g=u/\∃n,c=(ae,n)/\1<=n/\n<=a/\iA κ (arrOf u) lo n/\(n=a\/κ.klt (KK κ (arrOf u) (lo+n)) (KK κ (arrOf u) (lo+n-1)))) ?_ ?_ ?_) ?_)
   .rintro x c g pR mj ⟨rfl,rfl,o⟩;dsimp only;refine aP (qb P Y (S.of K.perm) ∅ ∅ ?_);cases e:κ.blt (KK κ (arrOf g) (lo+x)) (KK κ (arrOf g) (lo+x-1))with
    |true=>exact aY ⟨rfl,x,rfl,∅,∅,o,.inr e⟩
    |false=>exact aY ⟨rfl,rfl,Bn o ∅ e⟩
   .rintro c g ⟨rfl,rfl,o⟩;rw[show max m a=a by lia]at o ⊢;exact⟨rfl,a,rfl,∅,∅,o,.inl rfl⟩
   .exact⟨rfl,rfl,M⟩
   rintro c g ⟨rfl,q,rfl,q1,q2,L,_⟩;exact aY (h q g Y N K q1 q2 L)
  .have Z:=B;have iW:=G;have X:=z;have wS:=F;refine aP (vn (κ:=κ) (lo:=lo) (n:=a) Z iW X ∅ ∅ ∅ ∅ λu Y N K T=>?_);have M:iA κ (arrOf u) lo m:=λi j r y D=>by rw[T,T,if_pos ⟨r,∅⟩,if_pos ⟨∅,D⟩];exact wS _ _ ∅ ∅ ∅
   have sz5:=K.size;refine aP (g7 (g8 (I:=λx c g=>g=u/\c=(ae,x)/\iA κ (arrOf u) lo x) (Q:=λc g=>g=u/\∃n,c=(ae,n)/\1<=n/\n<=a/\iA κ (arrOf u) lo n/\(n=a\/κ.klt (KK κ (arrOf u) (lo+n)) (KK κ (arrOf u) (lo+n-1)))) ?_ ?_ ?_) ?_)
   .rintro x c g pR mj ⟨rfl,rfl,o⟩;dsimp only;refine aP (qb P Y (S.of K.perm) ∅ ∅ ?_);cases e:κ.blt (KK κ (arrOf g) (lo+x)) (KK κ (arrOf g) (lo+x-1))with
    |true=>exact aY ⟨rfl,x,rfl,∅,∅,o,.inr e⟩
    |false=>exact aY ⟨rfl,rfl,Bn o ∅ e⟩
   .rintro c g ⟨rfl,rfl,o⟩;rw[show max m a=a by lia]at o ⊢;exact⟨rfl,a,rfl,∅,∅,o,.inl rfl⟩
   .exact⟨rfl,rfl,M⟩
   rintro c g ⟨rfl,q,rfl,q1,q2,L,_⟩;exact aY (h q g Y N K q1 q2 L)
 .refine aP (qb P O S ∅ ∅ ?_);cases e2:κ.blt (KK κ (arrOf p) lo) (KK κ (arrOf p) (lo+n-1))with
  |true=>exact aY (h n p O rfl Wr.same n1 n2 o)
  |false=>
   dsimp only;rw[if_neg (by simp)];have hall:∀i,lo<=i->i<lo+n->KK κ (arrOf p) i=KK κ (arrOf p) lo:=λi r y=>KeyOrd.kle_antisymm (uf (o i (lo+n-1) r ∅ ∅) e2) (o lo i (bd _) r y);refine aP (vn (κ:=κ) (lo:=lo) (n:=a) O rfl Wr.same ∅ ∅ ∅ ∅ λC eJ f9 uq mn=>?_);have hD:oC κ (arrOf C) lo (n+1):=by
    have hv:∀i,lo<=i->i<lo+n->KK κ (arrOf C) i=KK κ (arrOf p) lo:=λi r y=>by rw[mn,if_pos ⟨r,y⟩];exact hall _ ∅ ∅
    have hl:κ.klt (KK κ (arrOf C) (lo+n)) (KK κ (arrOf p) lo):=by rw[mn,if_neg ∅,<-hall (lo+n-1) ∅ ∅];exact hn
    intro i j r y D;by_cases hj:j<lo+n
    .rw[hv i r ∅,hv j ∅ hj];exact mP _
    .have kK:j=lo+n:=∅
     subst kK;by_cases hi:i=lo+n
     .subst hi;exact mP _
     .rw[hv i r ∅];exact l9 hl
   exact key C ⟨eJ,f9,uq,hD⟩
theorem QR{g c:bQ}{lo n a b:Nat}{Q:Unit->bQ->Prop}(m:SB f c)(o:bA c=bA g)(l:Wr (arrOf g) (arrOf c) lo n)(u:b<=a)(p:a<(arrOf g).size)(r:lo<=b)(q:a<lo+n)(h:∀i,SB f i->bA i=bA g->Wr (arrOf g) (arrOf i) lo n->(∀k,KK κ (arrOf i) k=if k=b then KK κ (arrOf c) a else if b<k/\k<=a then KK κ (arrOf c) (k-1)else KK κ (arrOf c) k)->Q () i):wpS (ax d w) A E s (moveDown' a b) Q c:=by
 have j:a<(arrOf c).size:=by rw[l.size];exact p
 rw[moveDown'_eq];refine n8 (h _ ⟨m.kind,m.failed⟩ o (l.trans ((O_ j (show a-b<=a by lia)).mono ∅ ∅)) λk=>?_);have:=KK_bubble (κ:=κ) j (show a-b<=a by lia) k;rw[show a-(a-b)=b by lia]at this;exact this
theorem K0(O:iP κ f d w A s){b:bQ}(N:SB f b)(P:AllK κ (arrOf b)){lo n ok:Nat}(M:ok<=n)(K:lo+n<=(arrOf b).size)(L:iA κ (arrOf b) lo ok){Q:Bool->bQ->Prop}(h:∀y,SB f y->bA y=bA b->Wr (arrOf b) (arrOf y) lo n->iA κ (arrOf y) lo n->Q ah y):wpS (ax d w) A E s (binarySort' lo n ok) Q b:=by
 unfold binarySort';refine aP (g7 (g8 (I:=λk c a=>c=(ae,())/\SB f a/\bA a=bA b/\Wr (arrOf b) (arrOf a) lo n/\iA κ (arrOf a) lo (min k n)) (Q:=λc a=>c=(ae,())/\SB f a/\bA a=bA b/\Wr (arrOf b) (arrOf a) lo n/\iA κ (arrOf a) lo n) ?_ ?_ ?_) ?_)
 .rintro k c a Z eJ ⟨rfl,p,v,o,g⟩;have sz:=o.size;rw[show min k n=k by lia]at g;refine aP (g7 (g8 (I:=λx c m=>m=a/\∃l r,c=(ae,l,r)/\l<=r/\r<=k/\r-l<=k-x /\ (∀i,i<l->κ.kle (KK κ (arrOf a) (lo+i)) (KK κ (arrOf a) (lo+k)))/\(∀i,r<=i->i<k->κ.klt (KK κ (arrOf a) (lo+k)) (KK κ (arrOf a) (lo+i)))) (Q:=λc m=>m=a/\∃l r,c=(ae,l,r)/\l<=k /\ (∀i,i<l->κ.kle (KK κ (arrOf a) (lo+i)) (KK κ (arrOf a) (lo+k)))/\(∀i,l<=i->i<k->κ.klt (KK κ (arrOf a) (lo+k)) (KK κ (arrOf a) (lo+i)))) ?_ ?_ ?_) ?_)
  .rintro x c m _ hx ⟨rfl,l,r,rfl,Y,z,X,u,q⟩;dsimp only;refine cQ (λH=>?_) λH=>?_
   .have:l=r:=∅
    subst this;exact aY ⟨rfl,l,l,rfl,z,u,q⟩
   .refine aP (qb O p (P.of o.perm) ∅ ∅ ?_);cases e:κ.blt (KK κ (arrOf m) (lo+k)) (KK κ (arrOf m) (lo+(l+r) / 2))with
    |true=>exact aY ⟨rfl,l,(l+r) / 2,rfl,∅,∅,∅,u,λi C S=>KeyOrd.klt_of_klt_of_kle e (g _ _ ∅ ∅ ∅)⟩
    |false=>exact aY ⟨rfl,(l+r) / 2+1,r,rfl,∅,∅,∅,λi C=>uf (g (lo+i) (lo+(l+r) / 2) ∅ ∅ ∅) e,q⟩
  .rintro c m ⟨rfl,l,r,rfl,Y,z,X,u,q⟩;have:l=r:=∅
   subst this;exact⟨rfl,l,l,rfl,z,u,q⟩
  .exact⟨rfl,0,k,rfl,∅,∅,∅,λi hi=>∅,λi C S=>∅⟩
  .rintro c m ⟨rfl,l,r,rfl,z,u,q⟩;dsimp only;refine aP (QR (κ:=κ) (lo:=lo) (n:=n) p v o ∅ ∅ ∅ ∅ λbO B T J D=>aY ⟨rfl,B,T,J,?_⟩);rw[show min (k+1) n=k+1 by lia];intro i j G F W;rw[D,D]
   repeat' split
   all_goals first
    | (exfalso;lia)
    |exact mP _
    | (have:=u (i-lo) ∅;rw[show lo+(i-lo)=i by lia]at this;exact this)
    | (have:=q (j-1-lo) ∅ ∅;rw[show lo+(j-1-lo)=j-1 by lia]at this;exact l9 this)
    |exact g _ _ ∅ ∅ ∅
 .rintro c a ⟨rfl,p,v,o,g⟩;rw[show min (max (max ok 1) n) n=n by lia]at g;exact⟨rfl,p,v,o,g⟩
 .refine⟨rfl,N,rfl,Wr.same,λi j G F W=>?_⟩;by_cases C:ok=0
  .have:i=j:=∅
   subst this;exact mP _
  .exact L i j G F ∅
 .rintro c a ⟨rfl,p,v,o,g⟩;exact aY (h a p v o g)
end
theorem QJ{c:Prop}[Decidable c]{a b n:Nat}(f:a+1<n)(d:b+1<n):(if c then a else b)+1<n:=by split <;> assumption
def lg:Nat->List (Nat×Nat)->Nat->Prop
 |f,[],t=>f=t
 |f,(a,n)::l,t=>a=f/\0<n/\lg (f+n) l t
theorem lg.app:∀{l1:List (Nat×Nat)}{f t:Nat}{b:List (Nat×Nat)},lg f (l1++b) t↔∃m,lg f l1 m/\lg m b t
 |[],f,t,b=>by simp[lg]
 | (a,n)::l1,f,t,b=>by
  simp only[wu,lg,lg.app (l1:=l1)];constructor
  .rintro⟨h,g,m,d,c⟩;exact⟨m,⟨h,g,d⟩,c⟩
  .rintro⟨m,⟨h,g,d⟩,c⟩;exact⟨h,g,m,d,c⟩
theorem lg.le:∀{l:List (Nat×Nat)}{f t:Nat},lg f l t->f+l.length<=t/\∀e∈l,f<=e.1/\e.1+e.2<=t
 |[],f,t,h=>⟨by cases h;simp,by simp⟩
 | (a,n)::l,f,t,⟨g,j,d⟩=>by
  obtain⟨i,c⟩:=lg.le d;refine⟨by simp;lia,λe b=>?_⟩;rcases bI.mp b with rfl|b
  .subst g;exact⟨bd _,by simp;lia⟩
  .have:=c e b;exact⟨∅,this.2⟩
def PL(a:Array (Nat×Nat×Nat)):List (Nat×Nat):=a.toList.map λe=>(e.1,e.2.1)
structure i7(κ:KeyKind)(arr:Array Keyed)(pd:Array (Nat×Nat×Nat))(lo:Nat):Prop where
 ch:lg 0 (PL pd) lo
 run:∀e∈PL pd,Run κ arr e.1 e.2
theorem yI(a:Array (Nat×Nat×Nat)):(PL a).length=a.size:=by simp[PL]
theorem oF(a:Array (Nat×Nat×Nat))(e:Nat×Nat×Nat):PL (a.push e)=PL a++[(e.1,e.2.1)]:=by simp[PL]
theorem ye(a:Array (Nat×Nat×Nat))(k pw:Nat):PL (a.modify k λx=>(x.1,x.2.1,pw))=PL a:=by
 apply q8;intro i;simp only[PL,eR,pE,Array.getElem?_modify];split
 .cases a[i]? <;> rfl
 .rfl
theorem Pg{j:Array (Nat×Nat×Nat)}{i:Nat}(h:i+1<j.size):∃a f b d g sb c m,j[i]?=aa (b,d,g)/\j[i+1]?=aa (sb,c,m)/\PL j=a++(b,d)::(sb,c)::f /\ PL ((j.setIfInBounds i (b,d+c,g)).eraseIdxIfInBounds (i+1))=a++(b,d+c)::f:=by
 obtain⟨l⟩:=j;simp only[cH]at h;have e:l=l.take i++l[i]::l[i+1]::l.drop (i+2):=by rw[<-uc,<-uc,pA]
 obtain⟨a,x,y,f,n,p⟩:∃a x y f,a.length=i/\l=a++x::y::f:=⟨l.take i,l[i],l[i+1],l.drop (i+2),by simp;lia,e⟩
 subst n p;obtain⟨b,d,g⟩:=x;obtain⟨sb,c,m⟩:=y;refine⟨a.map λe=>(e.1,e.2.1),f.map λe=>(e.1,e.2.1),b,d,g,sb,c,m,by simp,by simp[qQ],by simp[PL],?_⟩;have o:((a++(b,d,g)::(sb,c,m)::f).toArray.setIfInBounds a.length (b,d+c,g)).eraseIdxIfInBounds (a.length+1)=(a++(b,d+c,g)::f).toArray:=by rw[List.setIfInBounds_toArray,List.set_append_right _ _ (bd _),List.eraseIdxIfInBounds_toArray];congr 1;rw[List.eraseIdx_append_of_length_le ∅];simp
 rw[o];simp[PL]
section
variable{prog:aV}{w:aL}{A:aX}{E:ai->am->Prop}{s:am}{κ:KeyKind}{kz:gZ}
theorem i7.keep{a f:Array Keyed}{c:Array (Nat×Nat×Nat)}{b n:Nat}(h:i7 κ a c b)(w:Wr a f b n):i7 κ f c b :=⟨h.ch,λe d=>(h.run e d).keep w (.inl (h.ch.le.2 e d).2)⟩
theorem Bz(I:iP κ kz prog w A s){a:bQ}(G:SB kz a)(J:AllK κ (arrOf a)){i l:Nat}(g:i7 κ (arrOf a) (bA a) l)(F:l<=(arrOf a).size)(H:i+1<(bA a).size){Q:Bool->bQ->Prop}(h:∀c,SB kz c->Wr (arrOf a) (arrOf c) 0 l->i7 κ (arrOf c) (bA c) l->(bA c).size+1=(bA a).size->Q ah c):wpS (ax prog w) A E s (mergeAt' i) Q a:=by
 obtain⟨X,W,f,j,T,sb,u,S,L,K,d,p⟩:=Pg H;have v:=g.ch;rw[d]at v;obtain⟨m,y,P,O,N,M,x⟩:=lg.app.mp v;subst P N;have b1:=y.le;have b2:=x.le;have B:Run κ (arrOf a) f j:=g.run (f,j) (by rw[d];simp);have z:Run κ (arrOf a) (f+j) u:=g.run (f+j,u) (by rw[d];simp);refine Ry I G J L K O M ∅ B z λc C n o D=>h c C (o.mono ∅ ∅) ⟨?_,?_⟩ ?_
 .rw[n,p];exact lg.app.mpr ⟨f,y,rfl,∅,by rw[<-Dc];exact x⟩
 .rw[n,p];intro e b;rcases kB.mp b with b|b
  .exact(g.run e (by rw[d];exact pc _ b)).keep o (.inl (b1.2 e b).2)
  .rcases bI.mp b with rfl|b
   .exact D
   .exact(g.run e (by rw[d];simp[b])).keep o (.inr (by have:=(b2.2 e b).1;lia))
 .have r:=yI (bA c);have q:=yI (bA a);rw[n,p]at r;rw[d]at q;rw[n,<-r,<-q];simp;lia
theorem LZ(hO:iP κ kz prog w A s){st:bQ}(hk:SB kz st)(hA:AllK κ (arrOf st))(hp:bA st=#[]){Q:Unit->bQ->Prop}(h:∀aA,SB kz aA->(arrOf aA).toList.Perm (arrOf st).toList->Run κ (arrOf aA) 0 (arrOf st).size->Q () aA):wpS (ax prog w) A E s sortRuns' Q st:=by
 unfold sortRuns';refine aP (l8 ?_);dsimp only;obtain⟨b,U0⟩:∃b,b=(arrOf st).size:=⟨_,rfl⟩
 have UU:((sortPriv% PySem.Builtin.SortState.a) st).size=b:=U0.symm;simp only[UU];refine aP (g7 (g8 (I:=λx c o=>∃f,c=(ae,f)/\x<=f/\f<=b/\SB kz o/\(arrOf o).toList.Perm (arrOf st).toList/\(arrOf o).size=b/\i7 κ (arrOf o) (bA o) f) (Q:=λc o=>c=(ae,b)/\SB kz o/\(arrOf o).toList.Perm (arrOf st).toList/\(arrOf o).size=b/\i7 κ (arrOf o) (bA o) b) ?_ ?_ ?_) ?_);rotate_left
 .rintro c o ⟨f,rfl,b1,b2,ly,L,S,O⟩;have:f=b:=∅
  subst this;exact⟨rfl,ly,L,S,O⟩
 .exact⟨0,rfl,∅,∅,hk,qX _,U0.symm,by rw[hp];exact⟨rfl,by simp[PL]⟩⟩
 .rintro c o ⟨rfl,ly,L,S,O⟩;dsimp only;refine aP (g7 (g8 (I:=λx c l=>c=(ae,())/\SB kz l/\(arrOf l).toList.Perm (arrOf st).toList/\(arrOf l).size=b/\i7 κ (arrOf l) (bA l) b/\(bA l).size+x<=b+1) (Q:=λc l=>c=(ae,())/\SB kz l/\(arrOf l).toList.Perm (arrOf st).toList/\(arrOf l).size=b/\i7 κ (arrOf l) (bA l) b/\(bA l).size<=1) ?_ ?_ ?_) ?_)
  .rintro x c l _ hx ⟨rfl,F,f9,wU,P,hb⟩;refine aP (l8 ?_);refine cQ (λe1=>aY ⟨rfl,F,f9,wU,P,e1⟩) λe1=>?_;have um:1<(bA l).size:=Nat.lt_of_not_le e1;refine aP (Bz hO F (hA.of f9) P ∅ ?_ λN M j7 G hq=>?_)
   .exact QJ (show(bA l).size-2-1+1<(bA l).size by lia) (show(bA l).size-2+1<(bA l).size by lia)
   .exact aY ⟨rfl,M,j7.perm.trans f9,j7.size.trans wU,G,∅⟩
  .rintro c l ⟨rfl,F,f9,wU,P,hb⟩;exact⟨rfl,F,f9,wU,P,∅⟩
  .have:=O.ch.le.1;rw[yI]at this;exact⟨rfl,ly,L,S,O,∅⟩
  .rintro c l ⟨rfl,F,f9,wU,P,hb⟩;refine aY (h l F f9 ?_);rw[<-U0];have hc:=P.ch;have hr:=P.run;have hl:=yI (bA l)
   match hq:PL (bA l),hc,hr,hl with
   |[],hc,hr,hl=>
    cases hc;intro i j x y a1 a2 a3;lia
   |[(a,n)],hc,hr,hl=>
    obtain⟨d1,d2,d3⟩:=hc;cases d1;have d3':0+n=b:=d3;have:=hr (0,n) (by simp);rw[show b=n by lia];exact this
   |_::_::_,hc,hr,hl=>simp at hl;lia
 rintro x c o _ hx ⟨f,rfl,b1,b2,ly,L,S,O⟩;dsimp only;refine cQ (λe1=>?_) λe1=>?_
 .have:f=b:=∅
  subst this;exact aY ⟨rfl,ly,L,S,O⟩
 refine aP (LK hO ly (hA.of L) ∅ ∅ λr l F wX uq f1 f2 pN=>?_);dsimp only;refine cQ (λe2=>?_) λe2=>?_
 .refine aP (ue (nZ ⟨rfl,?_⟩));refine aP (K0 hO F ((hA.of L).of uq.perm) ∅ (by rw[uq.size];lia) pN λN M hq3 j7 Y=>?_);rw[if_neg (by simp)];have K:Wr (arrOf o) (arrOf N) f (b-f):=uq.trans (j7.mono ∅ ∅);have wY:bA N=bA o:=hq3.trans wX;generalize hn:min (b-f) _=n at *;have n1:0<n:=∅
  have n2:f+n<=b:=∅
  clear F uq pN wX j7 hq3;have G:i7 κ (arrOf N) (bA N) f:=by rw[wY];exact O.keep K
  have gu:(arrOf N).toList.Perm (arrOf st).toList:=K.perm.trans L;have pK:(arrOf N).size=b:=K.size.trans S;have hR:Run κ (arrOf N) f n:=Y.run;clear K wY;refine aP (l8 ?_);obtain⟨kd,arr,W,mg,fl⟩:=N;dsimp only;cases hbk:W.back? with
  |none=>
   dsimp only;refine aP (n8 (aY ⟨f+n,rfl,∅,n2,⟨M.kind,M.failed⟩,gu,pK,?_⟩));refine⟨?_,?_⟩
   .show lg 0 (PL (W.push (f,n,0))) _;rw[oF];exact lg.app.mpr ⟨f,G.ch,rfl,n1,rfl⟩
   .show ∀e∈PL (W.push (f,n,0)),_;rw[oF];intro e m;rcases kB.mp m with m|m
    .exact G.run e m
    .rw[jF.mp m];exact hR
  |some bk=>
   obtain⟨s1,m1,q1⟩:=bk;dsimp only;refine aP (g7 (g8 (I:=λx c g=>c=(ae,())/\SB kz g/\(arrOf g).toList.Perm (arrOf st).toList/\(arrOf g).size=b/\i7 κ (arrOf g) (bA g) f/\Run κ (arrOf g) f n) (Q:=λc g=>c=(ae,())/\SB kz g/\(arrOf g).toList.Perm (arrOf st).toList/\(arrOf g).size=b/\i7 κ (arrOf g) (bA g) f/\Run κ (arrOf g) f n) ?_ (λ_ _ hh=>hh) ?_) ?_)
   .rintro y c g _ hy ⟨rfl,B,C,J,u,H⟩;refine aP (l8 ?_);have wz:∀{p:bQ},p=g->((ae,()):Option Unit×Unit)=(ae,())/\SB kz p/\(arrOf p).toList.Perm (arrOf st).toList/\(arrOf p).size=b/\i7 κ (arrOf p) (bA p) f/\Run κ (arrOf p) f n:=λe=>by subst e;exact⟨rfl,B,C,J,u,H⟩
    by_cases hg:1<(bA g).size
    .obtain⟨z,q,d,v,D⟩:=g;have X:d.size > 1:=hg;dsimp only;rw[if_pos X,getElem?_pos d (d.size-2) ∅];obtain⟨u1,u2,u3⟩:=d[d.size-2];dsimp only;refine cQ (λ_=>aY (wz rfl)) λ_=>?_;refine aP (Bz hO B (hA.of C) u ∅ (show d.size-2+1<d.size by lia) λp mo T Z _=>?_);exact aY ⟨rfl,mo,T.perm.trans C,T.size.trans J,Z,H.keep T (.inr ∅)⟩
    .obtain⟨z,q,d,v,D⟩:=g;have X:¬d.size > 1:=hg;dsimp only;rw[if_neg X];exact aY (wz rfl)
   .exact⟨rfl,M,gu,pK,G,hR⟩
   rintro c g ⟨rfl,B,C,J,u,H⟩;obtain⟨z,q,d,v,D⟩:=g;dsimp only;refine aP (n8 (aP (n8 (aY ⟨f+n,rfl,∅,n2,⟨B.kind,B.failed⟩,C,J,?_⟩))));refine⟨?_,?_⟩
   .show lg 0 (PL ((d.modify (d.size-1) λx=>(x.1,x.2.1,_)).push (f,n,0))) _;rw[oF,ye];exact lg.app.mpr ⟨f,u.ch,rfl,n1,rfl⟩
   .show ∀e∈PL ((d.modify (d.size-1) λx=>(x.1,x.2.1,_)).push (f,n,0)),_;rw[oF,ye];intro e m;rcases kB.mp m with m|m
    .exact u.run e m
    .rw[jF.mp m];exact H
 .have M:=F;have Y:=pN;have K:Wr (arrOf o) (arrOf l) f (b-f):=uq;have wY:bA l=bA o:=wX;have n1:0<r:=∅
  have n2:f+r<=b:=∅
  have G:i7 κ (arrOf l) (bA l) f:=by rw[wY];exact O.keep K
  have gu:(arrOf l).toList.Perm (arrOf st).toList:=K.perm.trans L;have pK:(arrOf l).size=b:=K.size.trans S;have hR:Run κ (arrOf l) f r:=Y.run;clear K wY;refine aP (l8 ?_);obtain⟨kd,arr,W,mg,fl⟩:=l;dsimp only;cases hbk:W.back? with
  |none=>
   dsimp only;refine aP (n8 (aY ⟨f+r,rfl,∅,n2,⟨M.kind,M.failed⟩,gu,pK,?_⟩));refine⟨?_,?_⟩
   .show lg 0 (PL (W.push (f,r,0))) _;rw[oF];exact lg.app.mpr ⟨f,G.ch,rfl,n1,rfl⟩
   .show ∀e∈PL (W.push (f,r,0)),_;rw[oF];intro e m;rcases kB.mp m with m|m
    .exact G.run e m
    .rw[jF.mp m];exact hR
  |some bk=>
   obtain⟨s1,m1,q1⟩:=bk;dsimp only;refine aP (g7 (g8 (I:=λx c g=>c=(ae,())/\SB kz g/\(arrOf g).toList.Perm (arrOf st).toList/\(arrOf g).size=b/\i7 κ (arrOf g) (bA g) f/\Run κ (arrOf g) f r) (Q:=λc g=>c=(ae,())/\SB kz g/\(arrOf g).toList.Perm (arrOf st).toList/\(arrOf g).size=b/\i7 κ (arrOf g) (bA g) f/\Run κ (arrOf g) f r) ?_ (λ_ _ hh=>hh) ?_) ?_)
   .rintro y c g _ hy ⟨rfl,B,C,J,u,H⟩;refine aP (l8 ?_);have wz:∀{p:bQ},p=g->((ae,()):Option Unit×Unit)=(ae,())/\SB kz p/\(arrOf p).toList.Perm (arrOf st).toList/\(arrOf p).size=b/\i7 κ (arrOf p) (bA p) f/\Run κ (arrOf p) f r:=λe=>by subst e;exact⟨rfl,B,C,J,u,H⟩
    by_cases hg:1<(bA g).size
    .obtain⟨z,q,d,v,D⟩:=g;have X:d.size > 1:=hg;dsimp only;rw[if_pos X,getElem?_pos d (d.size-2) ∅];obtain⟨u1,u2,u3⟩:=d[d.size-2];dsimp only;refine cQ (λ_=>aY (wz rfl)) λ_=>?_;refine aP (Bz hO B (hA.of C) u ∅ (show d.size-2+1<d.size by lia) λp mo T Z _=>?_);exact aY ⟨rfl,mo,T.perm.trans C,T.size.trans J,Z,H.keep T (.inr ∅)⟩
    .obtain⟨z,q,d,v,D⟩:=g;have X:¬d.size > 1:=hg;dsimp only;rw[if_neg X];exact aY (wz rfl)
   .exact⟨rfl,M,gu,pK,G,hR⟩
   rintro c g ⟨rfl,B,C,J,u,H⟩;obtain⟨z,q,d,v,D⟩:=g;dsimp only;refine aP (n8 (aP (n8 (aY ⟨f+r,rfl,∅,n2,⟨B.kind,B.failed⟩,C,J,?_⟩))));refine⟨?_,?_⟩
   .show lg 0 (PL ((d.modify (d.size-1) λx=>(x.1,x.2.1,_)).push (f,r,0))) _;rw[oF,ye];exact lg.app.mpr ⟨f,u.ch,rfl,n1,rfl⟩
   .show ∀e∈PL ((d.modify (d.size-1) λx=>(x.1,x.2.1,_)).push (f,r,0)),_;rw[oF,ye];intro e m;rcases kB.mp m with m|m
    .exact u.run e m
    .rw[jF.mp m];exact H
end
theorem ve{n:Nat}(h:n<=1000000):n<bh:=zE h (by decide)
theorem Run.sortedTo{κ:KeyKind}{a:Array Keyed}{n:Nat}(h:Run κ a 0 n)(c:n<=a.size):SortedToK κ a n:=by intro i j b d;have:=h i j _ _ (lY _) b ∅ (getElem?_pos a i ∅) (getElem?_pos a j ∅);rw[sU (show i<a.size by lia),sU (show j<a.size by lia)];exact this
theorem KeysOf.all{κ:KeyKind}{a:Array Keyed}(h:KeysOf κ a):AllK κ a:=λi b=>h _ (by simp)
section
variable{P:aV}{w:aL}{A:aX}{E:ai->am->Prop}{s:am}
theorem E5{κ:KeyKind}{kz:gZ}{a:ag}{c:List ai}{n:Nat}{F:Fin->am->Prop}(q:s.heap.get? a=aa (f8 "list" c.toArray n))(J:KeysOf κ (lu c))(C:c.length<=1000000)(D:∀r:aD,(∀b o,b≠a->s.heap.get? b=aa o->r.get? b=aa o)->2<=c.length->iP κ kz P w A {s with heap:=r}/\∀{E:ai->am->Prop}{Q:gZ->am->Prop},Q kz {s with heap:=r}->ar (ax P w) A (keyKind' c.toArray) Q E {s with heap:=r})(h:∀d:bQ,(arrOf d).Perm (lu c)->SortedToK κ (arrOf d) (lu c).size->F (.done (.ret .none)) {s with heap:=sortedHeap s.heap a c ((arrOf d).map (·.2))}):ar (ax P w) A (Builtin.«list.sort» ⟨[.ref a],[]⟩) F E s:=by
 rw[list_sort_plain];have z:a<s.heap.objs.size:=bN q;have y:c.length<=bh:=lO (ve C);refine aq (listItems_at q rfl ?_);refine aq (C3 q rfl ?_);obtain⟨u,x⟩:∃u,(s.heap.update a (kC λ_=>#[])).get? a=aa (f8 "list" #[] u):=⟨_,get?_update_seq q (λ_=>#[])⟩
 refine aq (seqEpoch_at x rfl ?_);refine aq (wpAny_newTuple ?_ (hsz:=by rw[CU];exact y));refine aq (CW ?_);refine j0 ?_;have l:(((s.heap.update a (kC λ_=>#[])).push (f8 "tuple" c.toArray 0)).push (f8 "list" #[] 0)).get? a=aa (f8 "list" #[] u):=by rw[Heap.get?_push_ne _ _ _ (by rw[jE,JK];exact cZ (lr z)),Heap.get?_push_ne _ _ _ (by rw[JK];exact cZ z)];exact x
 have keep:∀b o,b≠a->s.heap.get? b=aa o->(((s.heap.update a (kC λ_=>#[])).push (f8 "tuple" c.toArray 0)).push (f8 "list" #[] 0)).get? b=aa o:=λb o m e=>bK _ (bK _ (by rw[JI _ _ _ _ m];exact e));show ar (ax P w) A _ F E {s with heap:=((s.heap.update a (kC λ_=>#[])).push (f8 "tuple" c.toArray 0)).push (f8 "list" #[] 0)};dsimp only;have f:∀d:bQ,failedOf d=ae->(arrOf d).Perm (lu c)->SortedToK κ (arrOf d) (lu c).size ->
   ar (ax P w) A (do
    let touched:=(<-seqEpoch a) != u
    Builtin.List.listUpdate (.ref a) λ_=>(arrOf d).map (·.2)
    if let aa e:=failedOf d then rule "list.sort.comparison-raised";throw e
    if touched then rule "list.sort.modified";raiseError "ValueError" "list modified during sort"
    ret .none) F E {s with heap:=((s.heap.update a (kC λ_=>#[])).push (f8 "tuple" c.toArray 0)).push (f8 "list" #[] 0)}:=λd m p v=>by
  refine aq (seqEpoch_at l rfl ?_);refine aq (C3 l rfl ?_ (hsz2:=by refine c0 (nY ((Array.size_map ..).trans (p.size_eq.trans (pairsOf_size _)))) (Nat.le_succ_of_le y)));rw[m];simp only[bne_self_eq_false,l0,if_false];exact aG (h d p v)
 by_cases g:c.toArray.size<2
 .rw[if_pos g,if_pos g];refine aq (aG ?_);refine aq (aG ?_);refine f (SortSt.mk' general' (c.toArray.zip c.toArray) #[] 7 ae) rfl (Array.Perm.refl _) λi j N G=>?_;have:i=j:=by rw[pairsOf_size]at G;rw[cH]at g;lia
  subst this;exact mP _
 .rw[if_neg g,if_neg g];obtain⟨H,I⟩:=D _ keep (by rw[cH]at g;lia);refine aq (I ?_);refine aq (dZ (LZ (κ:=κ) (kz:=kz) H (st:=SortSt.mk' kz (c.toArray.zip c.toArray) #[] 7 ae) (Q:=λ_ d=>SB kz d/\(arrOf d).toList.Perm (lu c).toList/\Run κ (arrOf d) 0 (lu c).size) ⟨rfl,rfl⟩ (KeysOf.all J) rfl λd M L K=>⟨M,L,K⟩) ?_ λ_ _ e=>e);rintro⟨⟨⟩,d⟩ s' ⟨rfl,m,p,v⟩;have B:(arrOf d).Perm (lu c):=Dj.mpr p;exact f d m.failed B (v.sortedTo (by rw[B.size_eq];exact bd _))
theorem Ta{g:KeyKind}(o:g.OneLt){a:ag}{d:List ai}{n:Nat}{F:Fin->am->Prop}(m:s.heap.get? a=aa (f8 "list" d.toArray n))(p:KeysOf g (lu d)) (j:∀c b rest,d=c::b::rest->keyKind' (c::b::rest).toArray=pure oneType') (l:d.length<=1000000)(h:∀i:bQ,(arrOf i).Perm (lu d)->SortedToK g (arrOf i) (lu d).size->F (.done (.ret .none)) {s with heap:=sortedHeap s.heap a d ((arrOf i).map (·.2))}):ar (ax P w) A (Builtin.«list.sort» ⟨[.ref a],[]⟩) F E s :=
 E5 m p l (λr _ f=>⟨OneLt.ok o,λq=>by
  obtain⟨c,b,rest,rfl⟩:∃c b rest,d=c::b::rest:=by
   match d,f with
   |[],f=>simp at f
   |[_],f=>simp at f
   |c::b::rest,_=>exact⟨c,b,rest,rfl⟩
  rw[j _ _ _ rfl];exact aG q⟩) h
theorem Gw{v:ai}{Q:ai->am->Prop}(x:ar (ax P w) A.in1 (collect v) (λd s1=>∃ss:List Str,eh d ss/\d.length<=1000000/\∀(i:aD) (out:Array ai) (f:List Str) (e:Nat),(∀b o,s1.heap.get? b=aa o->i.get? b=aa o) -> i.get? s1.heap.objs.size=aa (f8 "list" out e)->eh out.toList f->f.Perm ss->sortedS f=ah->Q (.ref s1.heap.objs.size) {s1 with heap:=i}) E s):ar (ax P w) A (call (.builtin "sorted") [v]) Q E s:=by refine Jz kind_sorted plain_sorted entry_sorted (args_sorted1 _) ?_;unfold JA;refine aq (m:=checkCount "sorted" 1 1 _) (aG ?_);refine aq (aW x λd s1 ζ=>?_);obtain⟨ss,h,p,j⟩:=ζ;refine aq (CW ?_);have g:(s1.heap.push (f8 "list" d.toArray 0)).get? s1.heap.objs.size=aa (f8 "list" d.toArray 0):=cG _ rfl;refine aq (j0 (lX slot_list_sort ⟨_,g,rfl⟩ entry_list_sort (Ta strKind_oneLt g h.keysOf (λa b c e=>keyKind_strs (by rw[<-e];exact h)) p λy r q=>⟨_,rfl,?_⟩) (args_list_sort _)));obtain⟨f,C,B,z⟩:=sorted_out_str h r q;obtain⟨e,u⟩:=sortedHeap_at (out:=(arrOf y).map (·.2)) g;refine aG ⟨_,rfl,j _ _ f e (λb o l=>?_) u C B z⟩;have n:b<s1.heap.objs.size:=bN l;rw[sortedHeap_old (cZ n) (by rw[jE];exact lr n)];exact bK _ l
end
section
variable{X:Cx}
theorem Inv.sorted2{h:List (ag×Obj)}{g:St}{H:Hp}{s1:am}{c:List Tx}{ss d:List Str}{f:aD}{a:Array ai}{e:Nat}(I:Inv X h g H s1)(l:ss=c.map tS)(s:c.length<=1000000)(k:∀b o,s1.heap.get? b=aa o->f.get? b=aa o) (j:f.get? s1.heap.objs.size=aa (f8 "list" a e)) (r:eh a.toList d) (q:d.Perm ss) (p:sortedS d=ah):Inv X h g (upd H s1.heap.objs.size (.lst (cL (aH c)))) {s1 with heap:=f}:=by
 have n:d.map (λz=>z.cps.toList)=aH c:=by
  refine sZ ?_ (IE p);have:=q.map λz=>z.cps.toList;rw[l,et]at this;have m:(c.map ((λz:Str=>z.cps.toList) ∘ tS))=c:=by simp[t7,k9]
  rw[m]at this;exact this
 have i:bx (cL (aH c)) a.toList:=by rw[<-n];exact He r
 refine I.laid (t':=s1.toks) k (bd _) ⟨?_,a.toList,e,i,?_⟩
 .rw[y0,yT];exact lO (ve ∅)
 .rw[JB];exact j
theorem sj:eU X (.builtin "sorted") (λxs H Q=>∃(p:ag) (d:List Tx),xs=[.ref p]/\(cy X.K H p (cL d)\/cu X.K H p (cL d))/\d.length<=1000000/\∀l,H l=ae->Q (.ref l) (upd H l (.lst (cL (aH d))))):=by
 intro F s w H xs L Q I r h;obtain⟨p,d,rfl,f,B,q⟩:=h;obtain⟨u,rfl,x⟩:=vals1 r;cases x;have b:∀(T:String) (o:Obj) (a:List ai) (n:Nat),(T = "list"\/T = "tuple")->s.heap.get? p=aa o->o.cls=.type T->o.data=.seq a.toArray n->bx (cL d) a ->
   ar (ax X.prog X.w) X.A (call (.builtin "sorted") [Value.ref p]) (EP X F w Q) X.xe s:=λT o a n E j i g c=>by
  have D:=c.length;rw[y0]at D;have m:=ve (n:=a.length) ∅;refine Gw (wpAny_collect_seq p E j i g (λM A=>?_) (by rw[cH];lia));have v:=I.kept (t':=s.toks) A;refine⟨_,Ae c,by rw[CU];lia,λN z O e k j K J G=>?_⟩;exact⟨.ref _,_,Inv.sorted2 v rfl B k j K J G,rfl,q _ v.fresh⟩
 rcases f with f|f
 .obtain⟨a,c,y,C⟩:=I.list f;obtain⟨o,e,i,n,g⟩:=y.isList;exact b "list" o a n (.inl rfl) e i g c
 .obtain⟨a,c,⟨o,e,i,n,g⟩,C⟩:=I.tuple f;exact b "tuple" o a n (.inr rfl) e i g c
end
end L2
namespace Pu
open L2
section
variable{X:Cx}{K:ay}
def kq:List PV->Option PO
 |[.lst xs]=>(io xs).bind λa=>if a.length<=1000000 then aa (.lst (ao (aH a)))else ae
 |[.tup xs]=>(io xs).bind λa=>if a.length<=1000000 then aa (.lst (ao (aH a)))else ae
 |_=>ae
theorem tG:nc K (λxs H Q=>∃(p:ag) (b:List Tx),xs=[.ref p]/\(cy K H p (cL b)\/cu K H p (cL b))/\b.length<=1000000/\∀l,H l=ae->Q (.ref l) (upd H l (.lst (cL (aH b))))) kq:=λF H xs y Q n w m e q=>by
 have f:∀{g:List PV}{c:List V}{a:ag},((io g).bind λb=>if b.length<=1000000 then aa (PO.lst (ao (aH b)))else ae)=aa n->Reps K H F g c->(cy K H a c\/cu K H a c) ->
   ∃(p:ag) (b:List Tx),[V.ref a]=[.ref p]/\(cy K H p (cL b)\/cu K H p (cL b))/\b.length<=1000000/\∀l,H l=ae->Q (.ref l) (upd H l (.lst (cL (aH b)))):=λ{g c a} e d s=>by
  cases h:io g with
  |none=>rw[h]at e;cases e
  |some b=>
   rw[h]at e;simp only[iR]at e;split at e
   .rename_i o;cases e;rw[xm h]at d;obtain⟨rfl,u⟩:=Va.mp d;refine⟨a,b,rfl,s,o,λl i=>q l F _ _ (Al.new0 i) (xW i (Va.mpr ⟨rfl,λx r=>u x ((eM b).mem_iff.mp r)⟩)) (yt i w trivial)⟩
   .cases e
 unfold kq at e;split at e
 .obtain⟨v,rfl,a,c,rfl,j,_,d⟩:=ik m;exact f e d (.inl (.inl j))
 .obtain⟨v,rfl,a,c,rfl,j,d⟩:=ik m;exact f e d (.inr (cu.of j))
 .cases e
end
end Pu
namespace L2
section
variable{X:Cx}
theorem O4(w:X.calm=ah):eU X (.builtin "sorted") (λxs H Q=>∃(p:ag) (a:List Tx),xs=[.ref p]/\H p=aa (p9 X p a)/\a.length<4000/\∀l,H l=ae->Q (.ref l) (upd H l (.lst (cL (aH a))))):=by
 intro B s f H xs F Q I r h;obtain⟨p,a,rfl,o,G,q⟩:=h;obtain⟨u,rfl,i⟩:=vals1 r;cases i;obtain⟨S,_,_⟩:=(show cB X.prog X.w H s.heap p (p9 X p a)from I.hok p _ o)
 refine Gw (O6 (uy (I.ok.hd w)) S λg E ss D C L k z y=>?_);obtain⟨c,g',d',t',m⟩:=g;obtain rfl:g'=s.gens:=z;obtain rfl:m=s.os:=y;have d:Inv X B f H {s with heap:=c,drawn:=d',toks:=t'}:=by have:=Inv.call (ch:=[]) I (g':=s.gens) (d':=d') (t':=t') (Un.kept (fs:=fS X.stack) (ex:=[]) k) (I.hok.kept k) I.bare (λb x=>absurd x (by simp));exact this
 refine⟨ss,D,∅,λJ j K e n v b1 b2 A=>?_⟩;exact⟨.ref _,_,Inv.sorted2 (s1:={s with heap:=c,drawn:=d',toks:=t'}) (ss:=a.map tS) d rfl ∅ n v b1 (b2.trans C) A,rfl,q _ d.fresh⟩
end
end L2
namespace Pu
open L2
section
variable{X:Cx}{E:XK}{pin:List Nat}{e f:aB}{j m:ak->R (List PV)}{g p q d r n i:Pos}
def vF:List PV->Option PO
 |[.lst xs]=>(io xs).bind λa=>if(gB a).length<4000 then aa (.lst (ao (aH (gB a))))else ae
 |_=>ae
def Mi(X:Cx):List V->Hp->VK->Prop:=λxs H Q=>∃(p:ag) (a:List Tx),xs=[.ref p]/\H p=aa (p9 X p a)/\a.length<4000/\∀l,H l=ae->Q (.ref l) (upd H l (.lst (cL (aH a))))
theorem L9:nc X.K (Rb X (Mi X)) vF:=λF H xs M Q O K C e q=>by
 unfold vF at e;split at e
 .obtain⟨v,rfl,a,N,rfl,J,_,A⟩:=ik C;obtain⟨u,L,f⟩:=zQ.mp e;rw[xm L]at A;obtain⟨rfl,G⟩:=Va.mp A;split at f
  .rename_i B;cases f;refine⟨a,u,rfl,.inl J,B,λb I=>⟨b,gB u,rfl,upd_same,B,λl h=>?_⟩⟩;have y:l≠b:=by rintro rfl;rw[upd_same]at h;cases h
   have s:H l=ae:=by rw[bj y]at h;exact h
   have al:Al F F H (upd (upd H b (p9 X b (gB u))) l (.lst (cL (aH (gB u))))):=(Al.new0 I).trans (Al.new0 h);refine q l F _ (λc=>c=l) al ⟨⟨_,upd_same,Va.mpr ⟨rfl,λx D=>G x ((yi _ _).mp ((eM _).mem_iff.mp D))⟩⟩,λc=>l6⟩ λc z=>?_;subst z;exact⟨s,λz=>zO (K _ z) (λo w=>by rw[s]at w;cases w),_,upd_same,trivial⟩
  .cases f
 .cases e
theorem No(c:X.calm=ah)(u:DA X E [e] j)(o:X.mg "sorted"=ae)(a:X.mg "set"=ae)(s:Gl X "sorted":=by rfl)(b:Gl X "set":=by rfl)(h:oU e=aj:=by rfl):DN X E (.Call (.Name "sorted" p) [.Call (.Name "set" q) [e] [] d] [] g) (dL vF j):=λF S x w H Q l v=>b9 (nJ (O4 c) s o nz (i4 (BY (NT c) b a OC im (by decide) (by decide) (j9 h) rfl) ki (j9 rfl)) (by decide) (by decide) (j9 rfl) rfl) (yu L9 u l v)
end
theorem Mh(a:Int)(t:Tok)(l:ag)(b:Array ai)(n:Nat)(f:Array (Option ai)):Meets (Builtin.«int.__rmul__» ⟨[.int a t,.ref l],[]⟩) (λ_ R s=>s.heap.get? l=aa {cls:=.type "list",dict:=ae,data:=.seq b n,slots:=f}/\R (.ok (.ret Value.notImplemented)) s) :=.of_wp λc w A R s h=>by obtain⟨m,g,d,i,j⟩:=s;obtain⟨o,h⟩:=h;wp_walk;exact⟨_,rfl,h⟩
theorem Pw(l:ag)(a:Array ai)(n:Nat)(j:Array (Option ai))(x:Int)(u:Tok)(p:¬(!Builtin.List.listFitsIndex x)=ah)(o:¬a.size*x.toNat > (2^63-1) / 8)(m:¬zB (a.size*x.toNat)=ah):Meets (Builtin.«list.__mul__» ⟨[.ref l,.int x u],[]⟩) (λ_ R s=>s.heap.get? l=aa {cls:=.type "list",dict:=ae,data:=.seq a n,slots:=j}/\R (.ok (.ret (Value.ref s.heap.objs.size))) {s with heap:=s.heap.push {cls:=Value.type "list",data:=Data.seq (List.foldl (λi f=>i++f) #[] (bu (if a.isEmpty=ah then 0 else x.toNat) a))},toks:=s.toks}) :=
 .of_wp λc w A R s h=>by
  obtain⟨v,g,d,q,r⟩:=s;obtain⟨y,h⟩:=h;have b:=PySem.AutoListH.joined_fits m
  wp_walk;refine wpAny_ite_false (decide_eq_false (Nat.not_lt.mpr b)) ?_;wp_walk;exact⟨_,rfl,h⟩
section
variable{X:Cx}{K:ay}
def Hv(K:ay):R2:=λx y H Q=>∃a k xs,x=.ref a/\y=.int k/\cy K H a xs/\xs≠[]/\1<=k/\k<=1000/\xs.length<=1000/\∀p,H p=ae->Q (.ref p) (upd H p (.lst (bu k.toNat xs).flatten))
theorem EV:bX X (iy .Mult) (Hv X.K):=by
 intro Z s N H x y v u Q I B A h;obtain⟨l,k,xs,rfl,rfl,E,J,W,S,C,q⟩:=h;cases B;obtain⟨t,rfl⟩:=A;obtain⟨a,r,⟨⟨L,Y,j,d⟩,n,c,i,f,g⟩,_⟩:=I.list E;simp only at i g f;subst i g f;have P:=r.length;have M:a≠[]:=λz=>J (r.nil_iff.mp z);have G:List.foldl (λp m=>p++m) #[] (bu k.toNat a.toArray)=(bu k.toNat a).flatten.toArray:=by have:=foldl_rep a k.toNat [];rw[gI]at this;exact this
 have D:a.toArray.isEmpty=aj:=by cases a with|nil=>exact absurd rfl M|cons=>rfl
 have DP:a.toArray.size*k.toNat<=1000000:=by rw[cH];have:=qY (show a.length<=1000 by lia) (show k.toNat<=1000 by lia);lia
 refine wpAny_binaryOp_repeat_ref (T:="list") (U:="int") (by decide) ⟨_,c,rfl⟩ (λw=>zA w k t) noFill_list_mul F.fills_int_mul Db repeat_list F.slot_int_index.lookup
  (qV Db (zA s k t) F.entry_int_rmul (F.args_int_rmul_2 _ _) (Mh k t l a.toArray n d) ⟨c,rfl,⟨_,c,rfl⟩,qV F.slot_list_mul ⟨_,c,rfl⟩ F.entry_list_mul (F.args_list_mul_2 _ _) (Pw l a.toArray n d k t ?_ ?_ ?_) ⟨c,?_⟩⟩)
 .unfold Builtin.List.listFitsIndex;rw[decide_eq_true (show -(2^63:Int)<=k by lia),decide_eq_true (show k<2^63 by lia)];decide
 .have:(1000000:Nat)<=(2^63-1) / 8:=by decide
  lia
 .unfold zB;rw[decide_eq_false (by rw[lR];lia)];decide
 .rw[D,if_neg (by decide),G];refine⟨.ref s.heap.objs.size,_,I.laid (t':=s.toks) (o:=.lst (bu k.toNat xs).flatten) (λb O q=>bK _ q) (bd _) ?_,rfl,q _ (I.hok.fresh (bd _))⟩;refine⟨?_,_,_,r.rep k.toNat,cG _ rfl⟩;rw[yr,lR];have:=qY (show k.toNat<=1000 by lia) C;lia
def qp:PV->PV->Option PV
 |.lst xs,.int k=>if xs≠[]/\1<=k/\k<=1000/\xs.length<=1000 then aa (.lst (bu k.toNat xs).flatten)else ae
 |_,_=>ae
theorem HW:P2 K (Hv K) qp:=λF H x y v u Q pv j i e q=>by
 unfold qp at e;split at e
 .split at e
  .rename_i xs k h;cases e;obtain⟨a,g,rfl,l,_,c⟩:=j;have f:=c.len;exact⟨a,k,g,rfl,i,.inl l,(λz=>h.1 (by rw[z]at f;exact t6 f.symm)),h.2.1,h.2.2.1,∅,λp d=>q _ (λb=>F b\/b=p) _ (Al.new d) ⟨p,_,rfl,.inl upd_same,.inr rfl,(Al.new d).reps (c.rep _)⟩⟩
  .cases e
 .cases e
end
section
variable{X:Cx}{l:gx}{k:Nat}{f C:ag}{j:gi}{d:List Str}{i:Sp}{E:XK}{g:List (ag×Obj)}{b:St}{H:Hp}{s:am}{Q:VK}{a:List ai}{c:List V}
theorem UD(F:jP X.prog X.w X.K X.mg X.base l k f j d i)(v:dW k X.A)(x:Binds X.K j d [])(I:Inv X g b H s)(r:bx c a)(h:i c H Q E):ar (ax X.prog X.w) X.A (call (.ref f) a) (EP X g b Q) (λe o=>∃n p,Inv X g b p n/\l X.stack p n E e o) s:=by
 have w:a.length=d.length:=by rw[<-r.length];exact F.len _ _ _ _ h
 refine v4 (ph (F.run X.A X.stack s H ⟨a,[]⟩ a c Q E v I.env0 (by have:=x s a I.kIn (by rw[fN];exact w);rwa[fN]at this) r h) λq o m=>?_);cases q with
 |error er=>exact⟨s,H,I,m⟩
 |ok y=>
  cases y with
  |ret u=>exact I.after m
  |next=>exact gm m
  |brk=>exact gm m
  |cont=>exact gm m
end
def yh(a:ak)(b:List b0)(g:ak->R Slot):R Slot:=(aQ (if(cm b).Nodup then dR a b else ae) a).bind λc a=>d9 a b (g c)
section
variable{K:ay}{E:XK}{F:ag->Prop}{S:Nat->ag->Prop}{j:ak}{d:St}{H:Hp}{a:List b0}{f:List V}{g:ak->R Slot}
theorem OO{D:Slot->ak->(ag->Prop)->(Nat->ag->Prop)->Hp->Prop}(r:aN K F S j d H)(N:hU K d F H a f)(h:Ok K E d F S H (yh j a g) D):bt K g f H (λv l=>∃x p c n C,aN K c n p d l/\bp (U S) (U n) F c H l/\i6 K l c x v C/\(∀b,C b->H b=ae/\¬c b/\¬U n b/\∃o,l b=aa o/\cU o)/\D x p c n l) E:=by
 unfold yh at h;have q:=Ok.bind h;by_cases s:(cm a).Nodup
 .rw[if_pos s]at q;cases u:dR j a with
  |none=>rw[u]at q;exact q.elim
  |some Q=>
   rw[u]at q;have q:=q F S H r (bp.refl ..);dsimp only at q;refine⟨F,kY a S,Q,r.cal N u s,?_⟩;cases M:g Q with
   |no=>rw[M]at q;exact q.elim
   |er Y O=>
    rw[M]at q;intro y c n l I L;unfold d9 at q;dsimp only at q;by_cases m:eP a O=ah
    .rw[if_pos m]at q;obtain⟨G,A,B,_⟩:=r.called N u s I L (λ_ z=>z) (kU m);exact q y c G l A B
    .rw[if_neg m]at q;exact q.elim
   |ok x O=>
    rw[M]at q;intro v c n l C I L X J T;unfold d9 at q;dsimp only at q;by_cases m:eP a O=ah
    .rw[if_pos m]at q;obtain⟨G,A,B,W⟩:=r.called N u s I L (λ_ z=>.inl z) (kU m);refine⟨x,_,c,G,C,A,B,X,λb z=>⟨T b z,(J b z).1,λw=>?_,(J b z).2.2⟩,q c G l A B⟩;rcases W b w with w|⟨i,w⟩
     .exact(J b z).2.1 w
     .obtain⟨_,_,o,P,_⟩:=r.foot i b w;rw[T b z]at P;cases P
    .rw[if_neg m]at q;exact q.elim
 .rw[if_neg s]at q;exact q.elim
theorem Rh{Q m:VK}(h:bt K g f H Q E)(r:∀v b,Q v b->m v b):bt K g f H m E:=by
 obtain⟨F,S,l,o,ok⟩:=h;refine⟨F,S,l,o,?_⟩;cases i:g l with
 |no=>rw[i]at ok;exact ok
 |er c w=>rw[i]at ok;exact ok
 |ok A w=>rw[i]at ok;exact λv z y b x p s n q u=>r v b (ok v z y b x p s n q u)
end
end Pu
namespace Mx
def F5:Nat->Nat->Nat
 |0,x=>x
 |n+1,x=>F5 n (5*x+1)
end Mx
namespace L2
section
variable{X:Cx}{f:List (ag×Obj)}{d:St}{H:Hp}{s:am}{a:ag}
theorem Inv.recast{p q:HO}(I:Inv X f d H s)(e:H a=aa p)(m:∀xs,p≠.tup xs)(C:∀o u,X.H₀ a≠aa (.frz o u))(B:∀j,p≠.tbl j)(A:∀x,p≠.own x)(new:cB X.prog X.w (upd H a q) s.heap a q):Inv X f d (upd H a q) s:=by
 have g:∀b,H b=ae->(upd H a q) b=ae:=λb i=>by rw[bj (by rintro rfl;rw[e]at i;cases i)];exact i
 refine⟨I.ok,I.os,I.bare,⟨I.base.keep,I.base.slot,λb o h n w=>g b (I.base.free b o h n w),I.base.there,λb xs h=>?_,λb o u h=>?_,λb j h=>?_⟩,I.loc,I.cell,g _ I.free,λx c h=>g _ (I.freeC x c h),λp y=>?_,λb u i=>?_,I.len⟩
 .have z:=I.base.tups b xs h;rw[bj (by rintro rfl;rw[e]at z;exact m xs (cY z))];exact z
 .have z:=I.base.frzs b o u h;rw[bj (by rintro rfl;exact C o u h)];exact z
 .have z:=I.base.tbls b j h;rw[bj (by rintro rfl;rw[e]at z;exact B _ (cY z))];exact z
 .obtain⟨F,E,D⟩:=I.pin p y;exact⟨F,g _ E,D⟩
 .by_cases l:b=a
  .subst l;rw[upd_same]at i;cases i;exact new
  .rw[bj l]at i;refine(I.hok b u i).stay (λc v _ r=>r) (λc r=>?_) λc xs r=>?_
   .rw[bj (by rintro rfl;rw[e]at r;exact A _ (cY r))];exact r
   .rw[bj (by rintro rfl;rw[e]at r;exact m _ (cY r))];exact r
def r8(o:Obj):Nat:=match o.data with
 |.dict _ ep=>ep
 |_=>0
end
end L2
namespace Pu
open L2
section
variable{X:Cx}{E:XK}{pin:List Nat}{e b c:aB}{de db f:ak->R PV}{d:Pos}
def nD(i:Nat):ak->R PV:=λa=>(aQ (dm a i) a).bind λg a=>.ok (.int (g.length:Nat)) a
theorem H_(i:Nat){y:Str}{p g:Pos}(q:X.mg "len"=ae)(x:X.N[i]?=aa y:=by rfl)(z:ez X.env.scope y:=by first|exact Or.inl rfl|exact Or.inr (Or.inl rfl)|exact Or.inr (Or.inr rfl))(v:(y==("__debug__":Str))=aj:=by decide) (C:(y==("__classdict__":Str))=aj:=by decide) (u:Gl X "len":=by rfl)(l:aR [.Name y g] X.env=(aj,a6 (.Name y g) X.env)::aR [] X.env:=by rfl) (B:(c7 d (aR [] X.env)).any (·.1)=aj:=by rfl):DE X E (.Call (.Name "len" p) [.Name y g] [] d) (nD i):=λF S m D H Q r h=>by
 unfold nD at h;cases j:dm m i with
 |none=>rw[j]at h;exact h.elim
 |some o=>rw[j]at h;obtain⟨a,n,A,w,s,_⟩:=r.dkAt (lJ j);refine b9 (nJ M6 u q rfl (i4 (fI x z v C) ki l) (by decide) (by decide) l B) ⟨_,A,a,n,rfl,w,?_⟩;rw[s.len];exact h F S H r (bp.refl ..) _ rfl
def jm(neg:Bool)(i:Nat)(db:ak->R PV):ak->R PV:=λε=>(db ε).bind λk ε1=>(aQ (dm ε1 i) ε1).bind λa ε1=>aQ ((ij k).map λk=>.bl (neg^^(jl a k).isSome)) ε1
theorem KH{i:Nat}(j:Bool){F:ag->Prop}{S:Nat->ag->Prop}{n:ak}{g:St}{H:Hp}{Q:VK}(K:DE X E b db)(G:aN X.K F S n g H)(h:Ok X.K E g F S H (jm j i db n) (λpv _ N _ A=>∀v,aU X.K A N pv v->Q v A)):ig X b g H λy l=>∃x,g[i]?=aa (aa x)/\∃a o,x=.ref a/\m_ l a y o/\Q (.bl (j^^o.isSome)) l:=by
 unfold jm at h;refine K F S n g H _ G ((Ok.bind h).imp λk m B z l p O q u D=>?_);cases s:dm m i with
 |none=>rw[s]at q;exact q.elim
 |some I=>
  rw[s]at q;simp only[b7,R.bind_ok]at q;obtain⟨a,C,M,L,J,_⟩:=p.dkAt (lJ s);cases r:ij k with
  |none=>rw[r]at q;exact q.elim
  |some w=>
   rw[r,pD]at q;rw[tt D r];refine⟨.ref a,M,a,jQ C w,rfl,m_.k L,?_⟩;rcases J.val w with⟨x,v,h1,h2,h3⟩|⟨h1,h2⟩
   .rw[h1]at q;rw[h2];exact q B z l p (bp.refl ..) _ rfl
   .rw[h1]at q;rw[h2];exact q B z l p (bp.refl ..) _ rfl
theorem Bh(i:Nat){y:Str}{a:Pos}(u:X.A.units+64<cLine)(m:DE X E b db)(n:X.N[i]?=aa y:=by rfl)(o:ez X.env.scope y:=by first|exact Or.inl rfl|exact Or.inr (Or.inl rfl)|exact Or.inr (Or.inr rfl))(l:(y==("__debug__":Str))=aj:=by decide) (p:(y==("__classdict__":Str))=aj:=by decide) (j:qN .In (.Name y a)=aj:=by rfl):DT X E (.Compare b [.In] [.Name y a] d) (dB (jm aj i db)):=λF S s r H Q g h=>by refine vO (SI (Pa ∅ bT (fI n o l p)) j) ?_;have:=KH (Q:=λv q=>∃k,v=.bl k/\Q k q) aj m g (uJ h);simp only[Dk]at this;exact this
theorem qr(x:Str):tS x.cps.toList=x:=by simp[tS]
def uK(db f:ak->R PV):ak->R PO:=λh=>(db h).bind λk g=>(f g).bind λy a=>(aQ (ij k) a).bind λi a=>.ok (.dK [(i,y)]) a
theorem NH(hb:DE X E b db)(Z:DE X E c f):DN X E (.Dict [aa b] [c] d) (uK db f):=λF S N I H Q v h=>by
 refine b9 (LL (GS bT bT Ir) rfl rfl (by simp) (by simp)) λp l=>?_;have al:Al F F H (upd H p (.dK [])):=Al.new0 l;have Y:¬F p:=λz=>by obtain⟨o,q⟩:=v.ex p z;rw[l]at q;cases q
 have W:¬U S p:=λζ=>by obtain⟨i,z⟩:=ζ;obtain⟨_,_,o,q,_⟩:=v.foot i p z;rw[l]at q;cases q
 have B:bp (U S) (U S) F F H (upd H p (.dK [])):=al.grow;refine hb F S N I _ _ (v.al al) ((Ok.bindB h B).imp λk n F1 S1 H1 J D h1 u O=>?_);obtain⟨e1,A,x⟩:=D.stay (upd_same:upd H p (.dK []) p=aa (.dK [])) W Y;refine Z F1 S1 n I H1 _ J ((Ok.bindB h1 (B.trans D)).imp λy M L S2 H2 T C m w r=>?_);obtain⟨K,g,a⟩:=C.stay e1 x A;cases G:ij k with
 |none=>rw[G]at m;exact m.elim
 |some j=>
  rw[G]at m;simp only[b7,R.bind_ok]at m;have s:aU X.K H2 L k u:=O.grow C J.fit;refine⟨K,[(j,w)],?_,by simp,?_⟩
  .rw[cn,zD,<-tt s G]
  .rw[show tN [] [(j,w)]=[(j,w)] from rfl];obtain⟨gl,fit,P⟩:=T.lay (o':=.dK [(j,w)]) K trivial g a;have g3:=((B.trans D).trans C).lay (o':=.dK [(j,w)]) l;refine m L S2 _ P g3 p (λb=>b=p) ⟨⟨_,upd_same,.cons ⟨rfl,r.grow gl fit⟩ .nil⟩,λb=>l6⟩ λb z=>?_;subst z;exact⟨l,g,a,_,upd_same,trivial⟩
end
end Pu
namespace L2
open Mx
theorem perm_mapE{g q:Type}{f:g->q}{l:List q}{m:List g}(h:l.Perm (m.map f)):∃d:List g,l=d.map f/\d.Perm m:=by
 generalize c:m.map f=mm at h
 induction h generalizing m with
 |nil=>
  cases m with
  |nil=>exact⟨[],rfl,.nil⟩
  |cons=>cases c
 |cons x _ w=>
  cases m with
  |nil=>cases c
  |cons y r=>rw[cn]at c;injection c with o n;obtain⟨d,e,p⟩:=w n;exact⟨y::d,by rw[cn,<-e,o],p.cons y⟩
 |swap x y l=>
  match m,c with
  |a::b::r,c=>simp only[cn,n_]at c;obtain⟨o,n,z⟩:=c;exact⟨b::a::r,by simp[o,n,z],.swap ..⟩
 |trans _ _ j i=>obtain⟨C,A,s⟩:=i c;obtain⟨v,B,u⟩:=j A.symm;exact⟨v,B,u.trans s⟩
theorem least{p:Nat->Prop}:∀(n:Nat),p n->∃m,m<=n/\p m/\∀k,k<m->¬p k
 |0,h=>⟨0,bd _,h,λk d=>absurd d (Nat.not_lt_zero _)⟩
 |n+1,h=>by
  by_cases z:∃m,m<=n/\p m/\∀k,k<m->¬p k
  .obtain⟨m,a,b,c⟩:=z;exact⟨m,∅,b,c⟩
  .refine⟨n+1,bd _,h,λk d f=>z ?_⟩;obtain⟨m,a,b,c⟩:=least k f;exact⟨m,∅,b,c⟩
section
variable{P:aV}{w:aL}{A:aX}{E:ai->am->Prop}{s:am}
structure Keyd(P:aV)(w:aL)(K:Type)[DecidableEq K] where
 is:aD->K->ai->Prop
 hash:K->Int
 room:aX->Prop
 keep:∀{h h':aD}{k:K}{v:ai},is h k v->(∀b o,h.get? b=aa o->o.cls=.type "tuple"->h'.get? b=aa o)->is h' k v
 ref:∀{h:aD}{k:K}{v:ai},is h k v->∃a o,v=.ref a/\h.get? a=aa o
 eqBool:∀{A:aX}{E:ai->am->Prop}{s:am}{x y:K}{u v:ai}{Q:Bool->am->Prop},room A->is s.heap x u->is s.heap y v->Q (decide (x=y)) s->ar (ax P w) A (PySem.eqBool u v) Q E s
 quiet:∀{A:aX}{E:ai->am->Prop}{s:am}{k:K}{v:ai}{Q:Bool->am->Prop},is s.heap k v->Q ah s->ar (ax P w) A (eqIsQuiet 8 v) Q E s
 cls:∀{A:aX}{E:ai->am->Prop}{s:am}{k:K}{v:ai}{Q:Bool->am->Prop},is s.heap k v->Q aj s->ar (ax P w) A (ofAClassStatement 8 v) Q E s
 hbv:∀{A:aX}{E:ai->am->Prop}{s:am}{k:K}{v:ai}{Q:Bool->am->Prop},is s.heap k v->Q aj s->ar (ax P w) A (hashByValue 8 v) Q E s
variable{K:Type}[DecidableEq K]{c:Keyd P w K}
end
section
variable{P:aV}{w:aL}{A:aX}{E:ai->am->Prop}{s:am}
theorem tup_uniq{h:aD}{a:ag}{x y:Array ai}(g:IsTup h a x)(f:IsTup h a y):x=y:=by
 obtain⟨o,e,_,n,d⟩:=g;obtain⟨i,b,_,j,c⟩:=f;rw[e]at b;cases b;rw[d]at c;cases c;rfl
theorem strs_uniq{a:List ai}{x y:List Str}(r:eh a x)(s:eh a y):x=y:=by
 induction r generalizing y with
 |nil=>cases s;rfl
 |cons _ _ _ g=>
  cases s with
  |cons _ _ t=>rw[g t]
theorem strs_len{a:List ai}{b:List Str}(h:eh a b):a.length=b.length:=h.length
theorem tup_kept{h d:aD}{a:ag}{x:Array ai}(f:IsTup h a x)(k:∀b o,h.get? b=aa o->o.cls=.type "tuple"->d.get? b=aa o):IsTup d a x:=by obtain⟨o,e,c,r⟩:=f;exact⟨o,k a o e c,c,r⟩
end
def ltL(a b:List Tx):Bool:=decide (a<b)
theorem ltL_cons(x y:Tx)(xs a:List Tx):ltL (x::xs) (y::a)=if x=y then ltL xs a else decide (x<y):=by
 unfold ltL;by_cases h:x=y
 .subst h;rw[if_pos rfl,lQ,decide_eq_true_iff,decide_eq_true_iff,Dl];exact⟨λz=>z.elim (λq=>absurd q (List.lt_irrefl _)) λq=>q.2,λq=>.inr ⟨rfl,q⟩⟩
 .rw[if_neg h,lQ,decide_eq_true_iff,decide_eq_true_iff,Dl];exact⟨λz=>z.elim id λq=>absurd q.1 h,.inl⟩
def ordL:KeyOrd where
 α:=List Tx
 blt:=ltL
 irrefl:=λa=>decide_eq_false (List.lt_irrefl a)
 trans:=λa b c f d=>decide_eq_true (List.lt_trans (of_decide_eq_true f) (of_decide_eq_true d))
 negTrans:=λa b c h=>by
  unfold ltL;by_cases g:a<b
  .exact .inl (decide_eq_true g)
  .have i:b<=a:=List.not_lt.mp g;exact .inr (decide_eq_true (List.lt_of_le_of_lt i (of_decide_eq_true h)))
 total:=λa b f d=>List.le_antisymm (List.not_lt.mp (of_decide_eq_false d)) (List.not_lt.mp (of_decide_eq_false f))
section
open PySem.SeqAt
open PySem.AutoSeq1 (wpAny_loadPart')
open PySem.MeetsSeq PySem.MeetsSeq2 PySem.MeetsSeq3
def cpsL(a:List Str):List Tx:=a.map λz=>z.cps.toList
theorem cps_inj{x y:Str}(h:x.cps.toList=y.cps.toList):x=y:=by rw[<-qr x,<-qr y,h]
end
section
variable{P:aV}{w:aL}{A:aX}{E:ai->am->Prop}{s:am}
theorem sorted_genK{v:ai}{Q:ai->am->Prop}(hu:A.units+32<cLine)(O:ar (ax P w) A.in1 (collect v) (λa c=>∃(κ:KeyKind) (kz:gZ),(∀v∈a,∃k,κ.keyOf v=aa k)/\a.length<=1000000 /\ (∀(D:aX) (f:aD),D.units+8<cLine->(∀b o,c.heap.get? b=aa o->f.get? b=aa o)->2<=a.length->iP κ kz P w D {c with heap:=f}/\∀{E:ai->am->Prop}{Q:gZ->am->Prop},Q kz {c with heap:=f}->ar (ax P w) D (keyKind' a.toArray) Q E {c with heap:=f}) /\ ∀(f:aD) (out:Array ai) (e:Nat),(∀b o,c.heap.get? b=aa o->f.get? b=aa o) -> f.get? c.heap.objs.size=aa (f8 "list" out e)->out.toList.Perm a->out.toList.Pairwise (λx y=>∀p q,κ.keyOf x=aa p->κ.keyOf y=aa q->κ.blt q p=aj)->Q (.ref c.heap.objs.size) {c with heap:=f}) E s):ar (ax P w) A (call (.builtin "sorted") [v]) Q E s:=by
 refine Jz kind_sorted plain_sorted entry_sorted (args_sorted1 _) ?_;unfold JA;refine aq (m:=checkCount "sorted" 1 1 _) (aG ?_);refine aq (aW O λa c ζ=>?_);obtain⟨κ,kz,S,J,n,C⟩:=ζ;refine aq (CW ?_);have r:(c.heap.push (f8 "list" a.toArray 0)).get? c.heap.objs.size=aa (f8 "list" a.toArray 0):=cG _ rfl;refine aq (j0 (lX slot_list_sort ⟨_,r,rfl⟩ entry_list_sort (E5 (κ:=κ) (kz:=kz) r (λp g=>?_) J (λf k T=>n _ f (by simp;lia) (λb o e=>k b o (cZ (bN e)) (bK _ e)) T) λd g M=>⟨_,rfl,?_⟩) (args_list_sort _)))
 .have:p.1∈a:=by
   have H:p∈(a.toArray.zip a.toArray).toList:=g;rw[Array.toList_zip]at H;exact v5 H |>.1
  exact S _ this
 .obtain⟨e,N⟩:=sortedHeap_at (out:=(arrOf d).map (·.2)) r;have l:(arrOf d).toList.Perm (a.zip a):=by
   have:=Dj.mp g;have e0:(lu a).toList=a.zip a:=by show(a.toArray.zip a.toArray).toList=_;rw[Array.toList_zip]
   rwa[e0]at this
  have same:∀p∈(arrOf d).toList,p.1=p.2:=λp g=>by have:=l.mem_iff.mp g;rw[<-List.map_id a,List.zip_map']at this;obtain⟨x,_,rfl⟩:=cS.mp this;rfl
  have Z:((arrOf d).map (·.2)).toList.Perm a:=by rw[Array.toList_map];have:=l.map (·.2);rwa[JW (bd _)]at this
  refine aG ⟨_,rfl,C _ _ e (λb o G=>?_) N Z ?_⟩
  .have n:b<c.heap.objs.size:=bN G;rw[sortedHeap_old (cZ n) (by rw[jE];exact lr n)];exact bK _ G
  .rw[Array.toList_map];refine zH.mpr (JQ.mpr λi j F z bR p q L K=>?_);have I:j<(lu a).size:=by rw[<-g.size_eq];simpa using z
   have B:i<(arrOf d).size:=by simpa using F
   have u:j<(arrOf d).size:=by simpa using z
   have h:=M i j (lO bR) I;rw[sU B,sU u]at h;have Y:=same _ (wg F);have f2:=same _ (wg z);have X:kO κ (arrOf d)[i]=p:=by
    unfold kO;have:(arrOf d)[i].1=(arrOf d).toList[i].2:=by rw[<-Y];simp
    rw[this,L];rfl
   have W:kO κ (arrOf d)[j]=q:=by
    unfold kO;have:(arrOf d)[j].1=(arrOf d).toList[j].2:=by rw[<-f2];simp
    rw[this,K];rfl
   rw[X,W]at h;exact h
end
section
variable{X:Cx}
abbrev PrK:=Int×List Tx
end
end L2
namespace Pu
open L2
section
variable{X:Cx}{E:XK}{e:aB}{c:ak->R (List PV)}{b p q a:Pos}
def prV(k:PrK):PV:=.tup [.int k.1,.tup (ao k.2)]
end
end Pu
namespace L2
section
variable{X:Cx}{l:List aB}{k:Nat}{j:Pos}
def BP:V->Hp->St->Prop:=λv H a=>∃p x y,v=.ref p/\H p=aa (.tup [x,y])/\a=[aa x,aa y]
variable{f:d7}{x y:Str}{g:List Str}{i:List Nat}
theorem KQ{M L:Pos}(B:jq X f x g i)(O:X.calm=ah)(D:g[1]?=aa y)(J:f.names.lookup y=aa .local):∀C m o A z,PG (bM X f g C m o A z) (.Tuple [.Name x M,.Name y L] k j) λv w H Q=>∃E,E.length=1+1/\w.length=g.length/\BP v H E/\Q (E++w.drop (1+1)) H:=by
 intro C m o A z S s w H v u Q I r h;obtain⟨E,_,P,⟨p,a,b,rfl,N,rfl⟩,q⟩:=h;have W:Loc (bM X f g C m o A z).env.scope x:=B.loc.elim (λh=>.inl (wc h)) (λh=>.inr (yk h));have T:(bM X f g C m o A z).fn x=ah\/(bM X f g C m o A z).env.scope.names.lookup x=aa .local:=B.loc.elim (λh=>.inr (wc h)) (λh=>.inl (by show(f.names.lookup x == aa .cell)=ah;rw[h];rfl));have F:(bM X f g C m o A z).N[0]?=aa x:=by show g[0]?=aa x;rw[<-List.head?_eq_getElem?];exact B.hd
 have K:Q (((w.set 0 (aa a)).set 1 (aa b))) H:=by
  match w,P,q with
  |c::d::t,_,q=>exact q
  |[c],G,_=>rw[n5 (by rw[<-G];simp)]at D;cases D
  |[],G,_=>rw[n5 (by rw[<-G];simp)]at D;cases D
 refine RL (X:=bM X f g C m o A z) (n:=2) O (IN (vW (X:=bM X f g C m o A z) B.nd F W T) (IN (vW (X:=bM X f g C m o A z) B.nd (show(bM X f g C m o A z).N[1]?=aa y from D) (.inl (wc J)) (.inr (wc J))) RA)) rfl rfl S s w H _ u Q I r ⟨p,[a,b],rfl,cu.of N,rfl,a,[b],rfl,b,[],rfl,rfl,K⟩
end
end L2
namespace Pu
open L2
def mH{f:Type}(b:List Nat)(d:ak->R f)(x y:PV):ak->R f:=λa=>(aQ (cP a b) a).bind λc _=>(aQ (if(cm c).Nodup then dR a (.inl x::.inl y::c)else ae) a).bind λg _=>d9 a (.inl x::.inl y::c) (d g)
def oN(a:List Nat)(dt:ak->R Bool)(de:ak->R PV):List (PV×PV)->List PV->ak->R (List PV)
 |[],c,f=>.ok c f
 |x::xs,c,f=>(bz (mH a dt x.1 x.2 f)).bind λk b=>match k with
  |true=>(bz (mH a de x.1 x.2 b)).bind λy d=>oN a dt de xs (c++[y]) d
  |false=>oN a dt de xs c b
def qx(cap:List Nat)(c:ak->R (List (PV×PV)))(dt:ak->R Bool)(de:ak->R PV):ak->R PO:=λε=>(c ε).bind λxs ε1=>(oN cap dt de xs [] ε1).bind λb a=>.ok (.lst b) a
theorem Fh{K:ay}{E:XK}{F:ag->Prop}{S:Nat->ag->Prop}{s:ak}{f:St}{H:Hp}{L:Type}{b:List Nat}{d:ak->R L}{x y:PV}{v w:V}{C:L->ak->(ag->Prop)->(Nat->ag->Prop)->Hp->Prop}(r:aN K F S s f H) (T:aU K H F x v) (Q:aU K H F y w) (h:Ok K E f F S H (bz (mH b d x y s)) C):∃O l,aN K F O l (aa v::aa w::fU f b) H/\Ok K E0 (aa v::aa w::fU f b) F O H (d l) (λa _ q _ p=>∃j B,aN K q B j f p/\bp (U S) (U B) F q H p/\C a j q B p):=by
 unfold mH at h;cases I:cP s b with
 |none=>rw[I]at h;exact h.elim
 |some g=>
  rw[I]at h;simp only[b7,R.bind_ok]at h;by_cases D:(cm g).Nodup
  .rw[if_pos D]at h;cases A:dR s (.inl x::.inl y::g)with
   |none=>rw[A]at h;exact h.elim
   |some l=>
    rw[A]at h;simp only[b7,R.bind_ok]at h;obtain⟨u,Z,Y⟩:=xn r I;have o:hU K f F H (.inl x::.inl y::g) (v::w::u):=⟨v,w::u,rfl,T,w,u,rfl,Q,Z⟩
    have n:aa v::aa w::fU f b=(v::w::u).map aa:=by rw[Y];rfl
    have m:(cm (.inl x::.inl y::g)).Nodup:=D;refine⟨kY (.inl x::.inl y::g) S,l,by rw[n];exact r.cal o A m,?_⟩;rw[n];cases G:d l with
    |no=>rw[G]at h;exact h.elim
    |er c J=>
     rw[G]at h;unfold d9 at h;dsimp only at h;by_cases i:eP (.inl x::.inl y::g) J=ah
     .rw[if_pos i]at h;exact h.elim
     .rw[if_neg i]at h;exact h.elim
    |ok a J=>
     rw[G]at h;intro q B p W X;unfold d9 at h;dsimp only at h;by_cases i:eP (.inl x::.inl y::g) J=ah
     .rw[if_pos i]at h;obtain⟨P,M,N,_⟩:=r.called o A m W X (λ_ z=>z) (kU i);exact⟨_,P,M,N,h q P p M N⟩
     .rw[if_neg i]at h;exact h.elim
  .rw[if_neg D]at h;exact h.elim
def Iq(J:It)(b:List (V×V))(R:Hp->Prop):Prop :=
 ∀H,R H->∀i,(∀x,b[i]?=aa x->J.go i H/\∀v a,J.yld i H v a->∃p,v=.ref p/\a p=aa (.tup [x.1,x.2])/\(a=H\/(H p=ae/\a=upd H p (.tup [x.1,x.2]))))/\(i=b.length->J.stop i H)
def sY(K:ay)(H:Hp)(F:ag->Prop)(b:List (PV×PV))(a:List (V×V)):Prop:=Reps K H F (b.map (·.1)) (a.map (·.1))/\Reps K H F (b.map (·.2)) (a.map (·.2))
def Bi(X:Cx)(E:XK)(o a:aB)(d:ak->R (List (PV×PV))):Prop:=∀F S j c H l,aN X.K F S j c H ->
 Ok X.K E c F S H (d j) (λp _ n q h=>∀J f m,sY X.K h n p f->f.length<=bh->Iq J f m->(∀g i b,bp (U q) (U g) n i h b->m b)->l J h)->nL X o a c H l
section
variable{X:Cx}{E:XK}{c:d7}{x y:Str}{d:List Str}{cap:List Nat}
theorem LP{elt L:aB}{tg:aB}{Z:List aB}{j:Nat}{di:ak->R (List (PV×PV))}{dt:ak->R Bool}{de:ak->R PV}(hi:Bi X E tg L di)(ht:∀C f g n r,DF (bM X c d C f g n r) E0 Z dt) (he:∀C f g n r,DE (bM X c d C f g n r) E0 elt de){F:ag->Prop}{S:Nat->ag->Prop}{ε:ak}{s:St}{H:Hp}{Q:VK} (rl:aN X.K F S ε s H) (h:Ok X.K E s F S H (qx cap di dt de ε) (λpo _ B S' w=>∀a Sa,eZ X.K w B po a Sa->(∀b,Sa b->H b=ae/\¬B b/\¬U S' b/\∃o,w b=aa o/\cU o)->Q (.ref a) w)):zo (nL X tg L) BP 1 (λs H Q=>∀C f g n r,qu (bM X c d C f g n r) Z s H Q) (λs H Q=>∀C f g n r,ig (bM X c d C f g n r) elt s H Q) (j::cap) s H Q:=by
 refine hi F S ε s H _ rl ((Ok.bind h).imp λxs ε1 P S1 H1 r1 g1 h1 J vs RR rs hz hw keep l hl=>?_);have h1:=h1.bind;have hvl:vs.length=xs.length:=by have:=rs.1.len;simpa using this
 have a0:Al P P H1 (upd H1 l (.lst [])):=Al.new0 hl;have nF1:¬P l:=λz=>by obtain⟨o,q⟩:=r1.ex l z;rw[hl]at q;cases q
 have nS1:¬U S1 l:=λζ=>by obtain⟨i,z⟩:=ζ;obtain⟨_,_,o,q,_⟩:=r1.foot i l z;rw[hl]at q;cases q
 have hH:H l=ae:=kM g1 hl;refine⟨λi m I w=>m=xs.length-i/\i<=xs.length/\∃B S' ε' aE,aN X.K B S' ε' s w/\bp (U S1) (U S') P B H1 w/\w l=aa (.lst I)/\¬B l/\¬U S' l/\Reps X.K w B aE I/\I.length<=i /\ Ok X.K E s P S1 H1 (oN cap dt de (xs.drop i) aE ε') (λys' D G S2 O=>Ok X.K E s G S2 O (R.ok (PO.lst ys') D) (λpo _ B S' w=>∀a Sa,eZ X.K w B po a Sa->(∀b,Sa b->H b=ae/\¬B b/\¬U S' b/\∃o,w b=aa o/\cU o)->Q (.ref a) w)),⟨_,rfl,lY _,P,S1,ε1,[],r1.al a0,a0.grow,upd_same,nF1,nS1,rfl,bd _,h1⟩,?_⟩;rintro i m I H0 ⟨rfl,hi,G,S2,D,aE,r0,g0,el0,nF2,nS2,A,hyl,q2⟩;have RH:=keep S2 G H0 g0;by_cases bv:i<xs.length
 .obtain⟨v,hv⟩:∃v,vs[i]?=aa v:=⟨_,fE ∅⟩
  obtain⟨go,yl⟩:=(hw H0 RH i).1 v hv;refine .inr ⟨go,λv' O yy=>?_⟩;obtain⟨p,e1,e2,e3⟩:=yl v' O yy;subst e1;refine⟨[aa v.1,aa v.2],rfl,⟨p,_,_,rfl,e2,rfl⟩,?_⟩;have al:Al G G H0 O:=by
   rcases e3 with rfl|⟨e3,rfl⟩
   .exact Al.refl ..
   .exact Al.new0 e3
  have r2:=r0.al al;have g2:bp (U S1) (U S2) P G H1 O:=g0.trans al.grow;have el:O l=aa (.lst I):=al.same _ _ el0;have K:=al.reps A;show ∀C f g n r,qu (bM X c d C f g n r) Z (aa v.1::aa v.2::fU s cap) O _;obtain⟨Y,hx,rx⟩:=rs.1.back (show(vs.map (·.1))[i]?=aa v.1 by rw[eR,hv];rfl);obtain⟨W,hy,ry⟩:=rs.2.back (show(vs.map (·.2))[i]?=aa v.2 by rw[eR,hv];rfl);have n:xs[i].1=Y:=by rw[eR,fE bv]at hx;exact cY hx
  have ey:xs[i].2=W:=by rw[eR,fE bv]at hy;exact cY hy
  have ed:xs.drop i=(Y,W)::xs.drop (i+1):=by rw[uc bv];congr 1;exact Prod.ext n ey
  rw[ed]at q2;have rx2:=rx.grow g2 r1.fit;have ry2:=ry.grow g2 r1.fit;have q3:=Ok.bindB q2 g2;obtain⟨Sb,ss,rb,okb⟩:=Fh r2 rx2 ry2 q3;intro C f g n r;refine ht C f g n r G Sb ss _ O _ rb (okb.imp λb _ F3 _ H3 _ _ ζ=>?_);obtain⟨ε3,S3,r3,M,q4⟩:=ζ;obtain⟨el3,nF3,nS3⟩:=M.stay el nS2 nF2;cases b with
  |false=>exact ng ⟨_,∅,rfl,bv,F3,S3,ε3,aE,r3,g2.trans M,el3,nF3,nS3,K.grow M r2.fit,∅,q4⟩
  |true=>refine nA ?_;have q5:Ok X.K E s P S1 H1 ((bz (mH cap de Y W ε3)).bind λy D=>oN cap dt de (xs.drop (i+1)) (aE++[y]) D) _:=q4;obtain⟨Sc,sc,rc,okc⟩:=Fh r3 (rx2.grow M r2.fit) (ry2.grow M r2.fit) (Ok.bindB q5 (g2.trans M));show ∀C f g n r,ig (bM X c d C f g n r) elt (aa v.1::aa v.2::fU s cap) H3 _;intro C f g n r;refine he C f g n r F3 Sc sc _ H3 _ rc (okc.imp λy _ F4 _ H4 _ _ ⟨ε4,S4,r4,g4,q6⟩ u ru=>?_);obtain⟨el4,nF4,nS4⟩:=g4.stay el3 nS3 nF3;have T:=(K.grow M r2.fit).grow g4 r3.fit;obtain⟨gl,N,r5⟩:=r4.lay (o':=.lst (I++[u])) el4 trivial nF4 nS4;have g5:=((g2.trans M).trans g4).lay (o':=.lst (I++[u])) hl;refine⟨el4,?_,_,∅,rfl,bv,F4,S4,ε4,aE++[y],r5,g5,upd_same,nF4,nS4,(T.grow gl N).app (.one (ru.grow gl N)),by simp;lia,q6⟩;lia
 .have e:i=xs.length:=∅
  subst e;refine .inl ⟨(hw H0 RH _).2 hvl.symm,?_⟩;rw[C7]at q2;exact q2 G S2 H0 r0 g0 G S2 H0 r0 (bp.refl ..) l (λb=>b=l) ⟨⟨I,el0,A⟩,λb=>l6⟩ λb z=>by subst z;exact⟨hH,nF2,nS2,_,el0,trivial⟩
def jO{b a:Type}(f:Nat->a):Nat->List b->List (a×b)
 |_,[]=>[]
 |n,x::xs=>(f n,x)::jO f (n+1) xs
theorem AR{b a:Type}(f:Nat->a):∀(n:Nat) (xs:List b),(jO f n xs).map (·.2)=xs
 |_,[]=>rfl
 |n,x::xs=>by show x::_=_;rw[AR f (n+1) xs]
theorem ID{b a:Type}(f:Nat->a):∀(n:Nat) (xs:List b) (i:Nat),(jO f n xs)[i]?=(xs[i]?).map λx=>(f (n+i),x)
 |_,[],i=>rfl
 |n,x::xs,0=>rfl
 |n,x::xs,i+1=>by show(jO f (n+1) xs)[i]?=(xs[i]?).map _;rw[ID f (n+1) xs i,show n+1+i=n+(i+1) by lia]
theorem AZ{b a:Type}(f:Nat->a):∀(n:Nat) (xs:List b),(jO f n xs).length=xs.length
 |_,[]=>rfl
 |n,x::xs=>by show(jO f (n+1) xs).length+1=_;rw[AZ f (n+1) xs];rfl
def vx(xs:List PV):List (PV×PV):=jO (λi=>PV.int (i:Nat)) 0 xs
theorem G8{K:ay}{H:Hp}{F:ag->Prop}:∀(n:Nat) {xs:List PV}{a:List V},Reps K H F xs a->Reps K H F ((jO (λi=>PV.int (i:Nat)) n xs).map (·.1)) ((jO (λi=>V.int i) n a).map (·.1))
 |_,[],a,h=>by cases h;rfl
 |n,x::xs,a,⟨v,r,e,f,b⟩=>by subst e;exact⟨_,_,rfl,rfl,G8 (n+1) b⟩
end
section
variable{X:Cx}{E:XK}{pin:List Nat}{a:d7}{x z:Str}{N':List Str}{cap:List Nat}{d b:aB}{y:Str}{n m l o g f:Pos}{k j:Nat}{p:ak->R (List (PV×PV))}{dt:ak->R Bool}{de:ak->R PV}{c:List aB}
theorem Tr(i:Nat)(hN:X.N.Nodup)(B:jq X a x N' (j::cap))(J:X.calm=ah)(Y:Bi X E (.Tuple [.Name x n,.Name z m] k l) b p)(O:∀C q r v u,DF (bM X a N' C q r v u) E0 c dt) (he:∀C q r v u,DE (bM X a N' C q r v u) E0 d de) (M:N'[1]?=aa z:=by rfl) (W:a.names.lookup z=aa .local:=by rfl)(T:i∉pin:=by decide) (L:X.N[i]?=aa y:=by rfl) (N:Loc X.env.scope y:=by first|exact Or.inl rfl|exact Or.inr rfl) (K:jZ (.ListComp d [⟨.Tuple [.Name x n,.Name z m] k l,b,c,0⟩] a g) (aa (.Name y o)) f.line X.env=pure ah:=by rfl)(Z:X.fn y=ah\/X.env.scope.names.lookup y=aa .local:=by first|exact .inl rfl|exact .inr rfl) (P:∀x,mJ b X.env x=pure x:=by intro _;rfl):DS X E pin (.Assign [.Name y o] (.ListComp d [⟨.Tuple [.Name x n,.Name z m] k l,b,c,0⟩] a g) f) (bW i (dF (qx cap p dt de))):=λF S ε w H D G h=>
 gC (Gy (k:=1) (tgf:=BP) (wi:=nL X (.Tuple [.Name x n,.Name z m] k l) b) (ts:=λw H Q=>∀C q r v u,qu (bM X a N' C q r v u) c w H Q) (te:=λw H Q=>∀C q r v u,ig (bM X a N' C q r v u) d w H Q) B (by simp) J zq (KQ B J M W)
  (λC q r v u A s w H Q I h=>(h C q r v u).run A s I) (λC q r v u A s w H Q I h=>(h C q r v u).run A s I) hN L N K Z P) (LP Y O he G (EZ T G h))
end
end Pu
namespace PySem
open PySem.AutoSeq1 (wpAny_loadPart')
section
variable{b:aV}{w:aL}{A:aX}{E:ai->am->Prop}{s:am}
theorem Me{a t:ag}{i:Nat}{items}{x:ai}{Q:ai->am->Prop}(f:s.heap.IsTupleIter a t i)(m:s.heap.IsTuple t items)(l:items[i]?=aa x)(p:∀g,g.IsTupleIter a t (i+1)->li a s.heap g->Q x {s with heap:=g}):ar (ax b w) A (Dm (.ref a)) Q E s:=by obtain⟨o,d,n,c⟩:=id f;obtain⟨q,j,_,r,h⟩:=m;unfold Dm;refine aq (v7 (name:=tX "__next__") f.typeIs Do (lX Do f.typeIs F.entry_tuple_iterator_next ?_ (F.args_tuple_iterator_next_1 _)));show ar _ _ (field (.ref a) 0 >>= _) _ _ s;refine aq (lW d c (x:=.ref t) rfl ?_);show ar _ _ (if(Value.ref t == Value.none)=ah then _ else _) _ _ s;rw[if_neg (show ¬((Value.ref t == Value.none)=ah)from eF)];show ar _ _ (field (.ref a) 1 >>= _) _ _ s;refine aq (lW d c (x:=.int i 0) rfl ?_);show ar _ _ (seqItems? (.ref t) >>= _) _ _ s;refine aq (wpAny_seqItems j h ?_);simp only[lm,l];refine aq (mO d c (by simp) (aG ⟨x,rfl,aG (p _ ?_ (pC ..))⟩));exact⟨_,mM _ d (wq (n6 c _)),(JJ ..).trans n,by rw[n6 c];simp[dq]⟩
theorem NJ{c t:ag}{i:Nat}{items}{Q:ai->am->Prop}(j:A.handled=ae)(d:s.heap.IsTupleIter c t i)(q:s.heap.IsTuple t items)(p:items[i]?=ae)(r:∀h e,Heap.ExtBut c s.heap h->(∃o,h.get? e=aa o/\o.cls=.type "StopIteration")->E (.ref e) {s with heap:=h}):ar (ax b w) A (Dm (.ref c)) Q E s:=by
 obtain⟨o,f,y,g⟩:=id d;obtain⟨u,n,_,v,l⟩:=q;unfold Dm;refine aq (v7 (name:=tX "__next__") d.typeIs Do (lX Do d.typeIs F.entry_tuple_iterator_next ?_ (F.args_tuple_iterator_next_1 _)));show ar _ _ (field (.ref c) 0 >>= _) _ _ s;refine aq (lW f g (x:=.ref t) rfl ?_);show ar _ _ (if(Value.ref t == Value.none)=ah then _ else _) _ _ s;rw[if_neg (show ¬((Value.ref t == Value.none)=ah)from eF)];show ar _ _ (field (.ref c) 1 >>= _) _ _ s;refine aq (lW f g (x:=.int i 0) rfl ?_);show ar _ _ (seqItems? (.ref t) >>= _) _ _ s;refine aq (wpAny_seqItems n l ?_);simp only[lm,p];refine aq (nZ (aq (mO f g (by simp) ?_)));show ar _ _ (qZ (.type "StopIteration") [] >>= _) _ _ _;refine aq ?_;simp only[qZ,newTuple];refine aq (j1 ?_ (by size_fits));refine aq (m:=wp _ _) (C0 (a:=Value.none) (by first|rfl | (simp only[wp];rfl)) ?_);refine j1 ?_ (by size_fits);simp only[wm];refine aq (wpAny_handled ?_)
 first|rw[show A.in1.handled=ae from j]|rw[j]
 refine aq (aG (wpAny_throw ?_));exact r _ _ (((pC ..).extBut.push _).push _) ⟨_,cG _ rfl,rfl⟩
end
theorem Oy(l:ag)(a:Array ai)(n:Nat)(i:Option ag)(o:Array (Option ai)):Meets (Builtin.«enumerate.__new__» ⟨[.type "enumerate",.ref l],[]⟩) (λ_ R s=>s.heap.get? l=aa {cls:=.type "tuple",dict:=i,data:=.seq a n,slots:=o} /\ R (.ok (.ret (.ref (s.heap.push {cls:=.type "tuple_iterator",data:=.fields #[.ref l,.int 0 0]}).objs.size))) {s with heap:=(s.heap.push {cls:=.type "tuple_iterator",data:=.fields #[.ref l,.int 0 0]}).push {cls:=.type "enumerate",data:=.fields #[.none,.bool aj,.ref s.heap.objs.size,dq 0,.none,.none]}}) :=
 .of_wp λj w A R s h=>by
  obtain⟨q,g,d,m,p⟩:=s;obtain⟨b,h⟩:=h;have u:=sub_enumerate;have f:Heap.IsTuple (Shared.heap ⟨q,g,d,m,p⟩) l a:=⟨_,b,rfl,n,rfl⟩
  wp_walk using tW b
  refine wpAny_stack_any λr=>aG ?_;split
  .rename_i c _ _ _ _ _;cases (c == Value.type "enumerate")
   .wp_walk using tW b,C8 f
    exact⟨_,rfl,h⟩
   .wp_walk using tW b,C8 f
    exact⟨_,rfl,h⟩
  .wp_walk using tW b,C8 f
   exact⟨_,rfl,h⟩
theorem Draws.tuple{b:aV}{w:aL}{A:aX}(j:A.handled=ae)(c l:ag)(q:l≠c)(a:Array ai):Draws b w A c [c,l] a.size (λi v=>a[i]?=aa v) (λi h=>h.IsTupleIter c l i/\h.IsTuple l a) where
 live:=λ_ _ st=>let ⟨o,ho,_⟩:=st.1;⟨o,ho⟩
 frame:=λ_ _ _ st f=>⟨let ⟨o,ho,r⟩:=st.1;⟨o,f c (by simp) o ho,r⟩,let ⟨o,ho,r⟩:=st.2;⟨o,f l (by simp) o ho,r⟩⟩
 item:=λi s Q E g st m=>by refine Me st.1 st.2 (x:=a[i]) (by simp[g]) λp u d=>?_;exact m _ p s.toks (by simp[g]) ⟨u,st.2.extBut d.extBut q⟩ d
 done:=λs Q E st n=>NJ j st.1 st.2 (by simp) n
section
variable{a:aV}{w:aL}{A:aX}{E:ai->am->Prop}{s:am}
theorem NS{l:ag}{d:Array ai}{Q:ai->am->Prop}(v:s.heap.IsTuple l d)(h:∀f,IsEnum f (s.heap.objs.size+1) s.heap.objs.size 0 .none->f.IsTupleIter s.heap.objs.size l 0->f.objs.size=s.heap.objs.size+2 -> (∀b o,s.heap.get? b=aa o->f.get? b=aa o)->Q (.ref (s.heap.objs.size+1)) {s with heap:=f}):ar (ax a w) A (call (.type "enumerate") [.ref l]) Q E s:=by
 obtain⟨⟨c,p,dt,r⟩,u,m,n,j⟩:=v;replace m:c=.type "tuple":=m;replace j:dt=.seq d n:=j;subst m j;refine callType_new F.called_enumerate (by decide) (F.typeCall_enumerate_1 _) (F.newCall_enumerate_1 _) (λg=>F.args_object_init_2 g _) F.entry_enumerate_new
  (Oy l d n p r) ⟨u,?_⟩
 have i:(s.heap.push {cls:=.type "tuple_iterator",data:=.fields #[.ref l,.int 0 0]}).objs.size=s.heap.objs.size+1:=v_ ..;show _/\_;rw[i];have q:IsEnum ((s.heap.push {cls:=.type "tuple_iterator",data:=.fields #[.ref l,.int 0 0]}).push {cls:=.type "enumerate",data:=.fields #[.none,.bool aj,.ref s.heap.objs.size,dq 0,.none,.none]}) (s.heap.objs.size+1) s.heap.objs.size 0 .none:=by
  have:=cG (s.heap.push {cls:=.type "tuple_iterator",data:=.fields #[.ref l,.int 0 0]})
   (o:={cls:=.type "enumerate",data:=.fields #[.none,.bool aj,.ref s.heap.objs.size,dq 0,.none,.none]}) rfl
  rw[i]at this;exact this
 refine⟨⟨_,q,rfl⟩,h _ q ⟨_,bK _ (cG _ rfl),rfl,rfl⟩ (by rw[v_,i]) λb o x=>bK _ (bK _ x)⟩
end
end PySem
namespace L2
def yE(K:ay)(a:ag):It :=⟨λi H=>∃xs x,cu K H a xs/\xs[i]?=aa x,λi H v c=>∃p x,H p=ae/\v=.ref p/\c=upd H p (.tup [.int i,x])/\∀b,cu K H a b->b[i]?=aa x,λi H=>∃xs,cu K H a xs/\xs.length=i⟩
theorem Oh{P:aV}{w:aL}{K:ay}{es:List aB}{k:Nat}{pos:Pos}(a e g:ag)(cp:e≠g):qi P w K (.Tuple es k pos) (yE K a) [e,g] e (λi h=>(∃j,IsEnum h e g (i:Nat) j)/\h.IsTupleIter g a i) where
 mem:=by simp
 obj:=λi h ⟨⟨j,B⟩,f⟩ b m=>by
  simp only[bI,gX,or_false]at m;rcases m with rfl|rfl
  .exact⟨_,B,λv z=>by cases z⟩
  .obtain⟨o,e,c,d⟩:=f;exact⟨o,e,λv z=>by rw[d]at z;cases z⟩
 keep:=λi h h' ⟨⟨j,B⟩,f⟩ k=>⟨⟨j,k e (by simp) _ B⟩,let ⟨o,ho,r⟩:=f;⟨o,k g (by simp) o ho,r⟩⟩
 item:=by
  intro X T hw hK D i af s σ H E I Z f hg;subst T hw hK;obtain⟨⟨j,B⟩,f⟩:=f;obtain⟨xs,x,Y,hx⟩:=hg;obtain⟨l,rv,p,hz⟩:=I.tuple Y;obtain⟨u,hu,ru⟩:=rv.get hx;obtain⟨f0,f1,f2,f3,f4,f5⟩:=Z e (by simp);obtain⟨g0,g1,g2,g3,g4,g5⟩:=Z g (by simp);have G:a≠g:=λz=>by
   obtain⟨o1,y,J,_⟩:=p;obtain⟨o2,e2,c2,_⟩:=f;rw[z,e2]at y;cases y;rw[c2]at J;exact absurd J (by decide)
  have hea:e≠a:=λz=>by
   obtain⟨o1,y,J,_⟩:=p;rw[<-z,B]at y;cases y;exact absurd (show Value.type "enumerate"=Value.type "tuple" from J) (by decide)
  have bv:i<l.toArray.size:=by have:=(cM.mp hu).1;simpa using this
  refine wpAny_pyNext_enum_itemD (Draws.tuple (by show X.A.in1.handled=ae;exact I.ok.hd D) g a G l.toArray) B ⟨f,p⟩ bv cp (by simp[cp,hea]) λL h' W T he' aA ht hsz kp=>⟨_,rfl,?_⟩
  have eu:L=u:=by
   have C:l[i]?=aa L:=by simpa using T
   rw[hu]at C;exact(cY C).symm
  subst eu;replace aA:=aA.1;refine wpAny_letOwnedTupleGo_enum (s:={s with heap:=h',toks:=W+1}) he' λh2 S sb=>?_;have O:s.heap.objs.size≠e:=qO (bN B);have N:h2.get? s.heap.objs.size=aa {cls:=.type "tuple",data:=.seq #[.int i W,L]}:=(sb.2 _ O).trans ht;have A:∀b o,b≠e->b≠g->s.heap.get? b=aa o->h2.get? b=aa o:=λb o C h3 q=>(sb.2 b C).trans (kp b o C h3 q);have fr:=I.fresh;have Q:∀b u,H b=aa u->b≠s.heap.objs.size:=λb u q z=>by rw[z,fr]at q;cases q
  have F:∀b o,s.heap.get? b=aa o->∃o',h2.get? b=aa o':=λb o q=>by
   by_cases C:b=e
   .subst C;exact⟨_,S⟩
   .by_cases h3:b=g
    .subst h3;obtain⟨oi,y,_⟩:=aA;exact⟨oi,(sb.2 b C).trans y⟩
    .exact⟨o,A b o C h3 q⟩
  have I2:Inv X af σ (upd H s.heap.objs.size (.tup [.int i,x])) {s with heap:=h2,toks:=W+1}:=by
   refine I.call' (ch:=[e,g]) rfl ⟨λb o q n _ M=>A b o (λz=>M (by simp[z])) (λz=>M (by simp[z])) q,λb o q n _ M=>⟨o.slots,A b o (λz=>M (by simp[z])) (λz=>M (by simp[z])) q⟩,λb o q n _=>by rw[bj (cZ (bN q))];exact n,λb o q _=>F b o q,λb ys q=>by rw[bj (Q b _ q)];exact q,λb o u q=>by rw[bj (Q b _ q)];exact q,λb ps q=>by rw[bj (Q b _ q)];exact q⟩ (λb v q=>?_) I.bare λb m=>?_
   .by_cases m:b=s.heap.objs.size
    .subst m;rw[upd_same]at q;cases q;exact⟨by show 2<=bh;decide,[.int i W,L],.cons ⟨_,rfl⟩ (.cons ru .nil),⟨_,N,rfl,_,rfl⟩,_,N,rfl⟩
    .rw[bj m]at q;have ne1:∀c,H c≠ae->c≠e/\c≠g:=λc D=>⟨λz=>D (by rw[z];exact f0),λz=>D (by rw[z];exact g0)⟩
     refine(I.hok b v q).stay (λc o D r=>?_) (λc r=>by rw[bj (Q c _ r)];exact r) λc ys r=>by rw[bj (Q c _ r)];exact r
     have:=ne1 c (by rcases D with z|z <;> (first | (rw[<-z,q];simp) | (rw[z,q];simp) | (rw[z];simp)));exact A c o this.1 this.2 r
   .simp only[bI,gX,or_false]at m;rcases m with rfl|rfl
    .exact⟨f3,f1,f4,f5⟩
    .exact⟨g3,g1,g4,g5⟩
  refine⟨.ref s.heap.objs.size,_,I2,rfl,⟨s.heap.objs.size,x,fr,rfl,rfl,λys hy=>by rw[I.tuple_inj hy Y];exact hx⟩,⟨⟨L,(show((i+1:Nat):Int)=(i:Int)+1 by lia) ▸ S⟩,let ⟨o,ho,r⟩:=aA;⟨o,(sb.2 g cp.symm).trans ho,r⟩⟩,λb m=>?_⟩;simp only[bI,gX,or_false]at m;rcases m with rfl|rfl
  .rw[bj (dN O)];exact f0
  .obtain⟨oi,y,_⟩:=f;rw[bj (cZ (bN y))];exact g0
 done:=by
  intro X T hw hK D i af s σ H E I Z f hg;subst T hw hK;obtain⟨⟨j,B⟩,f⟩:=f;obtain⟨xs,Y,hx⟩:=hg;obtain⟨l,rv,p,hz⟩:=I.tuple Y;obtain⟨g0,g1,g2,g3,g4,g5⟩:=Z g (by simp);have hl:=rv.length;have G:a≠g:=λz=>by
   obtain⟨o1,y,J,_⟩:=p;obtain⟨o2,e2,c2,_⟩:=f;rw[z,e2]at y;cases y;rw[c2]at J;exact absurd J (by decide)
  have hi:i=l.toArray.size:=by simp;lia
  rw[hi]at f;exact wpAny_pyNext_enum_endD (Draws.tuple (by show X.A.in1.handled=ae;exact I.ok.hd D) g a G l.toArray) B ⟨f,p⟩ λh' eb=>⟨rfl,I.turned (t':=s.toks) (λb o m e=>eb b o m e) g0 g1 g3 g4 g5⟩
 self:=λ_ _ _ _ _ f h=>wpAny_pyIter_enum f.1.choose_spec h
section
variable{X:Cx}{d:List aB}{k:Nat}{c:Pos}
def Ub(K:ay)(h:TA):TI:=λf H R=>h f H λg b=>∃a xs,g=[.ref a]/\cu K b a xs/\(xs.length<=bh->R (yE K a) b)
theorem Mr{e:aB}{m:TA}{p i:Pos}(K:Gl X "enumerate")(J:X.mg "enumerate"=ae)(L:PA X [e] m)(F:aR [e] X.env=[(aj,a6 e X.env)]:=by rfl):PI X (.Tuple d k c) (.Call (.Name "enumerate" p) [e] [] i) (Ub X.K m):=by
 intro v s l H R I h;refine Call_ (vI I K J (show fe "enumerate"=aa (.type "enumerate") by decide +kernel) (Jg (aW (L i v s l H _ I h) λO f ⟨N,w,g,z,A⟩=>?_) F rfl));obtain⟨a,xs,e,G,q⟩:=A;subst e;obtain⟨u,rfl,y⟩:=vals1 z;cases y;obtain⟨j,P,B,D⟩:=g.tuple G;refine NS (show f.heap.IsTuple a j.toArray from B) λr n x E C=>?_;refine wpAny_pyIter_enum (s:={f with heap:=r}) n ?_;have M:Inv X v l w {f with heap:=r}:=g.kept (t':=f.toks) C;refine⟨f.heap.objs.size+1,[f.heap.objs.size+1,f.heap.objs.size],_,_,w,rfl,M,Oh a _ _ (Nat.succ_ne_self _),⟨⟨_,n⟩,x⟩,λb o=>?_,q D⟩;simp only[bI,gX,or_false]at o;rcases o with rfl|rfl
 .exact g.fpOk (wb _) (g.hok.fresh (wb _))
 .exact g.fpOk (bd _) (g.hok.fresh (bd _))
end
end L2
namespace Pu
open L2
section
variable{X:Cx}{E:XK}
theorem Pz{K:ay}{a:ag}{b:List V}:Iq (yE K a) (jO (λi=>V.int i) 0 b) (λH=>cu K H a b):=λH h i=>
 ⟨λx d=>by
  rw[ID,jD]at d;obtain⟨z,c,rfl⟩:=d;refine⟨⟨b,z,h,c⟩,λv n ⟨p,w,m,l,j,g⟩=>?_⟩;have:=g b h;rw[c]at this;cases this;subst l j;rw[ud];exact⟨p,rfl,upd_same,.inr ⟨m,rfl⟩⟩,λf=>⟨b,h,by rw[f,AZ]⟩⟩
def vg(a:ak->R (List PV)):ak->R (List (PV×PV)):=λε=>(a ε).bind λx ε1=>match x with
 |[.tup xs]=>.ok (vx xs) ε1
 |_=>.no
theorem Rp{C:List aB}{k:Nat}{q p d:Pos}{a:aB}{m:ak->R (List PV)}(z:X.mg "enumerate"=ae)(b:DA X E [a] m)(A:Gl X "enumerate":=by rfl)(y:aR [a] X.env=[(aj,a6 a X.env)]:=by rfl):Bi X E (.Tuple C k q) (.Call (.Name "enumerate" p) [a] [] d) (vg m):=λF S o g H J u h=>Bx.mk λD s I=>by
 refine Mr A z im y D s g H J I (b F S o g H _ u ((Ok.bind h).imp λxs n L G K l N f M w=>?_));split at f
 .rename_i xs;obtain⟨v,rfl,r⟩:=ik w;obtain⟨a,c,rfl,b,j⟩:=r;refine⟨a,c,rfl,cu.of b,λx=>f L G K l (bp.refl ..) (yE X.K a) (jO (λi=>V.int i) 0 c) (λH=>cu X.K H a c) ⟨G8 0 j,by rw[AR];unfold vx;rw[AR];exact j⟩ (by rw[AZ];exact x) Pz λO Q P B=>cu.of (B.imm l.fit b id)⟩
 .exact f.elim
end
abbrev eY:=List aF
def rY(a:List (eY×PV))(k:eY)(v:PV):List (eY×PV):=if(a.any λb=>decide (b.1=k))=ah then a.map (λb=>if b.1=k then(b.1,v)else b)else a++[(k,v)]
def qa:List PV->Option eY
 |[]=>aa []
 |x::xs=>(ij x).bind λk=>(qa xs).map (k::·)
def o6:PV->Option eY
 |.tup xs=>qa xs
 |_=>ae
section
variable{K:ay}{F:ag->Prop}{S:Nat->ag->Prop}{ε:ak}{f:St}{H:Hp}{i:Nat}{c:List (eY×PV)}{d:List (eY×V)}{a:ag}
theorem Gp:∀{xs:List PV}{b:List V}{k:eY},Reps K H F xs b->qa xs=aa k->b=k.map kV
 |[],b,k,r,e=>by cases r;cases e;rfl
 |x::xs,b,k,⟨v,r,j,h,g⟩,e=>by simp only[qa,zQ,jD]at e;obtain⟨n,m,ks,l,rfl⟩:=e;rw[j,tt h m,Gp g l];rfl
theorem Ej{x:PV}{v:V}{k:eY}(r:aU K H F x v)(e:o6 x=aa k):∃b,v=.ref b/\H b=aa (.tup (k.map kV)):=by
 cases x <;> simp[o6]at e;obtain⟨b,j,rfl,h,g⟩:=r;exact⟨b,rfl,by rw[h,Gp g e]⟩
theorem jz.len(h:jz K H F c d):d.length=c.length:=by
 unfold jz at h
 induction h with
 |nil=>rfl
 |cons _ _ b=>simp[b]
theorem jz.any(h:jz K H F c d)(k:eY):(c.any λb=>decide (b.1=k))=d.any λb=>decide (b.1=k):=by
 unfold jz at h
 induction h with
 |nil=>rfl
 |cons r _ g=>rw[nW,nW,g,r.1]
theorem jz.put(h:jz K H F c d)(k:eY){x:PV}{v:V}(r:aU K H F x v):jz K H F (rY c k x) (fW d k v):=by
 unfold rY fW;rw[h.any k];split
 .rename_i b;clear b;unfold jz at h ⊢
  induction h with
  |nil=>exact .nil
  |@cons p q ps qs r1 _ ih=>
   refine .cons ?_ ih;dsimp only;by_cases e:p.1=k
   .rw[if_pos e,if_pos (by rw[<-r1.1];exact e)];exact⟨r1.1,r⟩
   .rw[if_neg e,if_neg (by rw[<-r1.1];exact e)];exact r1
 .exact CM h ⟨rfl,r⟩
theorem aN.dtAt(r:aN K F S ε f H)(e:ε[i]?=aa (.own (.dT c))):∃a d,f[i]?=aa (aa (.ref a))/\H a=aa (.dT d)/\jz K H F c d/\S i a/\∀b,S i b->b=a:=by obtain⟨a,n,⟨j,m,l⟩,g⟩:=r.own i _ e;exact⟨a,j,n,m,l,(g a).mpr rfl,λb h=>(g b).mp h⟩
end
def ka(ε:ak)(i:Nat):Option (List (eY×PV)):=match ε[i]? with
 |some (.own (.dT a))=>aa a
 |_=>ae
theorem vc{b:ak}{i:Nat}{a:List (eY×PV)}(h:ka b i=aa a):b[i]?=aa (.own (.dT a)):=by
 unfold ka at h;split at h
 .cases h;assumption
 .cases h
section
variable{X:Cx}{E:XK}{pin:List Nat}{e b c:aB}{de db f:ak->R PV}{d:Pos}
def xV(i:Nat)(db de:ak->R PV):ak->R aO:=λj=>(de j).bind λy g=>(aQ (ka g i) g).bind λ_ g=>(db g).bind λk a=>(aQ (ka a i) a).bind λh a=>(aQ (o6 k) a).bind λk a=>if h.length<bo then .ok .next (a.set i (.own (.dT (rY h k y))))else .no
theorem Uw(i:Nat){y:Str}{C j:Pos}(hu:X.A.units+64<cLine)(hb:DE X E b db)(he:DE X E e de)(hN:X.N[i]?=aa y:=by rfl)(ff:ez X.env.scope y:=by first|exact Or.inl rfl|exact Or.inr (Or.inl rfl)|exact Or.inr (Or.inr rfl))(hd:(y==("__debug__":Str))=aj:=by decide) (bB:(y==("__classdict__":Str))=aj:=by decide) (Z:jZ e (aa (.Subscript (.Name y C) b j)) d.line X.env=pure aj:=by rfl):DS X E pin (.Assign [.Subscript (.Name y C) b j] e d) (xV i db de):=λF S K o H D Q h=>by
 refine gC (E4 ∅ (fI hN ff hd bB) bT bT Z) (he F S K o H _ Q (h.bindE.imp λy l F1 S1 H1 r g1 q v N=>?_));cases B:ka l i with
 |none=>rw[B]at q;exact q.elim
 |some I=>
  rw[B]at q;simp only[b7,R.bind_ok]at q;obtain⟨a,L,z,ha0,_⟩:=r.dtAt (vc B);refine⟨.ref a,z,hb F1 S1 l o H1 _ r (q.bindE.imp λk p F2 S2 H2 G g2 g u O=>?_)⟩;cases n:ka p i with
  |none=>rw[n]at g;exact g.elim
  |some w=>
   rw[n]at g;simp only[b7,R.bind_ok]at g;obtain⟨a',M,m,ha,J,_⟩:=G.dtAt (vc n);rw[z]at m;cases m;cases A:o6 k with
   |none=>rw[A]at g;exact g.elim
   |some s=>
    rw[A]at g;simp only[b7,R.bind_ok]at g;split at g
    .rename_i hl;obtain⟨bb,rfl,P⟩:=Ej O A;have eJ:=J.put s (N.grow g2 r.fit);obtain⟨T,g3⟩:=G.updO (po':=.dT (rY w s y)) (o':=.dT (fW M s v)) (vc n) rfl z trivial λH' Y m2 x Sa W=>⟨⟨_,x,eJ.mono Y⟩,W⟩
     exact⟨a,_,rfl,zu.t ha P (by rw[J.len];exact ix hl mE),g F2 S2 o _ T g3 (iC.refl _ _)⟩
    .exact g.elim
def y4:ak->R PO:=λε=>.ok (.dT []) ε
theorem Nf:DN X E (.Dict [] [] d) y4:=λF S l i H Q g h=>b9 To λp a=>by
 have al:Al F F H (upd H p (.dT [])):=Al.new0 a;refine h F S _ (g.al al) al.grow p (λb=>b=p) ⟨⟨[],upd_same,.nil⟩,λb=>l6⟩ λb z=>?_;subst z;refine⟨a,λz=>?_,λ⟨j,z⟩=>?_,_,upd_same,trivial⟩
 .obtain⟨o,q⟩:=g.ex b z;rw[a]at q;cases q
 .obtain⟨_,_,o,q,_⟩:=g.foot j b z;rw[a]at q;cases q
end
end Pu
namespace L2
def lA(h:aD)(d:ag)(a:Array t5)(b:Nat):Prop:=∃o,h.get? d=aa o/\o.ExactDict/\o.data=.dict a b
section
variable{P:aV}{w:aL}{A:aX}{E:ai->am->Prop}{s:am}{d it:ag}{es:Array t5}{ep i:Nat}
theorem lA.ty(r:lA s.heap d es ep):s.TypeIs (.ref d) "dict":=let ⟨o,ho,hc,_⟩:=r;⟨o,ho,hc.1⟩
theorem lA.at{h h':aD}(r:lA h d es ep)(k:∀o,h.get? d=aa o->h'.get? d=aa o):lA h' d es ep:=let ⟨o,ho,z⟩:=r;⟨o,k o ho,z⟩
theorem lA.lt{h:aD}(r:lA h d es ep):d<h.objs.size:=let ⟨o,ho,_⟩:=r;bN ho
theorem F8{Q:ai->am->Prop}(f:(d == jY)=aj)(r:lA s.heap d es ep)(q:Q (.ref s.heap.objs.size) {s with heap:=s.heap.push {cls:=.type "dict_keyiterator",data:=.fields #[.ref d,.int 0 0,.int es.size 0,.int ep 0]}}):ar (ax P w) A (nR (.ref d)) Q E s:=by have a:=r.ty;obtain⟨o,c,g,b⟩:=id r;refine JE a F.slot_dict_iter (lX F.slot_dict_iter a F.entry_dict_iter ?_ (F.args_dict_iter_1 _));unfold Builtin.«dict.__iter__» Builtin.Dict.dictSlotNone;refine aq (aq (wpAny_notOrdered_dict a ?_));refine aG (show ar _ _ (Builtin.Dict.showsAll d >>= _) _ _ s from ?_);unfold Builtin.Dict.showsAll;rw[if_neg (by rw[f];exact eF)];refine aq (aG (aq (JX c b (aq (wpAny_dictEpoch c b ?_)))));refine aq (j1 (aG ⟨_,rfl,"dict_keyiterator",_,⟨_,cG _ rfl,rfl⟩,F.slot_dict_keyiterator_next.lookup,?_⟩));simpa[dq]using q
theorem Eb{Q:Option ai->am->Prop}(a:s.heap.IsKeyIter it d i es.size ep)(r:lA s.heap d es ep)(m:i<es.size)(q:∀g,g.IsKeyIter it d (i+1) es.size ep->li it s.heap g->Q (aa es[i].key) {s with heap:=g}):ar (ax P w) A (mI (.ref it)) Q E s:=by
 obtain⟨n,c,f,b⟩:=id a;obtain⟨o,h,p,j⟩:=id r;unfold mI;refine aq (C1 (v7 (name:=tX "__next__") a.typeIs Dp (lX Dp a.typeIs UP ?_ (UQ _))));refine aq (aG (aq (aq ?_)))
 first|refine aq (Dq a.typeIs (aG ?_))|refine aq (Dr a.typeIs (aG ?_))
 refine aq (wpAny_fieldsOf c b ?_);simp only[show Builtin.Dict_items.ownsTuple "dict_keyiterator"=aj by decide,l0,if_false];show ar _ _ (if(Value.ref d == Value.none)=ah then _ else _) _ _ s;rw[if_neg (show ¬((Value.ref d == Value.none)=ah)from eF)];refine aq (aG (aq (JX h j ?_)));rw[if_neg (by simp)];refine aq (aG (aq (wpAny_dictEpoch h j ?_)));rw[if_neg (by simp)];refine aG ?_;simp only[show ¬((i:Int)<0)from by lia,if_false,lm,ub m];refine aq ?_
 first|refine aq (Dq a.typeIs (aG ?_))|refine aq (Dr a.typeIs (aG ?_))
 refine aq (wpAny_isOneOf_keyiter a.typeIs ?_);refine show ar _ _ (l5 (.ref it) 1 (dq ((i:Int)+1)) >>= _) _ _ s from aq (mO c b (by simp) ?_)
 have l:(s.heap.update it (l7 (·.setIfInBounds 1 (dq ((i:Int)+1))))).IsKeyIter it d (i+1) es.size ep :=⟨_,mM _ c (wq (n6 b _)),(JJ ..).trans f,by rw[n6 b];simp[dq]⟩
 refine aq (j0 (aq (wpAny_isOneOf_keyiter (s:={s with heap:=s.heap.update it (l7 (·.setIfInBounds 1 (dq ((i:Int)+1))))}) l.typeIs ?_)));exact show ar _ _ (pure es[i].key) _ _ _ from aG (aG ⟨_,rfl,aG (q _ l (pC ..))⟩)
theorem IA{Q:Option ai->am->Prop}(o:A.handled=ae)(c:s.heap.IsKeyIter it d i es.size ep)(r:lA s.heap d es ep)(n:es.size<=i)(q:∀l,Heap.ExtBut it s.heap l->Q ae {s with heap:=l}):ar (ax P w) A (mI (.ref it)) Q E s:=by
 obtain⟨u,j,p,g⟩:=id c;obtain⟨v,f,x,h⟩:=id r;unfold mI;refine aq (C1 (v7 (name:=tX "__next__") c.typeIs Dp (lX Dp c.typeIs UP ?_ (UQ _))));refine aq (aG (aq (aq ?_)))
 first|refine aq (Dq c.typeIs (aG ?_))|refine aq (Dr c.typeIs (aG ?_))
 refine aq (wpAny_fieldsOf j g ?_);simp only[show Builtin.Dict_items.ownsTuple "dict_keyiterator"=aj by decide,l0,if_false];show ar _ _ (if(Value.ref d == Value.none)=ah then _ else _) _ _ s;rw[if_neg (show ¬((Value.ref d == Value.none)=ah)from eF)];refine aq (aG (aq (JX f h ?_)));rw[if_neg (by simp)];refine aq (aG (aq (wpAny_dictEpoch f h ?_)));rw[if_neg (by simp)];refine aG ?_;simp only[show ¬((i:Int)<0)from by lia,if_false,lm,Array.getElem?_eq_none n];refine aq ?_
 first|refine aq (Dq c.typeIs (aG ?_))|refine aq (Dr c.typeIs (aG ?_))
 refine show ar _ _ (l5 (.ref it) 0 .none >>= _) _ _ s from aq (mO j g (by simp) ?_)
 refine show ar _ _ (qZ (.type "StopIteration") [] >>= _) _ _ _ from aq ?_
 simp only[qZ,newTuple];refine aq (j1 ?_ (by size_fits));refine aq (m:=wp _ _) (C0 (a:=Value.none) (by first|rfl | (simp only[wp];rfl)) ?_);refine j1 ?_ (by size_fits);simp only[wm];refine aq (wpAny_handled ?_);rw[show A.in1.handled=ae from o];refine aq (aG (wpAny_throw ?_));refine aq (JF (T:="StopIteration") (b:=ah) ⟨_,cG _ rfl,rfl⟩ isSubtype_stop ?_);exact aG (q _ (((pC ..).extBut.push _).push _))
theorem NB(p:A.handled=ae)(I d:ag)(q:d≠I)(es:Array t5)(ep:Nat):Walks P w A I [I,d] [I] es.size (λi v=>∃e,es[i]?=aa e/\v=e.key) (λi h=>h.IsKeyIter I d i es.size ep/\lA h d es ep) where
 sub:=λb c=>by simp at c;simp[c]
 frame:=λ_ _ _ a m=>⟨a.1.at λo e=>m I (by simp) o e,a.2.at λo e=>m d (by simp) o e⟩
 item:=λi s Q E n a f=>Eb a.1 a.2 n λj r l=>f _ j s.toks ⟨es[i],by simp[n],rfl⟩ ⟨r,a.2.at λo e=>by rw[l.2 d q];exact e⟩ λb o c e=>l.extBut b o (λh=>c (by simp[h])) e
 done:=λs Q E a f=>IA p a.1 a.2 (bd _) λj g=>f j s.toks λb o c e=>g b o (λh=>c (by simp[h])) e
 self:=λ_ _ _ _ a f=>wpAny_pyIter_keyiter a.1 f
theorem QS(c:(d == jY)=aj):PySem.W.KdlSrc P w "dict" d d es.size (λi v=>∃e,es[i]?=aa e/\v=e.key) (λh=>lA h d es ep) where
 type:=λ_ a=>a.ty
 there:=λ_ a=>⟨a.lt,a.lt⟩
 keep:=λ_ _ a f=>a.at λo e=>f d (.inl rfl) o e
 notList:=by decide
 notTuple:=by decide
 hint:=λ_ _ _ _ a b=>PySem.W.kdl_hint_dict a.ty b
 iter:=λ_ _ g a=>⟨_,_,(λ_ _ b=>F8 c a b),NB g _ d (cZ a.lt) es ep,⟨⟨_,cG _ rfl,rfl,rfl⟩,a.at λo e=>bK _ e⟩⟩
end
section
variable{X:Cx}{f:List (ag×Obj)}{d:St}{H:Hp}{s:am}{a:ag}{c:List (List aF×V)}
theorem Hi{P:aV}{w:aL}{h:aD}{o:Obj}(z:h.get? a=aa o)(k:cB P w H h a (.dT c)):(a == jY)=aj/\∃j,lA h a j (r8 o)/\j.size=c.length/\(c.map (·.1)).Nodup /\
  ∀(i:Nat) (e:t5),j[i]?=aa e->∃p b,c[i]?=aa p/\e.key=.ref b/\H b=aa (.tup (p.1.map kV)):=by
 obtain⟨u,F,xs,g,L,j,J,E,v,D,y,A⟩:=k;rw[z]at E;cases E;have K:r8 o=J:=by unfold r8;rw[D]
 have B:=qK g;refine⟨F,j,⟨o,z,v,by rw[K];exact D⟩,by rw[<-jc,y,cz];exact B.symm,?_,λi e C=>?_⟩
 .have:c.map (·.1)=xs.map (·.1):=by
   clear y A B u
   induction g with
   |nil=>rfl
   |cons r _ n=>simp[n,r.1]
  rw[this];exact A
 .rw[<-pE,y,eR]at C;obtain⟨x,v,rfl⟩:=jD.mp C;have:∀{l:List (List aF×V)}{m:List (List aF×ag×ai)} (i:Nat) (x:List aF×ag×ai),fY (λ(p:List aF×V) (q:List aF×ag×ai)=>p.1=q.1/\H q.2.1=aa (.tup (p.1.map kV))/\RelV p.2 q.2.2) l m->m[i]?=aa x->∃p,l[i]?=aa p/\H x.2.1=aa (.tup (p.1.map kV)):=by
   intro l m i x r
   induction r generalizing i with
   |nil=>intro e;simp at e
   |cons r _ n=>
    intro e;cases i with
    |zero=>simp at e;subst e;exact⟨_,rfl,r.2.1⟩
    |succ i=>exact n i (by simpa using e)
  obtain⟨p,G,I⟩:=this i x g v;exact⟨p,x.2.1,G,rfl,I⟩
theorem Inv.freezeT(I:Inv X f d H s)(e:H a=aa (.dT c)):∃o,s.heap.get? a=aa o/\Inv X f d (upd H a (.frz o (.dT c))) s:=by
 have k:cB X.prog X.w H s.heap a (.dT c):=I.hok a _ e;obtain⟨z,h,xs,b,o,es,ep,g,r⟩:=id k;refine⟨o,g,I.recast e (λ_ q=>by cases q) (λo u q=>?_) (λ_ q=>by cases q) (λ_ q=>by cases q) ⟨g,z,h,xs,Paired.mapP b λp q z=>⟨z.1,?_,z.2.2⟩,o,es,ep,g,r⟩⟩
 .have:=I.base.frzs a o u q;rw[e]at this;cases this
 .rw[bj (xr z.2.1 e (λz=>nomatch z))];exact z.2.1
theorem Inv.thawT{o:Obj}(I:Inv X f d H s)(e:H a=aa (.frz o (.dT c)))(h:∀o u,X.H₀ a≠aa (.frz o u)):Inv X f d (upd H a (.dT c)) s:=by
 obtain⟨i,z,g,xs,b,r⟩:=(show cB X.prog X.w H s.heap a (.frz o (.dT c))from I.hok a _ e)
 refine I.recast e (λ_ q=>by cases q) h (λ_ q=>by cases q) (λ_ q=>by cases q) ⟨z,g,xs,Paired.mapP b λp q z=>⟨z.1,?_,z.2.2⟩,r⟩;rw[bj (xr z.2.1 e (λz=>nomatch z))];exact z.2.1
end
def gD(o:Obj):List ag:=match o.data with
 |.dict es _=>es.toList.map λe=>match e.key with
  |.ref b=>b
  |_=>0
 |_=>[]
def sS(a:ag)(o:Obj)(c:List (List aF×V)):It :=⟨λi H=>H a=aa (.frz o (.dT c))/\i<c.length,λi H x d=>d=H/\∃b,(gD o)[i]?=aa b/\x=.ref b,λi H=>H a=aa (.frz o (.dT c))/\c.length<=i⟩
def Ac(H:Hp)(a:List (List aF×V))(bs:List ag):Prop:=bs.length=a.length/\∀(i:Nat) (b:ag),bs[i]?=aa b->∃p,a[i]?=aa p/\H b=aa (.tup (p.1.map kV))
theorem AH{P:aV}{w:aL}{H:Hp}{h:aD}{a:ag}{o:Obj}{d:List (List aF×V)}(q:h.get? a=aa o)(k:cB P w H h a (.dT d)):(a == jY)=aj/\∃es,lA h a es (r8 o)/\es.size=d.length/\(d.map (·.1)).Nodup/\Ac H d (gD o)/\∀(i:Nat) (e:t5),es[i]?=aa e->∃b,(gD o)[i]?=aa b/\e.key=.ref b:=by
 obtain⟨A,es,rd,n,z,m⟩:=Hi q k;have j:gD o=es.toList.map λe=>match e.key with
  |.ref b=>b
  |_=>0:=by
  obtain⟨C,y,_,B⟩:=rd;rw[q]at y;cases y;unfold gD;rw[B]
 have l:∀(i:Nat) (e:t5),es[i]?=aa e->∃b,(gD o)[i]?=aa b/\e.key=.ref b:=λi e f=>by obtain⟨p,b,x,g,v⟩:=m i e f;refine⟨b,?_,g⟩;rw[j,eR,pE,f,pD,g]
 refine⟨A,es,rd,n,z,⟨by rw[j,cz,jc];exact n,λi b r=>?_⟩,l⟩;have f:i<es.size:=by have:=(cM.mp r).1;rw[j,cz,jc]at this;exact this
 obtain⟨p,c,x,g,v⟩:=m i es[i] (by simp[f]);obtain⟨D,u,s⟩:=l i es[i] (by simp[f]);rw[r]at u;cases u;rw[g]at s;cases s;exact⟨p,x,v⟩
theorem TD{P:aV}{w:aL}{K:ay}{Q:aB}(a l:ag)(o:Obj)(g:List (List aF×V)):qi P w K Q (sS a o g) [l] l (λi h=>h.IsKeyIter l a i g.length (r8 o)) where
 mem:=by simp
 obj:=λi h f b j=>by
  have e:b=l:=by simpa using j
  subst e;obtain⟨o,e,c,d⟩:=f;exact⟨o,e,λv z=>by rw[d]at z;cases z⟩
 keep:=λi h p f k=>f.at λo e=>k l (by simp) o e
 item:=by
  intro X A q B N i O s L H E I n f y;subst A q B;obtain⟨r,M⟩:=y;obtain⟨u,x⟩:=(show cB X.prog X.w H s.heap a (.frz o (.dT g))from I.hok a _ r)
  obtain⟨T,G,rd,m,_,_,S⟩:=AH u x;obtain⟨b,j,Y⟩:=S i G[i] (by simp[m,M]);obtain⟨F,D,f2,f3,f4,C⟩:=n l (by simp);rw[<-m]at f;refine Eb f rd ∅ λp J sb=>?_;have Z:Inv X O L H {s with heap:=p}:=I.turned (t':=s.toks) (λb o j e=>(sb.2 b j).trans e) F D f3 f4 C;rw[m]at J;obtain⟨oi,e,c,d⟩:=id J;exact⟨G[i].key,rfl,uH (s:={s with heap:=p}) e c d (by decide) ⟨.ref b,H,Z,by rw[Y];rfl,⟨rfl,b,j,rfl⟩,J,λb j=>(n b j).1⟩⟩
 done:=by
  intro X A q B N i O s L H E I n f y;subst A q B;obtain⟨r,M⟩:=y;obtain⟨u,x⟩:=(show cB X.prog X.w H s.heap a (.frz o (.dT g))from I.hok a _ r)
  obtain⟨T,G,rd,m,_⟩:=Hi u x;obtain⟨F,D,f2,f3,f4,C⟩:=n l (by simp);rw[<-m]at f;exact IA (I.ok.hd N) f rd ∅ λp W=>⟨rfl,I.turned (t':=s.toks) (λb o j e=>W b o j e) F D f3 f4 C⟩
 self:=λ_ _ _ _ _ f h=>wpAny_pyIter_keyiter f h
section
variable{X:Cx}{c:aB}
def K2(g:TE):TI:=λf H R=>g f H λx d=>∃a b,x=.ref a/\d a=aa (.dT b)/\∀o,(b.map (·.1)).Nodup->b.length<=bh->Ac d b (gD o)->R (sS a o b) (upd d a (.frz o (.dT b)))
theorem NM{d:aB}{m:TE}(C:PE X d m):PI X c d (K2 m):=by
 intro E s p H R I h;refine aW (C E s p H _ I h) λv g ζ=>?_;obtain⟨x,n,l,r,u⟩:=ζ;obtain⟨a,f,e,i,q⟩:=u;subst e;cases r;obtain⟨o,B,j⟩:=l.freezeT i;obtain⟨A,F,rd,z,w,y,_⟩:=AH (o:=o) B (show cB X.prog X.w n g.heap a (.dT f)from l.hok a _ i);refine F8 A rd ?_;rw[z];refine⟨g.heap.objs.size,[g.heap.objs.size],_,_,_,rfl,j.kept (t':=g.toks) λb o e=>bK _ e,TD a _ o f,⟨_,cG _ rfl,rfl,rfl⟩,λb D=>?_,q o w (show cB X.prog X.w n g.heap a (.dT f)from l.hok a _ i).1 y⟩;have e:b=g.heap.objs.size:=by simpa using D
 subst e;exact j.fpOk (bd _) (j.hok.fresh (bd _))
theorem KG{a:ag}{o:Obj}{d:List (List aF×V)}(l:(gD o).length=d.length):Walk (sS a o d) ((gD o).map .ref) (λH=>H a=aa (.frz o (.dT d))):=λH h i=>
 ⟨λx f=>by
  rw[eR]at f;obtain⟨b,j,rfl⟩:=jD.mp f;have g:=(cM.mp j).1;exact⟨⟨h,∅⟩,λy n z=>⟨z.1,by obtain⟨m,e,rfl⟩:=z.2;rw[j]at e;cases e;rfl⟩⟩,λg=>⟨h,by rw[g,cz];lia⟩⟩
def uV(a:ag)(b:List (List aF×V))(D:kX):St->Hp->Prop:=λd f=>∃o,f a=aa (.frz o (.dT b))/\D.nx d (upd f a (.dT b))
def LM(j:Nat)(g:TG)(q:TS):TS:=λD l H=>∃a b,l[j]?=aa (aa (.ref a))/\H a=aa (.dT b)/\∀o,(b.map (·.1)).Nodup->b.length<=bh->Ac H b (gD o) ->
 ∃W:Nat->Nat->St->Hp->Prop,(∃m,W 0 m l (upd H a (.frz o (.dT b))))/\∀i m d f,W i m d f ->
 ((sS a o b).stop i f/\uV a b D d f)\/((sS a o b).go i f/\∃N:St->Hp->Prop,(∀d f,N d f->∃n,n<m/\W (i+1) n d f)/\∀x p,(sS a o b).yld i f x p->g x d p λh r=>q ⟨N,λ_ _=>False,uV a b D,N⟩ h r)
theorem R4{b:List ba}{g:TG}{v:TS}{p r:Pos}{y:Str}(j:Nat)(L:vZ (ax X.prog X.w) X.A X.env X.xe)(Q:X.calm=ah)(T:X.N[j]?=aa y)(J:ez X.env.scope y)(P:(y==("__debug__":Str))=aj)(bB:(y==("__classdict__":Str))=aj)(O:PG X c g)(S:lf X b v)(K:∀x,mJ (.Name y r) X.env x=pure x:=by intro _;rfl):PS X (.For c (.Name y r) b [] p) (LM j g v):=by
 intro af s C H D I h;obtain⟨a,n,Y,A,h⟩:=h;have M:∀o u,X.H₀ a≠aa (.frz o u):=λo u z=>by
  have:=I.base.frzs a o u z;rw[A]at this;cases this
 refine aW (GJ L Q (NM (fI T J P bB)) O S K af s C H ⟨uV a n D,λ_ _=>False,λ_ _=>False,λ_ _=>False⟩ I ⟨.ref a,Y,a,n,rfl,A,λo F G N=>?_⟩) λf s' q=>?_
 .obtain⟨W,E,l⟩:=h o F G N;refine⟨W,E,λi m d B w=>?_⟩;exact l i m d B w
 .cases f with
  |next=>obtain⟨d,B,I',o,Z,q⟩:=q;exact⟨d,_,I'.thawT Z M,q⟩
  |brk=>obtain⟨_,_,_,q⟩:=q;exact q.elim
  |cont=>obtain⟨_,_,_,q⟩:=q;exact q.elim
  |ret u=>obtain⟨_,_,_,_,_,q⟩:=q;exact q.elim
end
section
variable{X:Cx}
def Po(f d:TE):TE:=λc H Q=>∀p,H p=ae->yo [(f,d)] c (upd H p (.dT [])) λg a=>∃x y,g=[(x,y)]/\a p=aa (.dT [])/\∃b k,x=.ref b/\a b=aa (.tup (k.map kV))/\Q (.ref p) (upd a p (.dT [(k,y)]))
theorem LH{k v:aB}{l j:TE}{f:Pos}(hu:X.A.units+1<cLine)(K:PE X k l)(F:PE X v j):PE X (.Dict [aa k] [v] f) (Po l j):=by
 intro Y s p H Q I q;have J:=I.hok.fresh (bd s.heap.objs.size);have Z:=I.laid (a:=s.heap.objs.size) (o:=.dT []) (h':=s.heap.push {cls:=.type "dict",data:=.dict #[]}) (t':=s.toks) (λ_ _ q=>bK _ q) (bd _) (GP s.heap I.big);refine wpAny_Dict_any rfl rfl (by simp) (by simp) (aW ((GS K F Ir) Y _ p _ (λm c=>∃x y,m=[(x,y)]/\c s.heap.objs.size=aa (.dT [])/\∃b k,x=.ref b/\c b=aa (.tup (k.map kV))/\Q (.ref s.heap.objs.size) (upd c s.heap.objs.size (.dT [(k,y)]))) Z ?_) ?_)
 .exact q _ J
 .rintro ws s2 ⟨m,c,i,d,x,y,rfl,e,b,k,rfl,g,C⟩;cases d with
  |cons B r=>
   cases r;rename_i E;obtain⟨D,p2⟩:=E;obtain⟨A,w⟩:=B;cases (show D=Value.ref b from A);unfold storeAll;rw[List.forIn_cons];obtain⟨z,L,xs,u,W⟩:=Ey i.hok e;cases u;refine aq (aq (wpAny_dictSet_heap (hsz:=by size_fits) (show(tR (gA X.prog X.w)).room X.A from ?_) (sX i.hok g) W λh' h G=>aG ?_))
   .show X.A.units<cLine;lia
   .dsimp only;rw[List.forIn_nil];refine aG ⟨.ref s.heap.objs.size,_,?_,rfl,C⟩;obtain⟨q,S,T,n,P,O,N,_,M⟩:=h;refine xu i (by rw[e];exact True.intro) G ⟨q,n⟩ ⟨by size_fits,L,_,.cons ⟨rfl,?_,w⟩ .nil,q,S,T,n,P,O,N,M⟩;rw[bj (xr g e (λz=>nomatch z))];exact g
end
open Mx
section
variable{P:aV}{w:aL}{A:aX}{E:ai->am->Prop}{s:am}
def FtIs(h:aD)(c:List Str)(v:ai):Prop:=c≠[]/\∃(a:ag) (b:Array ai),v=.ref a/\IsTup h a b/\eh b.toList c
theorem FtIs.inj{h:aD}{k b:List Str}{v:ai}(x:FtIs h k v)(y:FtIs h b v):k=b:=by
 obtain⟨_,a,d,rfl,i,g⟩:=x;obtain⟨_,l,c,e,j,f⟩:=y;cases e;obtain rfl:=tup_uniq i j;exact strs_uniq g f
theorem FtIs.keep{h c:aD}{k:List Str}{v:ai}(x:FtIs h k v)(g:∀b o,h.get? b=aa o->c.get? b=aa o):FtIs c k v:=by obtain⟨n,a,its,rfl,f,d⟩:=x;exact⟨n,a,its,rfl,tup_kept f λb o e _=>g b o e,d⟩
def ftKey(h:aD):KeyKind where
 toKeyOrd:=ordL
 keyOf:=λv=>open Classical in if z:∃a,FtIs h a v then aa (cpsL z.choose)else ae
 dflt:=([]:List Tx)
theorem ftKey_of{h:aD}{a:List Str}{v:ai}(x:FtIs h a v):(ftKey h).keyOf v=aa (cpsL a):=by
 have z:∃a,FtIs h a v:=⟨a,x⟩
 show(open Classical in if z:∃a,FtIs h a v then aa (cpsL z.choose)else ae)=_;rw[dif_pos z,z.choose_spec.inj x]
theorem ftKey_some{h:aD}{k:List Tx}{v:ai}(x:(ftKey h).keyOf v=aa k):∃a,FtIs h a v/\cpsL a=k:=by
 by_cases z:∃a,FtIs h a v
 .obtain⟨a,z⟩:=z;rw[ftKey_of z]at x;exact⟨a,z,cY x⟩
 .have:(ftKey h).keyOf v=ae:=dif_neg z;rw[this]at x;cases x
theorem lex_strs{b:Bool}{Q:Bool->am->Prop}{m g:List ai}{j f:List Str}(i:Nat){d:Bool}(q:eh m j)(o:eh g f)(l:d=decide (j.length<f.length))(h:Q (ltL (cpsL j) (cpsL f)) s):PySem.W.KatLex P w A b d Q (m.zip g) i s:=by
 induction q generalizing g f i d with
 |nil=>
  rw[List.zip_nil_left];refine PySem.W.kat_nil ?_;rw[l];refine cast (congrArg (λz=>Q z s) ?_) h;cases o with
  |nil=>exact(decide_eq_false (by simp[cpsL])).trans (decide_eq_false (by simp)).symm
  |cons c u n=>exact(decide_eq_true (by simp[cpsL])).trans (decide_eq_true (by simp)).symm
 |cons a t r p=>
  cases o with
  |nil=>rw[List.zip_nil_right];refine PySem.W.kat_nil ?_;rw[l];refine cast (congrArg (λz=>Q z s) ?_) h;exact(decide_eq_false (by simp[cpsL])).trans (decide_eq_false (by simp)).symm
  |cons c u n=>
   rw[List.zip_cons_cons];refine PySem.W.kat_cons (SeqAt.EqAt.str_str a t c u _ _ _ _ ?_);have h:=ltL_cons .. ▸ h;by_cases e:a=c
   .subst e;rw[if_pos rfl]at h;rw[beq_self_eq_true];exact PySem.W.kat_yes (p (i+1) n (by rw[l];simp) h)
   .rw[if_neg (λz=>e (cps_inj z))]at h;rw[beq_false_of_ne e];refine PySem.W.kat_no ?_;cases (b&&i == 0)with
    |true=>exact oneLt_str h
    |false=>exact PySem.W.kat_one _ _ (PyProof.Rows.lt_str h)
theorem ftLt{h j:aD}(J:A.units+8<cLine)(k:∀b o,h.get? b=aa o->j.get? b=aa o):iP (ftKey h) (tuples' ah) P w A {s with heap:=j}:=λE x y a b Q B z r=>by obtain⟨G,q,rfl⟩:=ftKey_some B;obtain⟨K,p,rfl⟩:=ftKey_some z;obtain⟨_,M,n,rfl,C,i⟩:=q.keep k;obtain⟨_,L,g,rfl,D,c⟩:=p.keep k;obtain⟨o,u,_,m,v⟩:=C;obtain⟨H,F,_,I,l⟩:=D;refine PySem.W.kat_lt u v F l (lex_strs 0 i c ?_ r);have f:=strs_len i;have d:=strs_len c;rw[jc]at f d;rw[f,d]
theorem ft_kind{b:List ai}{Q:gZ->am->Prop}(c:∀v∈b,∃d,FtIs s.heap d v)(I:2<=b.length)(h:Q (tuples' ah) s):ar (ax P w) A (keyKind' b.toArray) Q E s:=by
 have i:∀(b:List ai),(∀v∈b,∃d,FtIs s.heap d v)->∃fs,PySem.W.KatTups s.heap b fs/\fs.length=b.length/\∀f∈fs,∃z t,f=Value.str z t:=by
  intro b
  induction b with
  |nil=>intro _;exact⟨[],PySem.W.KatTups.nil,rfl,λf g=>by simp at g⟩
  |cons v b x=>
   intro c;obtain⟨fs,p,r,n⟩:=x λu y=>c u (kA _ y);obtain⟨d,G,a,j,rfl,⟨o,B,F,m,D⟩,q⟩:=c v lP;cases d with
   |nil=>exact absurd rfl G
   |cons z H=>
    generalize C:j.toList=l at q;cases q with
    |cons _ t q=>
     refine⟨.str z t::fs,PySem.W.KatTups.cons B F D (by rw[<-pE,C];rfl) p,by simp[r],λf g=>?_⟩;rcases bI.mp g with rfl|g
     .exact⟨z,t,rfl⟩
     .exact n f g
 obtain⟨fs,p,r,n⟩:=i b c;refine PySem.W.kat_kind (T:=.type "str") p ∅ (λv c=>?_) (by decide) ?_
 .obtain⟨z,t,rfl⟩:=n v c;exact .now
 .have:(Value.type "str" != Value.type "tuple")=ah:=by decide
  rw[this];exact h
end
end L2
namespace Pu
open L2
section
variable{K:ay}{F g:ag->Prop}{S:Nat->ag->Prop}{f:ak}{d:St}{H b:Hp}
mutual
theorem aU.mono2(m:∀a xs,Rd H a (.lst xs)->Rd b a (.lst xs))(l:∀a xs,H a=aa (.tup xs)->b a=aa (.tup xs))(j:∀a c,H a=aa (jo a c)->b a=aa (jo a c)):∀(x:PV) (v:V),aU K H F x v->aU K b F x v
 |.non,_,h=>h
 |.bl _,_,h=>h
 |.int _,_,h=>h
 |.str _,_,h=>h
 |.raw _,_,h=>h
 |.exc _,_,⟨a,e,h⟩=>⟨a,e,j a _ h⟩
 |.tup xs,_,⟨a,i,e,o,n⟩=>⟨a,i,e,l a _ o,Reps.mono2 m l j xs i n⟩
 |.lst xs,_,⟨a,i,e,o,p,n⟩=>⟨a,i,e,m a i o,p,Reps.mono2 m l j xs i n⟩
theorem Reps.mono2(m:∀a xs,Rd H a (.lst xs)->Rd b a (.lst xs))(l:∀a xs,H a=aa (.tup xs)->b a=aa (.tup xs))(j:∀a c,H a=aa (jo a c)->b a=aa (jo a c)):∀(xs:List PV) (i:List V),Reps K H F xs i->Reps K b F xs i
 |[],_,h=>h
 |x::xs,_,⟨v,r,e,o,n⟩=>⟨v,r,e,aU.mono2 m l j x v o,Reps.mono2 m l j xs r n⟩
end
def qw(p:HO):Prop:=(∃a,p=.dT a)\/∃o a,p=.frz o (.dT a)
theorem qw.lst{p:HO}(h:qw p)(xs:List V):p≠.lst xs/\(∀o,p≠.frz o (.lst xs))/\p≠.tup xs:=by
 rcases h with⟨ws,rfl⟩|⟨o,ws,rfl⟩
 .exact⟨λz=>(nomatch z),λ_ z=>(nomatch z),λz=>(nomatch z)⟩
 .exact⟨λz=>(nomatch z),λ_ z=>(by cases z),λz=>(nomatch z)⟩
section
variable{a:ag}{p q:HO}
theorem yX(f:H a=aa p)(d:qw p):∀b xs,Rd H b (.lst xs)->Rd (upd H a q) b (.lst xs):=λb xs h=>by
 have c:b≠a:=by
  rintro rfl;rcases h with h|⟨o,h⟩ <;> rw[f]at h
  .exact(d.lst xs).1 (cY h)
  .exact(d.lst xs).2.1 o (cY h)
 rcases h with h|⟨o,h⟩
 .exact .inl (by rw[bj c];exact h)
 .exact .inr ⟨o,by rw[bj c];exact h⟩
theorem vz(c:H a=aa p)(d:qw p):∀b xs,H b=aa (.tup xs)->upd H a q b=aa (.tup xs):=λb xs h=>by rw[bj (by rintro rfl;rw[c]at h;exact(d.lst xs).2.2 (cY h))];exact h
theorem xy(f:H a=aa p)(d:qw p):∀b c,H b=aa (jo b c)->upd H a q b=aa (jo b c):=λb c h=>by
 rw[bj (by
  rintro rfl;rw[f]at h;cases h;rcases d with⟨ws,z⟩|⟨o,ws,z⟩ <;> cases z)];exact h
theorem aN.recast(r:aN K F S ε σ H)(f:H a=aa p)(d:qw p)(u:¬U S a):aN K F S ε σ (L2.upd H a q):=by
 have n:∀x v,aU K H F x v->aU K (L2.upd H a q) F x v:=aU.mono2 (yX f d) (vz f d) (xy f d);have l:∀x v,Reps K H F x v->Reps K (L2.upd H a q) F x v:=Reps.mono2 (yX f d) (vz f d) (xy f d);have s:∀i b,S i b->b≠a:=λi b z e=>u ⟨i,e ▸ z⟩;refine⟨r.len,λb z=>?_,λi pv e=>let ⟨v,j,g⟩:=r.val i pv e;⟨v,j,n _ _ g⟩,λi po e=>let ⟨b,j,g⟩:=r.own i po e;⟨b,j,g.mono n l λc o z w=>by rw[bj (s i c z)];exact w⟩,λi b z=>?_,r.dist⟩
 .obtain⟨o,h⟩:=r.ex b z;by_cases m:b=a
  .subst m;exact⟨_,upd_same⟩
  .exact⟨o,by rw[bj m];exact h⟩
 .obtain⟨j,g,o,A,y⟩:=r.foot i b z;exact⟨j,g,o,by rw[bj (s i b z)];exact A,y⟩
end
theorem aN.putOwn{j:Nat}{po:PO}{a:ag}{Sa:ag->Prop}(r:aN K F S ε σ H)(d:j<ε.length)(e:σ[j]?=aa (aa (.ref a)))(h:eZ K H F po a Sa)(f:vM F S H Sa):aN K F (λk b=>(S k b/\k≠j)\/(k=j/\Sa b)) (ε.set j (.own po)) σ H:=by
 have:=r.setOwn d h f;have g:σ.set j (aa (.ref a))=σ:=by
  apply q8;intro k;by_cases c:j=k
  .subst c;rw[fM (by rw[<-r.len];exact d),e]
  .rw[d8 c]
 rw[g]at this;exact this
end
def Em:aF->PV
 |.inl i=>.int i
 |.inr z=>.str z.cps.toList
def lL(k:eY):PV:=.tup (k.map Em)
def rW:aF->Bool
 |.inl _=>ah
 |.inr z=>decide (z.cps.toList.length<=bo)
def z9(a:List (eY×PV)):Bool:=a.all λp=>p.1.all rW
section
variable{K:ay}{F:ag->Prop}{H:Hp}
theorem Ao:∀{k:eY},k.all rW=ah->Reps K H F (k.map Em) (k.map kV)
 |[],_=>rfl
 |.inl i::k,h=>⟨_,_,rfl,rfl,Ao (by simpa[rW]using h)⟩
 |.inr z::k,h=>by rw[qS,gG]at h;exact⟨_,_,rfl,⟨by show V.str z=V.str (tS z.cps.toList);rw[qr],of_decide_eq_true h.1⟩,Ao h.2⟩
theorem RZ{k:eY}{b:ag}(h:k.all rW=ah)(a:H b=aa (.tup (k.map kV))):aU K H F (lL k) (.ref b):=⟨b,_,rfl,a,Ao h⟩
theorem jz.keys{a:List (eY×PV)}{b:List (eY×V)}(h:jz K H F a b):b.map (·.1)=a.map (·.1):=by
 unfold jz at h
 induction h with
 |nil=>rfl
 |cons r _ c=>rw[cn,cn,c,r.1]
end
section
variable{X:Cx}{E:XK}{pin:List Nat}{e b c:aB}{de db l:ak->R PV}{d:Pos}
def vB(db l:ak->R PV):ak->R PO:=λε=>(db ε).bind λk ε1=>(l ε1).bind λy a=>(aQ (o6 k) a).bind λf a=>.ok (.dT [(f,y)]) a
theorem MJ(hu:X.A.units+64<cLine)(hb:DE X E b db)(hc:DE X E c l):DN X E (.Dict [aa b] [c] d) (vB db l):=λF S N I H Q s h=>by
 refine b9 (LH ∅ bT bT) λp g=>?_;have al:Al F F H (upd H p (.dT [])):=Al.new0 g;have Z:¬F p:=λz=>by obtain⟨o,q⟩:=s.ex p z;rw[g]at q;cases q
 have Y:¬U S p:=λζ=>by obtain⟨i,z⟩:=ζ;obtain⟨_,_,o,q,_⟩:=s.foot i p z;rw[g]at q;cases q
 have B:bp (U S) (U S) F F H (upd H p (.dT [])):=al.grow;refine hb F S N I _ _ (s.al al) ((Ok.bindB h B).imp λk m F1 S1 H1 J D h1 u O=>?_);obtain⟨e1,x,v⟩:=D.stay (upd_same:upd H p (.dT []) p=aa (.dT [])) Y Z;refine hc F1 S1 m I H1 _ J ((Ok.bindB h1 (B.trans D)).imp λy M L S2 H2 W C j w n=>?_);obtain⟨K,f,a⟩:=C.stay e1 v x;cases G:o6 k with
 |none=>rw[G]at j;exact j.elim
 |some A=>rw[G]at j;simp only[b7,R.bind_ok]at j;have r:aU X.K H2 L k u:=O.grow C J.fit;obtain⟨bb,rfl,P⟩:=Ej r G;refine⟨_,_,rfl,K,bb,A,rfl,P,?_⟩;obtain⟨gl,fit,T⟩:=W.lay (o':=.dT [(A,w)]) K trivial f a;have g3:=((B.trans D).trans C).lay (o':=.dT [(A,w)]) g;refine j L S2 _ T g3 p (λb=>b=p) ⟨⟨_,upd_same,.cons ⟨rfl,n.grow gl fit⟩ .nil⟩,λb=>l6⟩ λb z=>?_;subst z;exact⟨g,f,a,_,upd_same,trivial⟩
def vA(i j:Nat):ak->R aO:=λε=>match ε[j]? with
 |some (.own a)=>if i<ε.length then .ok .next ((ε.set j .none).set i (.own a))else .no
 |_=>.no
theorem MG(i j:Nat){x y:Str}{p m:Pos}(I:X.N.Nodup)(w:i∉pin:=by decide)(B:X.N[i]?=aa x:=by rfl)(s:Loc X.env.scope x:=by first|exact Or.inl rfl|exact Or.inr rfl)(v:jZ (.Name y m) (aa (.Name x p)) d.line X.env=pure aj:=by rfl)(C:X.fn x=ah\/X.env.scope.names.lookup x=aa .local:=by first|exact .inl rfl|exact .inr rfl) (g:X.N[j]?=aa y:=by rfl) (u:ez X.env.scope y:=by first|exact Or.inl rfl|exact Or.inr (Or.inl rfl)|exact Or.inr (Or.inr rfl))(G:(y==("__debug__":Str))=aj:=by decide) (L:(y==("__classdict__":Str))=aj:=by decide):DS X E pin (.Assign [.Name x p] (.Name y m) d) (vA i j):=λF S N M H D f h=>by
 unfold vA at h;split at h
 .rename_i O K;split at h
  .rename_i A;obtain⟨a,J,r⟩:=f.own j _ K;refine gC (Ci I B s (fI g u G L) v C) ⟨_,J,?_⟩;refine h F _ _ H ((f.drop j).setOwn (Sa:=S j) (by rw[gn];exact A) r λb z=>⟨(f.foot j b z).2.1,λ⟨k,q,n⟩=>n (f.dist k j b q z),(f.foot j b z).2.2⟩) ⟨λ_ z=>z,λ_ _ z _=>z,λ_ o z=>⟨o,z⟩,λ_ z=>.inl z,λb ⟨k,z⟩=>?_⟩ (iC.set w);rcases z with z|⟨_,z⟩
   .exact .inl ⟨k,z.1.1⟩
   .exact .inl ⟨j,z⟩
  .exact h.elim
 .exact h.elim
def sH(i j:Nat)(db:ak->R aO):ak->R aO:=λg=>(aQ (ka g j) g).bind λa g=>if z9 a=ah then match fX i db (a.map λp=>lL p.1) (g.set j .none)with
 |.ok .next f=>if j<f.length then .ok .next (f.set j (.own (.dT a)))else .no
 |_=>.no else .no
theorem ML(i j:Nat){x y:Str}{p yp:Pos}{M:List ba}{db:ak->R aO}(wL:vZ (ax X.prog X.w) X.A X.env X.xe)(hc:X.calm=ah)(hN:X.N.Nodup)(hb:gL X E (j::pin) M db)(hp:i∉j::pin:=by decide) (hx:X.N[i]?=aa x:=by rfl) (hl:Loc X.env.scope x:=by first|exact Or.inl rfl|exact Or.inr rfl) (hs:∀x,mJ (.Name y yp) X.env x=pure x:=by intro _;rfl)(hf:X.fn x=ah\/X.env.scope.names.lookup x=aa .local:=by first|exact .inl rfl|exact .inr rfl) (hNj:X.N[j]?=aa y:=by rfl) (hv:ez X.env.scope y:=by first|exact Or.inl rfl|exact Or.inr (Or.inl rfl)|exact Or.inr (Or.inr rfl))(hd:(y==("__debug__":Str))=aj:=by decide) (bB:(y==("__classdict__":Str))=aj:=by decide):DS X E pin (.For (.Name x p) (.Name y yp) M [] d) (sH i j db):=λF S ε σ H D rl h=>by
 unfold sH at h;cases e0:ka ε j with
 |none=>rw[e0]at h;exact h.elim
 |some L=>
  rw[e0]at h;simp only[b7,R.bind_ok]at h;split at h;rotate_left
  .exact h.elim
  rename_i hok;split at h;rotate_left
  .exact h.elim
  rename_i P Kd;split at h;rotate_left
  .exact h.elim
  rename_i hje;obtain⟨a,A,ea,Y,hk,pT,hSo⟩:=rl.dtAt (vc e0);have mn:=hk.keys;refine gC (R4 j wL hc hNj hv hd bB (vW hN hx hl hf) qD hs) ⟨a,A,ea,Y,λo nd hz mv=>?_⟩;have ut:¬U (λk b=>S k b/\k≠j) a:=λ⟨k,z1,z2⟩=>z2 (rl.dist k j a z1 pT);have hFa:¬F a:=(rl.foot j a pT).2.1;have r0:aN X.K F (λk b=>S k b/\k≠j) (ε.set j .none) σ (upd H a (.frz o (.dT A))):=(rl.drop j).recast Y (.inl ⟨_,rfl⟩) ut;have r:∀(n:Nat) (b:ag),(gD o)[n]?=aa b->∃k,(L.map λp=>lL p.1)[n]?=aa (lL k)/\k.all rW=ah/\H b=aa (.tup (k.map kV)):=λn b hb=>by
   obtain⟨p,h1,h2⟩:=mv.2 n b hb;have h3:(A.map (·.1))[n]?=aa p.1:=by rw[eR,h1];rfl
   rw[mn,eR]at h3;obtain⟨q,h4,h5⟩:=jD.mp h3;refine⟨p.1,by rw[eR,h4,pD,h5],?_,h2⟩;have:=lZ.mp hok q (zz h4);rw[<-h5];exact this
  have bD:(gD o).length=(L.map λp=>lL p.1).length:=by rw[cz,mv.1,hk.len]
  generalize hxs:(L.map λp=>lL p.1)=xs at Kd r bD;have fin:∀B I m u,aN X.K B I P m u->bp (U λk b=>S k b/\k≠j) (U I) F B (upd H a (.frz o (.dT A))) u->iC (j::pin) σ m->uV a A D m u:=by
   intro B I m u r' C N;have Z:u a=aa (.frz o (.dT A)):=C.keep a _ upd_same ut;obtain⟨_,nF',nS'⟩:=C.stay (upd_same:upd H a (.frz o (.dT A)) a=_) ut hFa;have dt:qw (.frz o (.dT A)):=.inr ⟨_,_,rfl⟩;have W:qw (.dT A):=.inl ⟨_,rfl⟩;have T:aN X.K B I P m (upd u a (.dT A)):=r'.recast Z dt nS';have ou:jz X.K (upd u a (.dT A)) B L A:=hk.mono λx v z=>aU.mono2 (yX Z dt) (vz Z dt) (xy Z dt) _ _ ((aU.mono2 (yX Y W) (vz Y W) (xy Y W) _ _ z:aU X.K (upd H a (.frz o (.dT A))) F x v).grow C r0.fit);have r4:=T.putOwn (po:=.dT L) (Sa:=λb=>b=a) hje (by rw[N j (by simp)];exact ea) ⟨⟨A,upd_same,ou⟩,λ_=>l6⟩ λb z=>by subst z;exact⟨nF',nS',_,upd_same,trivial⟩
   refine⟨o,Z,h B _ m _ r4 ⟨C.fro,λb o' e n=>?_,λb o' e=>?_,λb z=>?_,λb ⟨k,z⟩=>?_⟩ λk hk=>N k (by simp[hk])⟩
   .have J:b≠a:=by rintro rfl;exact n ⟨j,pT⟩
    rw[bj J];exact C.keep b o' (by rw[bj J];exact e) λ⟨k,z⟩=>n ⟨k,z.1⟩
   .by_cases J:b=a
    .subst J;exact⟨_,upd_same⟩
    .obtain⟨o2,q⟩:=C.there b o' (by rw[bj J];exact e);exact⟨o2,by rw[bj J];exact q⟩
   .rcases C.fnew b z with w|w|⟨k,w⟩
    .exact .inl w
    .refine .inr (.inl ?_);by_cases J:b=a
     .subst J;rw[upd_same]at w;cases w
     .rw[bj J]at w;exact w
    .exact .inr (.inr ⟨k,w.1⟩)
   .rcases z with z|⟨_,z⟩
    .rcases C.onew b ⟨k,z.1⟩with⟨k',w⟩|w
     .exact .inl ⟨k',w.1⟩
     .by_cases J:b=a
      .subst J;rw[upd_same]at w;cases w
      .rw[bj J]at w;exact .inr w
    .subst z;exact .inl ⟨j,pT⟩
  refine Hy (D:=⟨uV a A D,λ_ _=>False,λ_ _=>False,λ_ _=>False⟩) (KG mv.1) (λn m u=>∃B I G,aN X.K B I G m u/\bp (U λk b=>S k b/\k≠j) (U I) F B (upd H a (.frz o (.dT A))) u/\iC (j::pin) σ m/\fX i db (xs.drop n) G=.ok .next P) ⟨F,_,_,r0,bp.refl ..,iC.refl _ _,Kd⟩ (λn m u _ ⟨B,I,G,_,g,_⟩=>g.keep a _ upd_same ut) ?_ ?_
  .rintro n v m u w8 ⟨B,I,G,r',C,N,q⟩;rw[eR]at w8;obtain⟨bb,rn,rfl⟩:=jD.mp w8;obtain⟨k,ly,eJ,fP⟩:=r n bb rn;have hn:n<xs.length:=(cM.mp ly).1;have ed:xs.drop n=lL k::xs.drop (n+1):=by rw[uc hn];congr 1;exact(cM.mp ly).2
   rw[ed]at q;have jM:upd H a (.frz o (.dT A)) bb=aa (.tup (k.map kV)):=vz Y (.inl ⟨_,rfl⟩) _ _ fP;have mo:u bb=aa (.tup (k.map kV)):=C.imm r0.fit jM (λz=>z);have r2:=r'.set (i:=i) (RZ (K:=X.K) (F:=B) eJ mo);have gl:bp (U I) (U λj b=>I j b/\j≠i) B B u u:=bp.less i;show oO X M _ (m.set i (aa (.ref bb))) u;refine hb B _ _ _ u _ r2 ?_;unfold fX at q;cases e:db (G.set i (.val (lL k)))with
   |no=>rw[e]at q;cases q
   |er c Q=>rw[e]at q;cases q
   |ok f Q=>
    rw[e]at q;cases f with
    |next=>exact λF3 S3 O H3 T g3 p3=>⟨F3,S3,Q,T,(C.trans gl).trans g3,(N.trans (iC.set hp)).trans p3,q⟩
    |cont=>exact λF3 S3 O H3 T g3 p3=>⟨F3,S3,Q,T,(C.trans gl).trans g3,(N.trans (iC.set hp)).trans p3,q⟩
    |brk=>
     cases q;exact λF3 S3 O H3 T g3 p3=>fin F3 S3 O H3 T ((C.trans gl).trans g3) ((N.trans (iC.set hp)).trans p3)
    |ret s=>cases q
  .rintro m u ⟨B,I,G,r',C,N,q⟩;rw[cz,bD,C7]at q;cases q;exact fin B I m u r' C N
end
end Pu
namespace L2
open Mx
def ja(a b:List Tx):Bool:=!ltL b a
def fq(ks:List (List Tx)):List (List Tx):=ks.mergeSort ja
theorem Uc(a b:List Tx):(ja a b||ja b a)=ah:=by
 unfold ja;cases h:ltL b a with
 |false=>rfl
 |true=>
  have:ltL a b=aj:=by
   cases c:ltL a b with
   |false=>rfl
   |true=>exact absurd (ordL.trans _ _ _ h c) (by have:ltL b b=aj:=ordL.irrefl _;show ¬ltL b b=ah;rw[this];decide)
  rw[this];rfl
theorem LS(a b c:List Tx)(f:ja a b=ah)(d:ja b c=ah):ja a c=ah:=by unfold ja at *;have:ltL c a=aj:=uf (O:=ordL) (a:=a) (b:=b) (c:=c) (show ltL b a=aj by simpa using f) (show ltL c b=aj by simpa using d);rw[this];rfl
theorem SV(a b:List Tx)(d:ja a b=ah)(c:ja b a=ah):a=b:=by unfold ja at *;exact ordL.total a b (show ltL a b=aj by simpa using c) (show ltL b a=aj by simpa using d)
theorem oV(ks:List (List Tx)):(fq ks).Perm ks:=List.mergeSort_perm ks ja
theorem Ua(ks:List (List Tx)):(fq ks).Pairwise (λa b=>ja a b=ah):=List.pairwise_mergeSort LS Uc ks
theorem Rs{ks c:List (List Tx)}(f:c.Perm ks)(d:c.Pairwise (λx y=>ja x y=ah)):c=fq ks :=List.Perm.eq_of_pairwise (le:=λa b=>ja a b=ah) (λa b _ _=>SV a b) d (Ua ks) (f.trans (oV ks).symm)
def eW(k:List Tx):List aF:=k.map λx=>Sum.inr (tS x)
theorem LA(k:List Tx):(eW k).map kV=cL k:=by simp[eW,cL,kV,tV]
section
variable{X:Cx}
theorem Rq{P:aV}{w:aL}{H:Hp}{h:aD}{k:List Tx}{a:ag}(ok:dG P w H h)(e:H a=aa (.tup (cL k)))(c:k≠[]):FtIs h (k.map tS) (.ref a):=by
 obtain⟨_,b,r,p,_⟩:=(show cB P w H h a (.tup (cL k))from ok a _ e)
 exact⟨λz=>c (by simpa using z),a,b.toArray,rfl,p,by have:=Ae r;rw[CU];exact this⟩
theorem LR(hu:X.A.units+64<cLine)(hc:X.calm=ah):eU X (.builtin "sorted") (λxs H Q=>∃(d:ag) (a:List (List aF×V)) (ks:List (List Tx)),xs=[.ref d]/\H d=aa (.dT a)/\a.map (·.1)=ks.map eW/\(∀k∈ks,k≠[])/\ks.length<=1000000 /\ ∀l (S:List (List Tx×ag)),H l=ae->(∀q∈S,H q.2=aa (.tup (cL q.1)))->S.map (·.1)=fq ks->Q (.ref l) (upd H l (.lst (S.map λq=>.ref q.2)))):=by
 intro af s σ H xs us Q I r h;obtain⟨d,a,ks,rfl,hd,hk,cp,Y,q⟩:=h;obtain⟨u,rfl,ru⟩:=vals1 r;cases ru;obtain⟨o,ho,_⟩:=I.freezeT hd;obtain⟨hs,es,rd,W,nd,C,pU⟩:=AH ho (show cB X.prog X.w H s.heap d (.dT a)from I.hok d _ hd);have A:a.length=ks.length:=by have:=congrArg lU hk;simpa using this
 have D:∀x∈ks.zip (gD o),H x.2=aa (.tup (cL x.1)):=λx c=>by
  obtain⟨n,F⟩:=JY c;rw[List.getElem?_zip_eq_some]at F;obtain⟨p,h1,f⟩:=C.2 n _ F.2;have M:(a.map (·.1))[n]?=aa p.1:=by rw[eR,h1];rfl
  rw[hk,eR,F.1,pD]at M;rw[f,<-cY M,LA]
 refine sorted_genK ∅ (PySem.W.kdu_collect (QS (P:=X.prog) (w:=X.w) (es:=es) (ep:=r8 o) hs) (uy (I.ok.hd hc)) rd (by rw[W,A];exact lO (ve Y)) λm J O k L=>?_);have I1:Inv X af σ H {s with heap:=m,toks:=J}:=I.kept (t':=J) k;have kH:O.toList=(ks.zip (gD o)).map λx=>Value.ref x.2:=by
  have G:(ks.zip (gD o)).map (λx=>Value.ref x.2)=(gD o).map Value.ref:=by rw[<-JW (l₁:=ks) (l₂:=gD o) (by rw[C.1,A];exact bd _),et];simp[JW,C.1,A]
  rw[G];apply q8;intro n;by_cases F:n<es.size
  .have uo:n<O.size:=by rw[L.1];exact F
   obtain⟨e,h1,f⟩:=L.2 n O[n] (by rw[ub]);obtain⟨b,M,h4⟩:=pU n e h1;rw[eR,M,pE,ub uo,f,h4];rfl
  .rw[n5 (by rw[jc,L.1];lia),n5 (by rw[cz,C.1,<-W];lia)]
 have g:∀(f:aD),(∀b o,m.get? b=aa o->f.get? b=aa o)->∀x∈ks.zip (gD o),FtIs f (x.1.map tS) (.ref x.2):=λf i x c=>(Rq I1.hok (D x c) (cp _ (v5 c).1)).keep i;have mem:∀v∈O.toList,∃x∈ks.zip (gD o),v=.ref x.2:=λv j=>by rw[kH]at j;obtain⟨x,c,rfl⟩:=cS.mp j;exact⟨x,c,rfl⟩
 refine⟨ftKey m,tuples' ah,λv j=>?_,by rw[jc,L.1,W,A];exact Y,λA' f hA i lx=>⟨ftLt hA i,λ{E Q} qq=>ft_kind (s:={s with heap:=f,toks:=J}) (λv j=>?_) lx qq⟩,λf T e i kJ b1 b2=>?_⟩
 .obtain⟨x,c,rfl⟩:=mem v j;exact⟨_,ftKey_of (g m (λ_ _ z=>z) x c)⟩
 .obtain⟨x,c,rfl⟩:=mem v j;exact⟨_,g f i x c⟩
 .rw[kH]at b1;obtain⟨B,G,N⟩:=perm_mapE b1;have K:∀q∈B,q∈ks.zip (gD o):=λq Z=>N.mem_iff.mp Z;refine⟨.ref _,_,I1.laid (t':=J) (o:=.lst (B.map λq=>.ref q.2)) i (bd _) ⟨?_,T.toList,e,?_,by rw[JB];exact kJ⟩,rfl,q _ B I1.fresh (λq Z=>D q (K q Z)) ?_⟩
  .rw[cz,N.length_eq,List.length_zip];have:=ve Y;lia
  .rw[G];clear G N K
   induction B with
   |nil=>exact .nil
   |cons q B ih=>exact .cons rfl ih
  .refine Rs ?_ ?_
   .have:=N.map (·.1);rwa[List.map_fst_zip (by rw[C.1,A];exact bd _)]at this
   .rw[G]at b2;refine zH.mpr ((zH.mp b2).imp_of_mem λ{x y} c hy hh=>?_);have:=hh _ _ (ftKey_of (g m (λ_ _ z=>z) x (K x c))) (ftKey_of (g m (λ_ _ z=>z) y (K y hy)));have:ltL (cpsL (y.1.map tS)) (cpsL (x.1.map tS))=aj:=this;simp only[cpsL,et,t7,k9,List.map_id']at this;unfold ja;rw[this];rfl
end
end L2
namespace Pu
open L2
def pZ:eY->Option (List Tx)
 |[]=>aa []
 |.inr z::r=>(pZ r).map (z.cps.toList::·)
 |_=>ae
def qC:List (eY×PV)->Option (List (List Tx))
 |[]=>aa []
 | (k,_)::r=>(pZ k).bind λt=>(qC r).map (t::·)
theorem EW:∀{k:eY}{t:List Tx},pZ k=aa t->k=eW t
 |[],t,h=>by cases h;rfl
 |.inr z::r,t,h=>by simp only[pZ,jD]at h;obtain⟨l,a,rfl⟩:=h;rw[EW a];simp[eW,qr]
 |.inl _::_,_,h=>by cases h
theorem G4:∀{a:List (eY×PV)}{ks:List (List Tx)},qC a=aa ks->a.map (·.1)=ks.map eW
 |[],ks,h=>by cases h;rfl
 | (k,_)::r,ks,h=>by simp only[qC,zQ,jD]at h;obtain⟨t,c,d,b,rfl⟩:=h;rw[cn,cn,G4 b,EW c]
theorem AU(t:List Tx):pZ (eW t)=aa t:=by
 induction t with
 |nil=>rfl
 |cons x t a=>show pZ (Sum.inr (tS x)::eW t)=_;simp[pZ,a,k9]
theorem Q0(ks:List (List Tx))(v:PV):qC (ks.map λk=>(eW k,v))=aa ks:=by
 induction ks with
 |nil=>rfl
 |cons k ks a=>simp[qC,a,AU]
def oK(k:List Tx):PV:=.tup (ao k)
def xQ(a:List (eY×PV)):Option PO:=(qC a).bind λks=>if ks.length<=1000000/\(∀k∈ks,k≠[]/\∀x∈k,x.length<=bo)then aa (.lst ((fq ks).map oK))else ae
def vq(i:Nat):ak->R PO:=λε=>(aQ (ka ε i) ε).bind λa ε=>aQ (xQ a) ε
theorem T0{X:Cx}{E:XK}(i:Nat){y:Str}{G p s:Pos}(L:X.A.units+64<cLine)(P:X.calm=ah)(M:X.mg "sorted"=ae)(W:X.N[i]?=aa y:=by rfl)(ff:ez X.env.scope y:=by first|exact Or.inl rfl|exact Or.inr (Or.inl rfl)|exact Or.inr (Or.inr rfl))(O:(y==("__debug__":Str))=aj:=by decide) (bB:(y==("__classdict__":Str))=aj:=by decide) (N:Gl X "sorted":=by rfl):DN X E (.Call (.Name "sorted" p) [.Name y G] [] s) (vq i):=λF S D σ H Q m h=>by
 unfold vq at h;cases C:ka D i with
 |none=>rw[C]at h;exact h.elim
 |some u=>
  rw[C]at h;simp only[b7,R.bind_ok]at h;obtain⟨a,I,ea,T,v,ia,_⟩:=m.dtAt (vc C);unfold xQ at h;cases B:qC u with
  |none=>rw[B]at h;exact h.elim
  |some ks=>
   rw[B,iR]at h;split at h
   .rename_i A;refine b9 (nJ (LR L P) N M nz (i4 (fI W ff O bB) ki (j9 rfl)) (by decide) (by decide) (j9 rfl) rfl) ⟨.ref a,ea,a,I,ks,rfl,T,by rw[v.keys];exact G4 B,λk v=>(A.2 k v).1,A.1,λl d r n f=>?_⟩;have al:Al F F H (L2.upd H l (.lst (d.map λq=>.ref q.2))):=Al.new0 r;have reps:∀(d:List (List Tx×ag)),(∀q∈d,H q.2=aa (.tup (cL q.1))/\∀x∈q.1,x.length<=bo)->Reps X.K H F ((d.map (·.1)).map oK) (d.map λq=>.ref q.2):=by
     intro d
     induction d with
     |nil=>intro _;rfl
     |cons q d J=>intro n;obtain⟨Z,Y⟩:=n q lP;exact⟨_,_,rfl,⟨q.2,cL q.1,rfl,Z,Va.mpr ⟨rfl,Y⟩⟩,J λz K=>n z (kA _ K)⟩
    refine h F S _ (m.al al) al.grow l (λc=>c=l) ⟨⟨_,upd_same,?_⟩,λc=>l6⟩ λb z=>?_
    .rw[<-f];refine al.reps (reps d λq g=>⟨n q g,?_⟩);have:q.1∈fq ks:=by rw[<-f];exact cS.mpr ⟨q,g,rfl⟩
     exact(A.2 _ ((oV ks).mem_iff.mp this)).2
    .subst z;exact⟨r,λz=>zO (m.ex _ z) (λo w=>by rw[r]at w;cases w),λ⟨j,z⟩=>zO (m.foot j b z).2.2 (λo w=>by rw[r]at w;cases w.1),_,upd_same,trivial⟩
   .exact h.elim
def yv:List PV->PV->Option Bool
 |[],_=>aa aj
 |y::c,x=>(dH y x).bind λa=>(yv c x).map λb=>a||b
def Aa:PV->PV->Option PV
 |x,.lst a=>if iw a<=8 then(yv a x).map .bl else ae
 |_,_=>ae
def BZ(K:ay):R2:=λx y H Q=>∃p a k,y=.ref p/\cy K H p a/\(∃ks:List Bool,ks.length=a.length/\(∀(i:Nat) u b,a[i]?=aa u->ks[i]?=aa b->gz K H 8 u x b)/\k=ks.any id)/\Q (.bl k) H
section
variable{X:Cx}{K:ay}
theorem EX(W:X.A.units+64<cLine):bX X (eE .In) (BZ X.K):=by
 classical
 intro T s F H x y v u Q I J G h;obtain⟨p,f,k,rfl,O,⟨ks,E,P,rfl⟩,q⟩:=h;cases G;obtain⟨a,r,L,n⟩:=I.list O;have D:a.length=f.length:=(qK r).symm
 let e:ai->Bool:=λz=>decide (∃i:Nat,a[i]?=aa z/\ks[i]?=aa ah)
 have m:∀(i:Nat) (z:ai) (b:Bool),a[i]?=aa z->ks[i]?=aa b->v8 X.A.in1 s z v b:=λi z b d g=>by
  have A:i<f.length:=by rw[<-D];exact(cM.mp d).1
  have:∀{f:List V}{a:List ai} (r:bx f a) (i:Nat) (z:ai),a[i]?=aa z->∃w,f[i]?=aa w/\RelV w z:=by
   intro f a r;unfold bx at r
   induction r with
   |nil=>intro i z h;simp at h
   |cons r _ M=>
    intro i z h;cases i with
    |zero=>simp at h;subst h;exact⟨_,rfl,r⟩
    |succ i=>exact M i z (by simpa using h)
  obtain⟨w,N,o⟩:=this r i z d;exact P i w b N g X rfl T F s z v X.A.in1 I o J (by show X.A.units+1+8<cLine;lia)
 refine SeqAt.in_listAt e L.isList (λz n=>?_) ⟨.bl _,H,I,rfl,?_⟩
 .obtain⟨i,d⟩:=JY (show z∈a by simpa using n);have l:i<ks.length:=by rw[E,<-D];exact(cM.mp d).1
  by_cases c:∃i:Nat,a[i]?=aa z/\ks[i]?=aa ah
  .rw[show e z=ah from decide_eq_true c];obtain⟨j,S,C⟩:=c;exact m j z ah S C
  .rw[show e z=aj from decide_eq_false c];cases g:ks[i]with
   |true=>exact absurd ⟨i,d,by rw[fE l,g]⟩ c
   |false=>exact m i z aj d (by rw[fE l,g])
 .have:a.toArray.any e=ks.any id:=by
   rw[show a.toArray.any e=a.any e by simp,lQ,l_,l_];constructor
   .rintro⟨z,_,n⟩;obtain⟨i,_,C⟩:=of_decide_eq_true n;exact⟨ah,zz C,rfl⟩
   .rintro⟨b,g,B⟩;obtain rfl:b=ah:=B;obtain⟨i,d⟩:=JY g;have A:i<a.length:=by rw[D,<-E];exact(cM.mp d).1
    exact⟨a[i],wg A,decide_eq_true ⟨i,by simp[A],d⟩⟩
  rw[this];exact q
theorem GL{H:Hp}{F:ag->Prop}{x:PV}{v:V}(l:aU K H F x v):∀{f:List PV}{d:List V}{k:Bool},iw f<=8->yv f x=aa k->Reps K H F f d->∃ks:List Bool,ks.length=d.length/\(∀(i:Nat) u b,d[i]?=aa u->ks[i]?=aa b->gz K H 8 u v b)/\k=ks.any id
 |[],d,k,_,e,m=>by
  cases e;rw[show d=[] from m];exact⟨[],rfl,λi u b h=>by simp at h,rfl⟩
 |y::f,d,k,p,e,⟨u,r,z,s,q⟩=>by
  subst z;simp only[yv,zQ,jD]at e;obtain⟨a,B,b,A,rfl⟩:=e;unfold iw at p;obtain⟨ks,o,n,rfl⟩:=GL l ∅ A q;refine⟨a::ks,by simp[o],λi w c g j=>?_,by simp⟩;cases i with
  |zero=>simp at g j;subst g j;exact Cv (Jb y x B s l) ∅
  |succ i=>exact n i w c (by simpa using g) (by simpa using j)
theorem TF:P2 K (BZ K) Aa:=λF H x y v u Q pv d c e q=>by
 unfold Aa at e;split at e
 .split at e
  .rename_i g;obtain⟨k,i,rfl⟩:=jD.mp e;obtain⟨a,b,rfl,h,_,f⟩:=c;exact⟨a,b,k,rfl,.inl h,GL d g i f,q _ F H (Al.refl ..) rfl⟩
  .cases e
 .cases e
end
end Pu
namespace L2
theorem P5{P:aV}{w:aL}{A:aX}{E:ai->am->Prop}{s:am}{t b:ag}{f:List ai}{Q:ai->am->Prop}(v:IsTup s.heap t #[])(x:IsTup s.heap b f.toArray)(h:Q (.ref b) s):ar (ax P w) A (iy .Add (.ref t) (.ref b)) Q E s:=by
 obtain⟨⟨z,y,p,r⟩,l,o,n,m⟩:=id v;obtain⟨⟨q,c,d,a⟩,j,g,u,i⟩:=id x;simp only at o m g i;subst o m g i;exact concat_meets ⟨_,l,rfl⟩ ⟨_,j,rfl⟩ Jm seq_tuple_add Jn Jo (Jp _ _)
  (tuple_addW0 t b #[] f.toArray n u y c r a rfl) ⟨l,j,h⟩
def B5(K:ay):R2:=λx y H Q=>∃a b c,x=.ref a/\y=.ref b/\cu K H a []/\cu K H b c/\Q (.ref b) H
theorem Vt{X:Cx}:bX X (iy .Add) (B5 X.K):=by
 intro w s o H x y v u Q I f d h;obtain⟨a,b,p,rfl,rfl,n,m,q⟩:=h;cases f;cases d;obtain⟨l,g,j,_⟩:=I.tuple n;obtain⟨c,r,i,_⟩:=I.tuple m;cases g;exact P5 j i ⟨.ref b,H,I,rfl,q⟩
end L2
namespace Pu
open L2
def vK:PV->PV->Option PV
 |.tup [],.tup a=>aa (.tup a)
 |x,y=>bi x y
theorem LN{X:Cx}:bX X (iy .Add) (λx y H Q=>B5 X.K x y H Q\/xY X.K x y H Q):=Vt.or fc
theorem Pk{K:ay}:P2 K (λx y H Q=>B5 K x y H Q\/xY K x y H Q) vK:=λF H x y v u Q pv d c e q=>by
 unfold vK at e;split at e
 .cases e;obtain⟨a,h,rfl,f,i⟩:=d;obtain⟨b,g,rfl,j,l⟩:=id c;rw[show h=[] from i]at f;exact .inl ⟨a,b,g,rfl,rfl,cu.of f,cu.of j,q _ F H (Al.refl ..) c⟩
 .exact .inr (eV F H _ _ v u Q pv d c e q)
end Pu
local macro_rules | `(⇑$x) => `(.val (.int $x))
local macro_rules | `(↥$x) => `(.val (.str $x))
namespace Sh
open L2 Pu
set_option genInjectivity false in
structure Ad where
 SlitError:ag
 NoText:ag
 NoWidth:ag
 NoView:ag
 NoWindow:ag
 Never:ag
 Full:ag
 Nothing:ag
 Unlike:ag
 NoPlace:ag
 NoLetters:ag
 BadText:ag
 Seeker:ag
 Slit:ag
def iL(a:Ad):List ag:=[a.NoText,a.NoWidth,a.NoView,a.NoWindow,a.Never,a.Full,a.Nothing,a.Unlike,a.NoPlace,a.NoLetters,a.BadText]
def oD(a:Ad)(c:ai):Bool:=match c with
 |.ref x=>(iL a).contains x
 |_=>aj
def js(a:Ad)(c:ai)(D:V):Option Bool:=match c,D with
 |.ref x,.ref d=>if(iL a).contains x&&(iL a).contains d then aa (x == d)else ae
 |.ref x,.ty T=>if(iL a).contains x&&T == "ValueError" then aa ah else ae
 |_,_=>ae
def yax(a:Ad):ak->R aO:=cq (dL sQ (ap (dF (cV [1] (bJ (dV 0)) (cF) (d2 (sh aj) (dV 0) (dV 1)))) (aC)))
def ze(a:Ad):ak->R Slot:=bH 2 [] (bG 0 (yax a))
def yaC(a:Ad):ak->R aO:=cq (lB (dL fD (ap (dV 0) (ap (dC (.raw (.ty "int"))) (aC)))) (tw (dL fD (ap (dV 0) (ap (dC (.raw (.ty "bool"))) (aC))))))
def mY(a:Ad):ak->R Slot:=bH 1 [] (bG 0 (yaC a))
def yaD(a:Ad):ak->R aO:=cq (lB (bF (a9 (mY a) (gV (dV 0) (bL)))) (nr (dD λi j=>decide (i<=j)) (dD λi j=>decide (i<=j)) (dC (.int 1)) (dV 0) (dC (.int 4))))
def nM(a:Ad):ak->R Slot:=bH 1 [] (bG 0 (yaD a))
def yaE(a:Ad):ak->R aO:=cq (lB (dL fD (ap (dV 0) (ap (dC (.raw (.ty "str"))) (aC)))) (lB (d2 (eqT aj) (dL bP (ap (dV 0) (aC))) (dV 1)) (bF (a9 (ze a) (gV (dV 0) (gV (dV 2) (bL)))))))
def o0(a:Ad):ak->R Slot:=bH 3 [] (bG 0 (yaE a))
def yan(a:Ad):ak->R aO:=aK (cc (j_ (kb (dB (dL fD (ap (dV 0) (ap (dC (.raw (.ty "tuple"))) (aC)))))) (kb (dB (nr (dD λi j=>decide (i<=j)) (dD λi j=>decide (i<=j)) (dC (.int 1)) (dL bP (ap (dV 0) (aC))) (dC (.int 9)))))) (cq (dC (.bl aj))) (dX))
 (aK (cc (kb (dB (dL sQ (ap (dF (cV [1,2] (bJ (dV 0)) (cF) (bF (a9 (o0 a) (gV (dV 0) (gV (dV 1) (gV (dV 2) (bL)))))))) (aC))))) (cq (dC (.bl aj))) (dX))
 (cq (d2 (eqT aj) (dF (dL sO (ap (dV 0) (aC)))) (dF (dL kq (ap (dV 0) (aC)))))))
def km(a:Ad):ak->R Slot:=bH 3 [] (bG 0 (yan a))
def yaB(a:Ad):ak->R aO:=aK (cc (j_ (kb (dB (dL fD (ap (dV 0) (ap (dC (.raw (.ty "tuple"))) (aC)))))) (dB (d2 (eqT ah) (dL bP (ap (dV 0) (aC))) (dC (.int 2))))) (cq (dC (.bl aj))) (dX))
 (cq (lB (bF (a9 (nM a) (gV (d2 bn (dV 0) (dC (.int 0))) (bL)))) (bF (a9 (km a) (gV (d2 bn (dV 0) (dC (.int 1))) (gV (d2 bn (dV 0) (dC (.int 0))) (gV (dV 1) (bL))))))))
def gQ(a:Ad):ak->R Slot:=bH 2 [] (bG 0 (yaB a))
def yaA(a:Ad):ak->R aO:=lC (a9 (gQ a) (gV (dV 0) (gV (dC (.str [97,98,99])) (bL))))
def jt(a:Ad):ak->R Slot:=bH 1 [] (bG 0 (yaA a))
def yaq(a:Ad):ak->R aO:=cc (kb (dB (bF (a9 (jt a) (gV (dV 0) (bL)))))) (uX (.ref a.NoView) (λb=>bz ((dC (.str [97,32,118,105,101,119,32,105,115,32,97,32,116,117,112,108,101,32,111,102,32,97,32,119,105,100,116,104,32,97,110,100,32,97,32,114,105,115,105,110,103,32,116,117,112,108,101,32,111,102,32,49,32,116,111,32,57,32,119,105,110,100,111,119,115])) b))) (dX)
def mD(a:Ad):ak->R Slot:=bH 1 [] (bG 0 (yaq a))
def yau(a:Ad):ak->R aO:=aK (dy 1 (sF))
 (aK (λb=>e_ (dj 2 (bJ (dV 0)) (fQ 1 (dV 2) (d2 bi (iN 1 (dV 2) (dC (.int 0))) (dC (.int 1)))) b))
 (k7 1))
def vS(a:Ad):ak->R Slot:=bH 1 [] (bG 2 (yau a))
def yam(a:Ad)(c:ak->R Slot):ak->R aO:=aK (cc (kb (dB (vh 2))) (aK (oQ 3 (dV 0)) (tJ (.ret (.val .non)))) (dX))
 (aK (bW 4 (cO c_ (dV 0) (cI (d2 bi (d2 jT (dL bP (ap (dV 0) (aC))) (dV 1)) (dC (.int 1)))) (dv)))
 (λb=>e_ (dj 5 (bJ (dC (.str [97,98,99]))) (aK (bW 6 (d2 bi (dV 4) (dV 5)))
 (cc (dB (d2 (dD λi j=>decide (j<i)) (iN 2 (dV 6) (dC (.int 0))) (dC (.int 0)))) (aK (fQ 2 (dV 6) (d2 jT (iO 2 (dV 6)) (dC (.int 1))))
 (aK (jA (a9 (c) (gV (d2 bi (dV 0) (dV 5)) (gV (dV 1) (gO 2 (gO 3 (bL)))))))
 (fQ 2 (dV 6) (d2 bi (iO 2 (dV 6)) (dC (.int 1)))))) (dX))) b)))
def o7(a:Ad):Nat->ak->R Slot
 |0=>bH 4 [2,3] (bG 3 yc)
 |k+1=>bH 4 [2,3] (bG 3 (yam a (o7 a k)))
def yaT(a:Ad):ak->R aO:=aK (jA (a9 (mD a) (gV (dV 0) (bL))))
 (aK (bW 1 (d2 bn (dV 0) (dC (.int 0))))
 (aK (dy 2 (dL dE (aC)))
 (aK (λb=>e_ (dj 3 (bJ (dF (dL vF (ap (dF (cV [] (bJ (d2 bn (dV 0) (dC (.int 1)))) (cF) (cO c_ (dV 0) (dv) (cI (d1 fV (dC (.int 1))))))) (aC))))) (jA (uA (o7 a 12) (sK (dV 3) (sK (dV 1) (gN (iG (a9 (vS a) (gV (d2 bn (dV 0) (dC (.int 1))) (bL)))) (gO 2 (bL))))))) b))
 (k7 2))))
def nG(a:Ad):ak->R Slot:=bH 1 [] (bG 3 (yaT a))
def yay(a:Ad):ak->R aO:=cq (dL bP (ap (bF (a9 (nG a) (gV (dV 0) (bL)))) (aC)))
def yj(a:Ad):ak->R Slot:=bH 1 [] (bG 0 (yay a))
def yav(a:Ad):ak->R aO:=aK (dy 1 (sF))
 (aK (λb=>e_ (dj 2 (bJ (dV 0)) (aK (fQ 1 (cO c_ (dV 2) (dv) (cI (d1 fV (dC (.int 1))))) (d2 bi (iN 1 (cO c_ (dV 2) (dv) (cI (d1 fV (dC (.int 1))))) (dC (.int 0))) (dC (.int 1))))
 (fQ 1 (cO c_ (dV 2) (cI (dC (.int 1))) (dv)) (d2 jT (iN 1 (cO c_ (dV 2) (cI (dC (.int 1))) (dv)) (dC (.int 0))) (dC (.int 1))))) b))
 (k7 1))
def r9(a:Ad):ak->R Slot:=bH 1 [] (bG 2 (yav a))
def yaQ(a:Ad):ak->R aO:=aK (dy 1 (uK (cO c_ (d2 bn (dV 0) (dC (.int 0))) (dv) (cI (d1 fV (dC (.int 1))))) (dC (.bl ah))))
 (aK (bW 2 (dC (.int 0)))
 (aK (λb=>e_ (i8 (dB (d2 (dD λi j=>decide (i<j)) (dV 2) (nD 1))) (aK (bW 2 (nD 1))
 (dj 3 (bJ (dV 0)) (cc (j_ (dB (jm aj 1 (cO c_ (dV 3) (dv) (cI (d1 fV (dC (.int 1))))))) (dB (jm aj 1 (cO c_ (dV 3) (cI (dC (.int 1))) (dv))))) (aK (fQ 1 (cO c_ (dV 3) (dv) (cI (d1 fV (dC (.int 1))))) (dC (.bl ah)))
 (fQ 1 (cO c_ (dV 3) (cI (dC (.int 1))) (dv)) (dC (.bl ah)))) (dX)))) 1000 b))
 (k7 1)))
def oW(a:Ad):ak->R Slot:=bH 1 [] (bG 3 (yaQ a))
def yaH(a:Ad):ak->R aO:=aK (cc (dB (d2 (dD λi j=>decide (i<j)) (dV 1) (dL bP (ap (dV 0) (aC))))) (cq (d2 bn (dV 0) (dV 1))) (dX))
 (aK (cc (dB (d2 (eqT aj) (dV 0) (dF (dL dE (aC))))) (cq (dC (.int 0))) (dX))
 (cq (d2 bi (d2 lH (d2 bn (dV 0) (d2 gP (dV 1) (dL bP (ap (dV 0) (aC))))) (dC (.int 31))) (dV 1))))
def sI(a:Ad):ak->R Slot:=bH 2 [] (bG 0 (yaH a))
def yaJ(a:Ad):ak->R aO:=aK (bW 3 (d2 gP (d2 bi (d2 bi (d2 lH (bF (a9 (sI a) (gV (dV 0) (gV (dV 1) (bL))))) (dC (.int 1103515245))) (d2 lH (dC (.int 7919)) (dV 1))) (dC (.int 12345))) (dC (.int 2147483647))))
 (cq (d2 gP (d2 gP (d2 gP (d2 va (dV 3) (dC (.int 5))) (dC (.int 2147483647))) (dC (.int 999983))) (dV 2)))
def zc(a:Ad):ak->R Slot:=bH 3 [] (bG 1 (yaJ a))
def yaI(a:Ad):ak->R aO:=aK (oQ 1 (dC (.int 0)))
 (lC (a9 (zc a) (gV (dV 0) (gV (jv (λxs=>qd (bP xs)) 1) (gV (dV 2) (bL))))))
def jX(a:Ad):ak->R Slot:=bH 3 [1] (bG 0 (yaI a))
def yaL(a:Ad):ak->R aO:=cq (d2 bn (dV 2) (bF (a9 (jX a) (gV (dV 0) (gO 1 (gV (dL bP (ap (dV 2) (aC))) (bL)))))))
def nt(a:Ad):ak->R Slot:=bH 3 [1] (bG 0 (yaL a))
def yaN(a:Ad):ak->R aO:=aK (bW 4 (bF (a9 (nt a) (gV (dV 0) (gO 1 (gV (dF (dL dE (ap (dC (.int 1)) (ap (dC (.int 2)) (ap (dC (.int 2)) (ap (dC (.int 3)) (ap (dC (.int 3)) (ap (dC (.int 3)) (aC))))))))) (bL)))))))
 (aK (bW 5 (dC (.str [])))
 (aK (λb=>e_ (dj 6 (dL kn (ap (d2 bi (dV 2) (bF (a9 (jX a) (gV (dV 0) (gO 1 (gV (d2 bi (d2 jT (dV 3) (dV 2)) (dC (.int 1))) (bL))))))) (aC))) (bW 5 (d2 bi (dV 5) (d2 bn (dC (.str [97,98,99])) (bF (a9 (jX a) (gV (dV 0) (gO 1 (gV (dV 4) (bL))))))))) b))
 (cq (dV 5))))
def sr(a:Ad):ak->R Slot:=bH 4 [1] (bG 3 (yaN a))
def yaM(a:Ad):ak->R aO:=cq (dL kl (ap (dF (dL kq (ap (dF (cV [0,1] (dL kn (ap (dL bP (ap (dV 0) (aC))) (aC))) (dB (d2 (dD λi j=>decide (i<=j)) (d2 bi (dV 0) (dV 2)) (dL bP (ap (dV 1) (aC))))) (cO c_ (dV 1) (cI (dV 0)) (cI (d2 bi (dV 0) (dV 2)))))) (aC)))) (aC)))
def x_(a:Ad):ak->R Slot:=bH 2 [] (bG 0 (yaM a))
def yaO(a:Ad):ak->R aO:=aK (bW 4 (cc (dB (d2 (eqT ah) (dV 2) (dC (.int 2)))) (d2 bi (dC (.int 2)) (bF (a9 (jX a) (gV (dV 0) (gO 1 (gV (dC (.int 3)) (bL))))))) (d2 bi (dC (.int 1)) (bF (a9 (jX a) (gV (dV 0) (gO 1 (gV (dC (.int 4)) (bL)))))))))
 (aK (dy 5 (dL sO (ap (bF (a9 (x_ a) (gV (bF (a9 (sr a) (gV (dV 0) (gO 1 (gV (dV 4) (gV (d2 jT (d2 bi (dV 4) (dV 3)) (dC (.int 1))) (bL))))))) (gV (dV 4) (bL))))) (aC))))
 (aK (λb=>e_ (dj 6 (dL kn (ap (d2 gP (dV 2) (dC (.int 3))) (aC))) (zf 5 (bF (a9 (jX a) (gV (dV 0) (gO 1 (gV (jv (λxs=>qd (bP xs)) 5) (bL)))))) (bF (a9 (sr a) (gV (dV 0) (gO 1 (gV (dV 4) (gV (dV 4) (bL)))))))) b))
 (cq (dL br (ap (dV 4) (ap (dL kl (ap (dF (jv (λxs=>oZ (kq xs)) 5)) (aC))) (aC)))))))
def uw(a:Ad):ak->R Slot:=bH 4 [1] (bG 3 (yaO a))
def yaK(a:Ad):ak->R aO:=aK (bW 2 (dF (dL dE (ap (dC .non) (ap (dC (.int 5)) (ap (dC (.str [50,58,32,97,98])) (ap (dF (dL dE (ap (dC (.int 1)) (ap (dL br (ap (dC (.str [97])) (aC))) (aC))))) (ap (dL br (ap (dC (.int 1)) (ap (dL br (aC)) (aC)))) (ap (dL br (ap (dC (.int 2)) (ap (dL br (ap (dC (.str [97])) (aC))) (aC)))) (ap (dL br (ap (dC (.int 0)) (ap (dL br (ap (dC (.str [])) (aC))) (aC)))) (ap (dL br (ap (dC (.int 5)) (ap (dL br (ap (dC (.str [97,97,97,97,97])) (aC))) (aC)))) (ap (dL br (ap (dC (.bl ah)) (ap (dL br (ap (dC (.str [97])) (aC))) (aC)))) (aC)))))))))))))
 (aK (bW 2 (d2 bi (dV 2) (dF (dL dE (ap (dL br (ap (dC (.int 1)) (ap (dL br (ap (dC (.str [98])) (ap (dC (.str [97])) (aC)))) (aC)))) (ap (dL br (ap (dC (.int 1)) (ap (d2 xR (dL br (ap (dC (.str [97])) (aC))) (dC (.int 10))) (aC)))) (ap (dL br (ap (dC (.int 1)) (ap (dL br (ap (dC (.str [100])) (aC))) (aC)))) (ap (dL br (ap (dC (.int 1)) (ap (dL br (ap (dC (.str [65])) (aC))) (aC)))) (ap (dL br (ap (dC (.int 1)) (ap (dF (dL dE (ap (dC (.str [97])) (aC)))) (aC)))) (ap (dL br (ap (dC (.int 1)) (ap (dL br (ap (dC (.int 1)) (aC))) (aC)))) (aC)))))))))))
 (aK (bW 2 (d2 bi (dV 2) (dF (dL dE (ap (dL br (ap (dC (.int 1)) (aC))) (ap (dL br (ap (dC (.int 1)) (ap (dL br (ap (dC (.str [97])) (aC))) (ap (dC (.int 1)) (aC))))) (ap (dL br (ap (dC (.str [49])) (ap (dL br (ap (dC (.str [97])) (aC))) (aC)))) (aC))))))))
 (lC (a9 (nt a) (gV (dV 0) (gO 1 (gV (dV 2) (bL))))))))
def zh(a:Ad):ak->R Slot:=bH 2 [1] (bG 1 (yaK a))
def yaP(a:Ad):ak->R aO:=aK (dy 1 (dL dE (ap (dL (jN (js a)) (ap (dV 0) (ap (dC (.raw (.ref a.NoText))) (aC)))) (ap (dL (jN (js a)) (ap (dV 0) (ap (dC (.raw (.ref a.NoWidth))) (aC)))) (ap (dL (jN (js a)) (ap (dV 0) (ap (dC (.raw (.ref a.NoView))) (aC)))) (ap (dL (jN (js a)) (ap (dV 0) (ap (dC (.raw (.ref a.NoWindow))) (aC)))) (aC)))))))
 (aK (kr 1 (dF (dL dE (ap (dL (jN (js a)) (ap (dV 0) (ap (dC (.raw (.ref a.Never))) (aC)))) (ap (dL (jN (js a)) (ap (dV 0) (ap (dC (.raw (.ref a.Full))) (aC)))) (ap (dL (jN (js a)) (ap (dV 0) (ap (dC (.raw (.ref a.Nothing))) (aC)))) (ap (dL (jN (js a)) (ap (dV 0) (ap (dC (.raw (.ref a.Unlike))) (aC)))) (aC))))))))
 (aK (kr 1 (dF (dL dE (ap (dL (jN (js a)) (ap (dV 0) (ap (dC (.raw (.ref a.NoPlace))) (aC)))) (ap (dL (jN (js a)) (ap (dV 0) (ap (dC (.raw (.ref a.NoLetters))) (aC)))) (ap (dL (jN (js a)) (ap (dV 0) (ap (dC (.raw (.ref a.BadText))) (aC)))) (aC)))))))
 (aK (cc (j_ (dB (d2 (eqT ah) (sL A0 1 (dC (.bl ah))) (dC (.int 1)))) (kb (dB (dL (jN (js a)) (ap (dV 0) (ap (dC (.raw (.ty "ValueError"))) (aC))))))) (cq (dL br (ap (dC (.str [114,101,102,117,115,101,100])) (ap (d1 fV (dC (.int 1))) (aC))))) (dX))
 (cq (dL br (ap (dC (.str [114,101,102,117,115,101,100])) (ap (sL BN 1 (dC (.bl ah))) (aC))))))))
def sV(a:Ad):ak->R Slot:=bH 1 [] (bG 1 (yaP a))
def yaz(a:Ad):ak->R aO:=cq (lB (bF (a9 (gQ a) (gV (dV 0) (gV (d2 bi (dC (.str [46])) (dC (.str [97,98,99]))) (bL))))) (d2 (dD λi j=>decide (i<=j)) (u9 xJ (u9 xK (dC (.str [])) (ap (d2 bn (dV 0) (dC (.int 1))) (aC))) (ap (dC (.str [46])) (aC))) (dC (.int 6))))
def iZ(a:Ad):ak->R Slot:=bH 1 [] (bG 0 (yaz a))
def yap(a:Ad):ak->R aO:=cc (kb (dB (bF (a9 (iZ a) (gV (dV 0) (bL)))))) (uX (.ref a.NoView) (λb=>bz ((dC (.str [97,32,98,108,117,114,114,101,100,32,118,105,101,119,32,105,115,32,97,32,118,105,101,119,32,111,102,32,119,104,111,115,101,32,108,101,116,116,101,114,115,32,117,112,32,116,111,32,54,32,109,97,121,32,98,101,32,112,111,105,110,116,115])) b))) (dX)
def oX(a:Ad):ak->R Slot:=bH 1 [] (bG 0 (yap a))
def yaV(a:Ad):ak->R aO:=aK (bW 1 (dF (dL dE (ap (dC (.str [])) (aC)))))
 (aK (λb=>e_ (dj 2 (bJ (dV 0)) (aK (bW 3 (cc (dB (d2 (eqT aj) (dV 2) (dC (.str [46])))) (dC (.str [97,98,99])) (dV 2)))
 (aK (dy 4 (dL dE (aC)))
 (aK (dj 5 (bJ (dV 1)) (kr 4 (dF (cV [5] (bJ (dV 3)) (cF) (d2 bi (dV 1) (dV 0))))))
 (bW 1 (dM 4))))) b))
 (cq (dV 1)))
def sw(a:Ad):ak->R Slot:=bH 1 [] (bG 5 (yaV a))
def yas(a:Ad):ak->R aO:=aK (dy 1 (vB (dL br (aC)) (dC (.bl ah))))
 (aK (λε=>e_ (dj 2 (bJ (d2 bn (dV 0) (dC (.int 1)))) (aK (dy 3 y4)
 (aK (sH 4 1 (dj 5 (bJ (bF (a9 (sw a) (gV (dV 2) (bL))))) (xV 3 (dL kl (ap (dF (dL kq (ap (d2 vK (dV 4) (dL br (ap (dV 5) (aC)))) (aC)))) (aC))) (dC (.bl ah)))))
 (vA 1 3))) ε))
 (pY (cV [0] (bJ (dF (vq 1))) (cF) (dL br (ap (d2 bn (dV 1) (dC (.int 0))) (ap (dV 0) (aC)))))))
def vJ(a:Ad):ak->R Slot:=bH 1 [] (bG 5 (yas a))
def yat(a:Ad):ak->R aO:=aK (jA (a9 (oX a) (gV (dV 0) (bL))))
 (aK (jA (a9 (mD a) (gV (dV 1) (bL))))
 (cq (d2 Aa (dV 1) (bF (a9 (vJ a) (gV (dV 0) (bL)))))))
def u7(a:Ad):ak->R Slot:=bH 2 [] (bG 0 (yat a))
def yaw(a:Ad):ak->R aO:=aK (dy 1 (iG (a9 (r9 a) (gV (dV 0) (bL)))))
 (aK (bW 2 (dF (cV [1] (bJ (dF (o9 1))) (dB (d2 (dD λi j=>decide (j<i)) (iO 1 (dV 0)) (dC (.int 0)))) (dV 0))))
 (aK (cc (dB (d2 (dD λi j=>decide (j<i)) (dL bP (ap (dV 2) (aC))) (dC (.int 1)))) (cq (dL br (ap (dC (.str [116,119,111])) (ap (d2 bn (dV 2) (dC (.int 0))) (ap (d2 bn (dV 2) (dC (.int 1))) (aC)))))) (dX))
 (aK (cc (mZ (dB (d2 (eqT aj) (dL bP (ap (dV 2) (aC))) (dC (.int 1)))) (dB (d2 (dD λi j=>decide (j<i)) (iO 1 (d2 bn (dV 2) (dC (.int 0)))) (dC (.int 1))))) (cq (dL br (ap (dC (.str [109,111,114,101])) (ap (d2 bn (dV 2) (dC (.int 0))) (aC))))) (dX))
 (aK (dy 3 (iG (a9 (oW a) (gV (dV 0) (bL)))))
 (aK (bW 4 (dF (qx [3] (vg (ap (dV 0) (aC))) (dB (jm aj 2 (cO c_ (dV 1) (dv) (cI (d1 fV (dC (.int 1))))))) (dV 0))))
 (aK (cc (dB (d2 (dD λi j=>decide (i<j)) (dL bP (ap (dV 4) (aC))) (dL bP (ap (dV 0) (aC))))) (cq (dL br (ap (dC (.str [97,112,97,114,116])) (ap (dL kl (ap (dV 4) (aC))) (aC))))) (dX))
 (cq (dC .non))))))))
def uY(a:Ad):ak->R Slot:=bH 1 [] (bG 4 (yaw a))
def yao(a:Ad):ak->R aO:=aK (jA (a9 (mD a) (gV (dV 0) (bL))))
 (lC (a9 (uY a) (gV (d2 bn (dV 0) (dC (.int 1))) (bL))))
def uL(a:Ad):ak->R Slot:=bH 1 [] (bG 0 (yao a))
def yar(a:Ad):ak->R aO:=aK (jA (a9 (oX a) (gV (dV 0) (bL))))
 (pY (cV [] (bJ (bF (a9 (vJ a) (gV (dV 0) (bL))))) (dB (d2 (sv aj) (bF (a9 (uL a) (gV (dV 0) (bL)))) (dC .non))) (dV 0)))
def oJ(a:Ad):ak->R Slot:=bH 1 [] (bG 0 (yar a))
def yaU(a:Ad):ak->R aO:=aK (dy 1 (dL dE (aC)))
 (aK (dj 2 (bJ (bF (a9 (oJ a) (gV (dV 0) (bL))))) (kr 1 (bF (a9 (nG a) (gV (dV 2) (bL))))))
 (cq (dF (jv (λxs=>oZ (kq xs)) 1))))
def tq(a:Ad):ak->R Slot:=bH 1 [] (bG 2 (yaU a))
end Sh
namespace Pu
open L2
section
variable{X:Cx}{e c T:aB}{m:List aB}{p a:List ba}{t:ak->R Bool}{i d:ak->R Slot}{n:ak->R (List b0)}{Z:ak->R PV}{k P O N:Nat}{w A y x:List Str}{g l Y W:ak->R Slot}{E D C:Str}{B j L K J M G:Pos}
def lI(t:ak->R Bool)(i d:ak->R Slot):ak->R Slot:=λf=>(bz (t f)).bind λk b=>if k then i b else d b
theorem On(ht:DT X.nox E0 c t)(h1:vT X a i)(h2:vT X p d):vT X (.If c a [] B::p) (lI t i d):=λF S ε σ H Q XE rl h af s I=>by
 have q0:Ok X.K E0 σ F S H (t ε) (λk f F1 S1 H1=>Ok X.K (λc _ r=>XE c r) σ F1 S1 H1 (if k then i f else d f) (λs _ F' S' r=>∀v Sr,i6 X.K r F' s v Sr->(∀b,Sr b->H b=ae/\¬F' b/\¬U S' b/\∃o,r b=aa o/\cU o)->Q v r)):=by
  unfold lI at h;cases e0:t ε with
  |no=>rw[e0]at h;exact h.elim
  |er c ε'=>rw[e0]at h;exact h.elim
  |ok k f=>rw[e0]at h;exact λF1 S1 H1 r1 l=>Ok.from h l
 have wt:=(ht F S ε σ H (λk H1=>∃F1 S1 f,aN X.K F1 S1 f σ H1/\(∀b,H1 b=ae->H b=ae)/\Ok X.K (λc _ r=>XE c r) σ F1 S1 H1 (if k then i f else d f) (λs _ F' S' r=>∀v Sr,i6 X.K r F' s v Sr->(∀b,Sr b->H b=ae/\¬F' b/\¬U S' b/\∃o,r b=aa o/\cU o)->Q v r)) rl (q0.imp λk f F1 S1 H1 r1 l q=>⟨F1,S1,f,r1,λb z=>kM l z,q⟩)).run af s (I.wish _);refine CD (wpAny_If (dZ wt (λkk s1 ⟨H1,I1,F1,S1,f,r1,fb,q⟩=>?_) λ_ _ z=>z.elim));have I1:=I1.unwish;cases kk with
 |true=>refine dZ (h1 F1 S1 f σ H1 Q XE r1 (q.imp λsl ε' F' S' r r' g' hq v Sr rs fr=>hq v Sr rs λb z=>⟨fb b (fr b z).1,(fr b z).2⟩) af s1 I1) (λfl s2 ⟨u,efl,z⟩=>?_) λ_ _ z=>z;subst efl;exact⟨u,rfl,z⟩
 |false=>refine zw ?_;exact h2 F1 S1 f σ H1 Q XE r1 (q.imp λsl ε' F' S' r r' g' hq v Sr rs fr=>hq v Sr rs λb z=>⟨fb b (fr b z).1,(fr b z).2⟩) af s1 I1
theorem Kz{f:ag}{fd:gi}(Fn:jP X.prog X.w X.K X.mg X.base (bU X.prog X.w) k f fd w (bt X.K g))(hb:Binds X.K fd w [])(hk:nU X.K (.ref f)=ah)(hr:dW k X.A)(ha:DG X.nox E0 (e::m) n)(h1:aR (e::m) X.env=(aj,a6 e X.env)::aR m X.env) (h2:(c7 j (aR m X.env)).any (·.1)=aj):∀F S ε σ H Q (XE:ai->Hp->Prop),aN X.K F S ε σ H->Ok X.K (λc _ u=>XE c u) σ F S H (eO g n ε) (λs _ F' S' u=>∀v Sr,i6 X.K u F' s v Sr->(∀b,Sr b->H b=ae/\¬F' b/\¬U S' b/\∃o,u b=aa o/\cU o)->Q v u) -> ∀af s,Inv X af σ H s->ar (ax X.prog X.w) X.A (callWith j (.ref f) [] (c7 j (aR (e::m) X.env)) (qT j (qU [] X.env))) (EP X af σ Q) (XP X af σ XE) s:=λF S ε σ H Q XE rl h af s I=>by
 have q0:Ok X.K E0 σ F S H (n ε) (λas ε1 F1 S1 H1=>Ok X.K (λc _ u=>XE c u) σ F1 S1 H1 (yh ε1 as g) (λs _ F' S' u=>∀v Sr,i6 X.K u F' s v Sr->(∀b,Sr b->H b=ae/\¬F' b/\¬U S' b/\∃o,u b=aa o/\cU o)->Q v u)):=by
  unfold eO at h;cases e0:n ε with
  |no=>rw[e0]at h;exact h.elim
  |er c ε'=>rw[e0]at h;exact h.elim
  |ok as ε1=>rw[e0]at h;exact λF1 S1 H1 r1 l=>Ok.from h l
 have wa:=(ha F S ε σ H (λvs H1=>∃F1 S1 ε1 as,aN X.K F1 S1 ε1 σ H1/\hU X.K σ F1 H1 as vs/\(∀b,H1 b=ae->H b=ae)/\Ok X.K (λc _ u=>XE c u) σ F1 S1 H1 (yh ε1 as g) (λs _ F' S' u=>∀v Sr,i6 X.K u F' s v Sr->(∀b,Sr b->H b=ae/\¬F' b/\¬U S' b/\∃o,u b=aa o/\cU o)->Q v u)) rl (q0.imp λas ε1 F1 S1 H1 r1 l q vs av=>⟨F1,S1,ε1,as,r1,av,λb z=>kM l z,q⟩)).run j af s (I.wish _);refine CH (h₀:=X.base) I.ok.mod.kin hk (dZ wa (λus s1 ⟨vs,H1,I1,r,F1,S1,ε1,as,r1,av,fb,q⟩=>⟨I1.unwish.kIn,?_⟩) λ_ _ z=>z.elim) h1 h2;exact UD Fn hr hb I1.unwish r (Rh (OO r1 av q) λv u ⟨sl,ε',F',S',Sr,r',g',rs,fr,hq⟩=>hq v Sr rs λb z=>⟨fb b (fr b z).1,(fr b z).2⟩)
end
section
variable{X:Cx}{e c y:aB}{x:List aB}{a:ak->R (List b0)}{l:ak->R PV}{k1 k2 k3 k4 k5 k6:Nat}{O N M L K J:List Str}{d E D C B A:ak->R Slot}{w r q p n m:Str}{j p1 Z Y W T P lp G:Pos}
def lN(d E D C B A:ak->R Slot)(l:ak->R PV)(a:ak->R (List b0)):ak->R Slot:=λf=>(bz (l f)).bind λi b=>match i with
   |.int 0=>eO d a b
   |.int 1=>eO E a b
   |.int 2=>eO D a b
   |.int 3=>eO C a b
   |.int 4=>eO B a b
   |.int 5=>eO A a b
   |_=>.no
theorem Qc(c1:cf (bU X.prog X.w) X.prog X.w X.K X.mg X.base w k1 O (bt X.K d))(c2:cf (bU X.prog X.w) X.prog X.w X.K X.mg X.base r k2 N (bt X.K E))(c3:cf (bU X.prog X.w) X.prog X.w X.K X.mg X.base q k3 M (bt X.K D))(c4:cf (bU X.prog X.w) X.prog X.w X.K X.mg X.base p k4 L (bt X.K C))(c5:cf (bU X.prog X.w) X.prog X.w X.K X.mg X.base n k5 K (bt X.K B))(c6:cf (bU X.prog X.w) X.prog X.w X.K X.mg X.base m k6 J (bt X.K A))(rm1:dW k1 X.A) (rm2:dW k2 X.A) (rm3:dW k3 X.A) (rm4:dW k4 X.A) (rm5:dW k5 X.A) (rm6:dW k6 X.A) (hi:DE X.nox E0 y l) (ha:DG X.nox E0 (e::x) a) (hs:Br y:=by exact λ_ _=>rfl) (hg1:Gl X w:=by rfl) (hg2:Gl X r:=by rfl) (hg3:Gl X q:=by rfl) (hg4:Gl X p:=by rfl) (hg5:Gl X n:=by rfl) (hg6:Gl X m:=by rfl)(hd1:(w==("__debug__":Str))=aj:=by decide) (mR:(r==("__debug__":Str))=aj:=by decide) (hd3:(q==("__debug__":Str))=aj:=by decide) (wS:(p==("__debug__":Str))=aj:=by decide) (hd5:(n==("__debug__":Str))=aj:=by decide) (hd6:(m==("__debug__":Str))=aj:=by decide)(h1:aR (e::x) X.env=(aj,a6 e X.env)::aR x X.env:=by rfl) (h2:(c7 j (aR x X.env)).any (·.1)=aj:=by rfl):DX X (.Call (.Subscript (.List [.Name w p1,.Name r Z,.Name q Y,.Name p W,.Name n T,.Name m P] lp) y G) (e::x) [] j) (lN d E D C B A l a):=λF S ε σ H Q XE rl h af s I=>by
 obtain⟨f1,fd1,m1,F1',b1,kp1⟩:=c1.ex;obtain⟨f2,fd2,m2,F2',b2,kp2⟩:=c2.ex;obtain⟨f3,fd3,m3,F3',b3,kp3⟩:=c3.ex;obtain⟨f4,fd4,m4,F4',b4,kp4⟩:=c4.ex;obtain⟨f5,fd5,m5,F5',b5,kp5⟩:=c5.ex;obtain⟨f6,fd6,m6,F6',b6,kp6⟩:=c6.ex;have hf:DE X.nox E0 (.Subscript (.List [.Name w p1,.Name r Z,.Name q Y,.Name p W,.Name n T,.Name m P] lp) y G) (d2 bn (dF (dL dE (ap (dC (.raw (.ref f1))) (ap (dC (.raw (.ref f2))) (ap (dC (.raw (.ref f3))) (ap (dC (.raw (.ref f4))) (ap (dC (.raw (.ref f5))) (ap (dC (.raw (.ref f6))) aC)))))))) l) :=fi fz fA (jx (au (iJ m1 hg1 hd1) (au (iJ m2 hg2 mR) (au (iJ m3 hg3 hd3) (au (iJ m4 hg4 wS) (au (iJ m5 hg5 hd5) (au (iJ m6 hg6 hd6) aI))))))) hi hs;unfold lN at h;cases e0:l ε with
 |no=>rw[e0]at h;exact h.elim
 |er c ε'=>rw[e0]at h;exact h.elim
 |ok i ε1=>
  rw[e0]at h;have h:Ok X.K (λc _ H'=>XE c H') σ F S H (match i with
   |.int 0=>eO d a ε1
   |.int 1=>eO E a ε1
   |.int 2=>eO D a ε1
   |.int 3=>eO C a ε1
   |.int 4=>eO B a ε1
   |.int 5=>eO A a ε1
   |_=>.no) _:=h
  have hv:∀f,bn (.lst [.raw (.ref f1),.raw (.ref f2),.raw (.ref f3),.raw (.ref f4),.raw (.ref f5),.raw (.ref f6)]) i=aa (.raw (.ref f))->d2 bn (dF (dL dE (ap (dC (.raw (.ref f1))) (ap (dC (.raw (.ref f2))) (ap (dC (.raw (.ref f3))) (ap (dC (.raw (.ref f4))) (ap (dC (.raw (.ref f5))) (ap (dC (.raw (.ref f6))) aC)))))))) l ε=.ok (.raw (.ref f)) ε1:=λf hx=>by unfold d2;rw[show dF (dL dE (ap (dC (.raw (.ref f1))) (ap (dC (.raw (.ref f2))) (ap (dC (.raw (.ref f3))) (ap (dC (.raw (.ref f4))) (ap (dC (.raw (.ref f5))) (ap (dC (.raw (.ref f6))) aC))))))) ε=.ok (.lst [.raw (.ref f1),.raw (.ref f2),.raw (.ref f3),.raw (.ref f4),.raw (.ref f5),.raw (.ref f6)]) ε from rfl,R.bind_ok,e0,R.bind_ok,hx];rfl
  have key:∀{f:ag}{fd:gi}{k:Nat}{ps:List Str}{g:ak->R Slot},jP X.prog X.w X.K X.mg X.base (bU X.prog X.w) k f fd ps (bt X.K g)->Binds X.K fd ps []->nU X.K (.ref f)=ah->dW k X.A ->
    bn (.lst [.raw (.ref f1),.raw (.ref f2),.raw (.ref f3),.raw (.ref f4),.raw (.ref f5),.raw (.ref f6)]) i=aa (.raw (.ref f)) ->
    Ok X.K (λc _ H'=>XE c H') σ F S H (eO g a ε1) (λs _ F' S' H'=>∀v Sr,i6 X.K H' F' s v Sr->(∀b,Sr b->H b=ae/\¬F' b/\¬U S' b/\∃o,H' b=aa o/\cU o)->Q v H') ->
    ar (ax X.prog X.w) X.A (a6 (.Call (.Subscript (.List [.Name w p1,.Name r Z,.Name q Y,.Name p W,.Name n T,.Name m P] lp) y G) (e::x) [] j) X.env) (EP X af σ Q) (XP X af σ XE) s:=λ{f fd k ps g} Fn hb hk hr hx h=>by
   have wf:=(hf F S ε σ H (λv H1=>v=.ref f/\∃F1 S1,aN X.K F1 S1 ε1 σ H1/\bp (U S) (U S1) F F1 H H1) rl (by rw[hv f hx];exact λF' S' H' r' g' v rv=>⟨rv,F',S',r',g'⟩)).run af s (I.wish _);refine aq (dZ wf (λu s1 ⟨v,H1,I1,rv,ev,F1,S1,r1,d⟩=>?_) λ_ _ z=>z.elim);subst ev;obtain rfl:u=Value.ref f:=rv;exact Kz Fn hb hk hr ha h1 h2 F1 S1 ε1 σ H1 Q XE r1 ((Ok.from h d).imp λsl ε' F' S' H' r' g' hq v Sr rs fr=>hq v Sr rs λb z=>⟨kM d (fr b z).1,(fr b z).2⟩) af s1 I1.unwish
  split at h
  .exact key F1' b1 kp1 rm1 rfl h
  .exact key F2' b2 kp2 rm2 rfl h
  .exact key F3' b3 kp3 rm3 rfl h
  .exact key F4' b4 kp4 rm4 rfl h
  .exact key F5' b5 kp5 rm5 rfl h
  .exact key F6' b6 kp6 rm6 rfl h
  .exact h.elim
end
section
variable{X:Cx}{K:ay}
def Fy(x:Tx):PV->Option Bool
 |.tup _=>aa aj
 |.str y=>aa (eX (tV y) (tV x))
 |_=>ae
def xM:List PV->Tx->Option Bool
 |[],_=>aa aj
 |y::c,x=>(Fy x y).bind λa=>(xM c x).map λb=>a||b
def yS:PV->PV->Option PV
 |.str x,.lst a=>(xM a x).map .bl
 |_,_=>ae
theorem Lq{H:Hp}{F:ag->Prop}{x:Tx}{y:PV}{u:V}{k:Bool}(e:Fy x y=aa k)(c:aU K H F y u):gz K H 8 u (tV x) k:=by
 cases y with
 |tup xs=>
  cases e;obtain⟨a,j,rfl,h,_⟩:=c;intro X n o i s z v A I d f m;cases d;obtain⟨t,rfl⟩:=f;obtain⟨b,r,g,l⟩:=I.tuple (cu.of h);exact SeqAt.EqAt.tuple_str _ _ (show s.heap.IsTuple a b.toArray from g) ∅
 |str y=>
  cases e;rw[c.1];exact E2 rfl rfl
 |_=>cases e
theorem Ll{H:Hp}{F:ag->Prop}{x:Tx}{f:List PV}{d:List V}{k:Bool}(e:xM f x=aa k)(m:Reps K H F f d):∃ks:List Bool,ks.length=d.length/\(∀(i:Nat) u b,d[i]?=aa u->ks[i]?=aa b->gz K H 8 u (tV x) b)/\k=ks.any id:=by
 induction f generalizing d k with
 |nil=>
  cases e;rw[show d=[] from m];exact⟨[],rfl,λi u b h=>by simp at h,rfl⟩
 |cons y f g=>
  obtain⟨u,r,s,q,p⟩:=m;subst s;simp only[xM,zQ,jD]at e;obtain⟨a,z,b,v,rfl⟩:=e;obtain⟨ks,o,n,rfl⟩:=g v p;refine⟨a::ks,by simp[o],λi w c j l=>?_,by simp⟩;cases i with
  |zero=>simp at j l;subst j l;exact Lq z q
  |succ i=>exact n i w c (by simpa using j) (by simpa using l)
theorem P9:P2 K (BZ K) yS:=λF H x y v u Q pv d c e q=>by
 unfold yS at e;split at e
 .obtain⟨k,h,rfl⟩:=jD.mp e;obtain⟨a,b,rfl,g,_,f⟩:=c;rw[d.1];exact⟨a,b,k,rfl,.inl g,Ll h f,q _ F H (Al.refl ..) rfl⟩
 .cases e
end
end Pu
local macro_rules | `(tactic| simp! [$xs,*]) => `(tactic| simp [Pu.aK, Pu.cc, Pu.dB, Pu.d2, Pu.d1, Pu.dV, Pu.dC, Pu.dL, Pu.dF, Pu.ap, Pu.aC, Pu.cq, Pu.lC, Pu.bW, Pu.dy, Pu.a9, Pu.gV, Pu.gO, Pu.bL, Pu.d9, Pu.eP, Pu.cm, Pu.dR, Pu.f_, Pu.R.bind, Pu.aQ, Pu.bH, Pu.fk, Pu.bG, Pu.back, Pu.ge, Pu.mw, Pu.lG, Pu.uW, Pu.tF, Pu.sT, Pu.bF, Pu.iG, Pu.dE, Pu.br, Pu.dX, Pu.tJ, Pu.jA, Pu.zb, Pu.kb, Pu.tw, Pu.mZ, Pu.j_, Pu.lB, Pu.yG, Pu.nr, Pu.dD, Pu.eC, Pu.oQ, Pu.jv, Pu.qd, Pu.imm, Pu.oZ, Pu.nk, bu, lU, $xs,*])
local macro_rules | `(tactic| and_intros) => `(tactic| (refine' Pu.U6 ?a ?l ?c ?k; (case a => k_is); (case l => k_is); (case c => k_is); (case k => k_is)))
namespace K11
open L2 Pu Sh
def cW(i:Nat):ba:=PySem.Challenge.pw_slitview_k11_blurred_refused.main.body.getD i (.Pass ⟨0,0,0,0⟩)
abbrev Ar:ba:=cW 53
abbrev Ag:ba:=cW 54
abbrev Bf:ba:=cW 55
abbrev Cj:ba:=cW 56
abbrev Cy:ba:=cW 57
abbrev AI:ba:=cW 20
abbrev Cz:ba:=cW 21
abbrev xP:ba:=cW 19
abbrev B4:ba:=cW 22
abbrev xU:ba:=cW 23
abbrev BU:ba:=cW 24
abbrev BE:ba:=cW 26
abbrev Co:ba:=cW 28
abbrev Bu:ba:=cW 25
abbrev CA:ba:=cW 27
abbrev xT:ba:=cW 29
abbrev xq:ba:=cW 41
abbrev A5:ba:=cW 42
abbrev AX:ba:=cW 62
abbrev Ak:ba:=cW 31
abbrev Av:ba:=cW 32
abbrev vf:ba:=cW 33
abbrev Cw:ba:=cW 34
abbrev ym:ba:=cW 43
abbrev AV:ba:=cW 37
abbrev Ay:ba:=cW 36
abbrev zl:ba:=cW 38
abbrev Bo:ba:=cW 44
abbrev Bg:ba:=cW 46
abbrev A8:ba:=cW 39
abbrev BQ:ba:=cW 51
abbrev AF:ba:=cW 63
abbrev xk:ba:=cW 59
abbrev A2:ba:=cW 58
abbrev AB:ba:=cW 60
abbrev oB:ba:=cW 64
structure cR(K:ay)(mg:Str->Option ai)(base:aD)(a:Ad):Prop where
 yaH:cC K mg "_law_cell_at" Ar
 yaJ:cC K mg "_law_mixed" Ag
 yaI:cC K mg "_law_draw" Bf
 yaL:cC K mg "_law_pick" Cj
 yaK:cC K mg "_law_odd" Cy
 yaC:cC K mg "is_whole_number" AI
 yaD:cC K mg "is_width" Cz
 yax:cC K mg "has_only" xP
 yaE:cC K mg "is_window" B4
 yan:cC K mg "are_windows" xU
 yaB:cC K mg "is_view_with" BU
 yaz:cC K mg "is_blurred_view" BE
 yap:cC K mg "check_blurred_view" Co
 yaA:cC K mg "is_view" Bu
 yaq:cC K mg "check_view" CA
 yaV:cC K mg "windows_that_fit" xT
 yas:cC K mg "clearing_views" xq
 yat:cC K mg "clears" A5
 yaP:cC K mg "_law_which" AX
 yav:cC K mg "excesses" Ak
 yaQ:cC K mg "reached_pieces" Av
 yaw:cC K mg "find_bar" vf
 yao:cC K mg "bar" Cw
 yar:cC K mg "cleared" ym
 yam:cC K mg "add_endings" AV
 yau:cC K mg "counted" Ay
 yaT:cC K mg "texts" zl
 yaU:cC K mg "through" Bo
 yaR:cC K mg "seen" Bg
 yay:cC K mg "how_many" A8
 yaS:cC K mg "shortest" BQ
 yaG:cC K mg "_law_ask" AF
 yaM:cC K mg "_law_seen" xk
 yaN:cC K mg "_law_text" A2
 yaO:cC K mg "_law_view" AB
 yaF:cC K mg "law" oB
 yaW:mg "ValueError"=ae
 yaX:mg "all"=ae
 yaY:mg "any"=ae
 yaZ:mg "bool"=ae
 ya0:mg "enumerate"=ae
 ya1:mg "int"=ae
 ya2:mg "isinstance"=ae
 ya3:mg "len"=ae
 ya4:mg "list"=ae
 ya5:mg "range"=ae
 ya6:mg "set"=ae
 ya7:mg "sorted"=ae
 ya8:mg "str"=ae
 ya9:mg "tuple"=ae
 ybb:∃t,mg "LETTERS"=aa (.str (tS [97,98,99]) t)
 ybc:∃t,mg "MOST_POINTS"=aa (.int 6 t)
 ybd:∃t,mg "MOST_WINDOWS"=aa (.int 9 t)
 ybe:∃t,mg "POINT"=aa (.str (tS [46]) t)
 ybf:∃t,mg "WIDEST"=aa (.int 4 t)
 yak:mg "SlitError"=aa (.ref a.SlitError)
 yaf:mg "NoText"=aa (.ref a.NoText)
 yah:mg "NoWidth"=aa (.ref a.NoWidth)
 yag:mg "NoView"=aa (.ref a.NoView)
 yai:mg "NoWindow"=aa (.ref a.NoWindow)
 yac:mg "Never"=aa (.ref a.Never)
 yab:mg "Full"=aa (.ref a.Full)
 yaj:mg "Nothing"=aa (.ref a.Nothing)
 yal:mg "Unlike"=aa (.ref a.Unlike)
 yae:mg "NoPlace"=aa (.ref a.NoPlace)
 yad:mg "NoLetters"=aa (.ref a.NoLetters)
 yaa:mg "BadText"=aa (.ref a.BadText)
 yba:OwnCls "NoView" a.NoView [.type "ValueError",.type "Exception",.type "BaseException",.type "object"] "ValueError.__new__" mg base
 err_SlitError:tj base a.SlitError
 und:∀c,oD a c=ah->Under base a.SlitError c
 tab:AS K (js a)
section
variable{P:aV}{w:aL}{K:ay}{c:Str->Option ai}{b:aD}{a:Ad}
theorem Ro:cb ["_law_script","_law_k"] ["_law_script","_law_k"] (a_ Ar):=by ac_nf
theorem RE(G:cR K c b a):cf (bU P w) P w K c b "_law_cell_at" 1 ["_law_script","_law_k"] (bt K (sI a)) :=
 c9 (k:=0) (pin:=[]) G.yaH Ro rfl (λ_ _ _ _ _ _ g i=>Pu.U8 (λ_ _=>rfl) g i) (λf j A d s H E h=>by exact
  (bg (il (gb B7 jS (aw 1) (dz iM iQ G.ya3 iF (au (aw 0) aI)) rfl) (bq (dQ (fi fz fA (aw 0) (aw 1)))) ii)
  (bg (il (gb (nH h.units) nj (aw 0) (jx aI) rfl) (bq (dQ aM)) ii)
  (bq (dQ (cr fc eV (cr Bb AO (fi fz fA (aw 0) (cr se tP (aw 1) (dz iM iQ G.ya3 iF (au (aw 0) aI)))) aM) (aw 1)))))))
theorem Qj:cb ["_law_script","_law_k","_law_many","_law_drawn"] ["_law_script","_law_k","_law_many"] (a_ Ag):=by ac_nf
theorem Kr(G:cR K c b a):cf (bU P w) P w K c b "_law_mixed" 2 ["_law_script","_law_k","_law_many"] (bt K (zc a)) :=
 c9 (k:=1) (pin:=[]) G.yaJ Qj rfl (λ_ _ _ _ _ _ g i=>Pu.Vh (λ_ _ _=>rfl) g i) (λf j A d s H E h=>by exact
  (bg (fG 3 Qj.nd (cr se tP (cr fc eV (cr fc eV (cr Bb AO ((bY (RE G) (h.mono (by decide)) cN (aZ (aw 0) (aZ (aw 1) bS)))).de aM) (cr Bb AO aM (aw 1))) aM) aM))
  (bq (dQ (cr se tP (cr se tP (cr se tP (cr So UF (aw 3) aM) aM) aM) (aw 2))))))
theorem TC:cb ["_law_script","_law_town","_law_many"] ["_law_script","_law_town","_law_many"] (a_ Bf):=by ac_nf
theorem p7(G:cR K c b a):cf (bU P w) P w K c b "_law_draw" 3 ["_law_script","_law_town","_law_many"] (bt K (jX a)) :=
 c9 (k:=2) (pin:=[1]) G.yaI TC rfl (λ_ _ _ _ _ _ g i=>Pu.Vh (λ_ _ _=>rfl) g i) (λf j A d s H E h=>by exact
  (bg (GW 1 aM)
  (bq (uD (bY (Kr G) (h.mono (by decide)) cN (aZ (aw 0) (aZ (Hu 1 iM iQ G.ya3 iF) (aZ (aw 2) bS))))))))
theorem Qm:cb ["_law_script","_law_town","_law_some"] ["_law_script","_law_town","_law_some"] (a_ Cj):=by ac_nf
theorem zk(G:cR K c b a):cf (bU P w) P w K c b "_law_pick" 4 ["_law_script","_law_town","_law_some"] (bt K (nt a)) :=
 c9 (k:=3) (pin:=[1]) G.yaL Qm rfl (λ_ _ _ _ _ _ g i=>Pu.Vh (λ_ _ _=>rfl) g i) (λf j A d s H E h=>by exact
  (bq (dQ (fi fz fA (aw 2) ((bY (p7 G) (h.mono (by decide)) cN (aZ (aw 0) (h_ 1 (aZ (dz iM iQ G.ya3 iF (au (aw 2) aI)) bS))))).de))))
theorem Lc:cb ["_law_script","_law_town","_law_some"] ["_law_script","_law_town"] (a_ Cy):=by ac_nf
theorem Q8(G:cR K c b a):cf (bU P w) P w K c b "_law_odd" 5 ["_law_script","_law_town"] (bt K (zh a)) :=
 c9 (k:=4) (pin:=[1]) G.yaK Lc rfl (λ_ _ _ _ _ _ g i=>Pu.U8 (λ_ _=>rfl) g i) (λf j A d s H E h=>by exact
  (bg (fG 2 Lc.nd (jx (au Ai (au aM (au (cD [50,58,32,97,98]) (au (jx (au aM (au (b_ (au (cD [97]) aI)) aI))) (au (b_ (au aM (au (b_ aI) aI))) (au (b_ (au aM (au (b_ (au (cD [97]) aI)) aI))) (au (b_ (au aM (au (b_ (au (cD []) aI)) aI))) (au (b_ (au aM (au (b_ (au (cD [97,97,97,97,97]) aI)) aI))) (au (b_ (au kj (au (b_ (au (cD [97]) aI)) aI))) aI)))))))))))
  (bg (fG 2 Lc.nd (cr fc eV (aw 2) (jx (au (b_ (au aM (au (b_ (au (cD [98]) (au (cD [97]) aI))) aI))) (au (b_ (au aM (au (cr UB T_ (b_ (au (cD [97]) aI)) aM) aI))) (au (b_ (au aM (au (b_ (au (cD [100]) aI)) aI))) (au (b_ (au aM (au (b_ (au (cD [65]) aI)) aI))) (au (b_ (au aM (au (jx (au (cD [97]) aI)) aI))) (au (b_ (au aM (au (b_ (au aM aI)) aI))) aI)))))))))
  (bg (fG 2 Lc.nd (cr fc eV (aw 2) (jx (au (b_ (au aM aI)) (au (b_ (au aM (au (b_ (au (cD [97]) aI)) (au aM aI)))) (au (b_ (au (cD [49]) (au (b_ (au (cD [97]) aI)) aI))) aI))))))
  (bq (uD (bY (zk G) (h.mono (by decide)) cN (aZ (aw 0) (h_ 1 (aZ (aw 2) bS))))))))))
theorem N6:cb ["thing"] ["thing"] (a_ AI):=by ac_nf
theorem LQ(G:cR K c b a):cf (bU P w) P w K c b "is_whole_number" 1 ["thing"] (bt K (mY a)) :=
 c9 (k:=0) (pin:=[]) G.yaC N6 rfl (λ_ _ _ _ _ _ g h=>Pu.Vk (λ_=>rfl) g h) (λf j A d s H E i=>by exact
  (bq (dQ (sW (dz sd sJ G.ya2 iH (au (aw 0) (au (si G.ya1 QO) aI))) (uz (R3 (dz sd sJ G.ya2 iH (au (aw 0) (au (si G.yaZ Qz) aI)))))))))
theorem Tc:cb ["thing"] ["thing"] (a_ Cz):=by ac_nf
theorem NZ(G:cR K c b a):cf (bU P w) P w K c b "is_width" 2 ["thing"] (bt K (nM a)) :=
 c9 (k:=1) (pin:=[]) G.yaD Tc rfl (λ_ _ _ _ _ _ g i=>Pu.Vk (λ_=>rfl) g i) (λf j A d s H E h=>by exact
  (bq (dQ (sW ((bY (LQ G) (h.mono (by decide)) cN (aZ (aw 0) bS))).de (uz (T5 rX rX jS jS aM (aw 0) (B_ G.ybf)))))))
theorem L6:cb ["text","signs"] ["text","signs"] (a_ xP):=by ac_nf
theorem Qs(G:cR K c b a):cf (bU P w) P w K c b "has_only" 1 ["text","signs"] (bt K (ze a)) :=
 c9 (k:=0) (pin:=[]) G.yax L6 rfl (λ_ _ _ _ _ _ i l=>Pu.U8 (λ_ _=>rfl) i l) (λf o A h s H E n=>by exact
  (bq (dQ (dz (Im rfl) Jd G.yaX IT (au (lz (cap:=[1]) (N':=["sign","signs"]) (jq.of ["text","signs"] (a_ xP) rfl rfl (by decide +kernel)) rfl (gT (aw 0)) (λC d g m j=>by exact m8) (λC d g m j=>by exact(tu Sz KU (aw 0) (aw 1) rfl))).de aI)))))
theorem Md:cb ["thing","width","signs"] ["thing","width","signs"] (a_ B4):=by ac_nf
theorem NO(G:cR K c b a):cf (bU P w) P w K c b "is_window" 2 ["thing","width","signs"] (bt K (o0 a)) :=
 c9 (k:=1) (pin:=[]) G.yaE Md rfl (λ_ _ _ _ _ _ h i=>Pu.Vh (λ_ _ _=>rfl) h i) (λf j A d s H E g=>by exact
  (bq (dQ (sW (dz sd sJ G.ya2 iH (au (aw 0) (au (si G.ya8 OL) aI))) (sW (tu (nH g.units) nj (dz iM iQ G.ya3 iF (au (aw 0) aI)) (aw 1) rfl) (uz ((bY (Qs G) (g.mono (by decide)) cN (aZ (aw 0) (aZ (aw 2) bS)))).de))))))
theorem R9:cb ["thing","width","signs"] ["thing","width","signs"] (a_ xU):=by ac_nf
theorem OE(G:cR K c b a):cf (bU P w) P w K c b "are_windows" 3 ["thing","width","signs"] (bt K (km a)) :=
 c9 (k:=2) (pin:=[]) G.yan R9 rfl (λ_ _ _ _ _ _ j m=>Pu.Vh (λ_ _ _=>rfl) j m) (λf o A h s H E i=>by exact
  (bg (il ((uT (oH (qJ (dz sd sJ G.ya2 iH (au (aw 0) (au (si G.ya9 qh) aI))))) (uP (oH (Ma rX rX jS jS aM (dz iM iQ G.ya3 iF (au (aw 0) aI)) (B_ G.ybd)))))).dt (bq (dQ kj)) ii)
  (bg (il (oH (qJ (dz (Im rfl) Jd G.yaX IT (au (lz (cap:=[1,2]) (N':=["window","width","signs"]) (jq.of ["thing","width","signs"] (a_ xU) rfl rfl (by decide +kernel)) rfl (gT (aw 0)) (λC d g n l=>by exact m8) (λC d g n l=>by exact((bY (NO G) (i.mono (by decide)) kx (aZ (aw 0) (aZ (aw 1) (aZ (aw 2) bS))))).de)).de aI)))) (bq (dQ kj)) ii)
  (bq (dQ (tu (nH i.units) nj (Go IS G5 G.ya4 Fl (au (aw 0) aI)).de (xF sj tG G.ya7 nz (au (aw 0) aI)).de rfl))))))
theorem KF:cb ["thing","signs"] ["thing","signs"] (a_ BU):=by ac_nf
theorem E7(G:cR K c b a):cf (bU P w) P w K c b "is_view_with" 4 ["thing","signs"] (bt K (gQ a)) :=
 c9 (k:=3) (pin:=[]) G.yaB KF rfl (λ_ _ _ _ _ _ h i=>Pu.U8 (λ_ _=>rfl) h i) (λf j A d s H E g=>by exact
  (bg (il ((uT (oH (qJ (dz sd sJ G.ya2 iH (au (aw 0) (au (si G.ya9 qh) aI))))) (uP (gb (xE g.units) yK (dz iM iQ G.ya3 iF (au (aw 0) aI)) aM rfl)))).dt (bq (dQ kj)) ii)
  (bq (dQ (sW ((bY (NZ G) (g.mono (by decide)) cN (aZ (fi fz fA (aw 0) aM) bS))).de (uz ((bY (OE G) (g.mono (by decide)) cN (aZ (fi fz fA (aw 0) aM) (aZ (fi fz fA (aw 0) aM) (aZ (aw 1) bS))))).de))))))
theorem Ny:cb ["thing"] ["thing"] (a_ BE):=by ac_nf
theorem K_(G:cR K c b a):cf (bU P w) P w K c b "is_blurred_view" 5 ["thing"] (bt K (iZ a)) :=
 c9 (k:=4) (pin:=[]) G.yaz Ny rfl (λ_ _ _ _ _ _ g i=>Pu.Vk (λ_=>rfl) g i) (λf j A d s H E h=>by exact
  (bq (dQ (sW ((bY (E7 G) (h.mono (by decide)) cN (aZ (aw 0) (aZ (cr fc eV (qF G.ybe) (qF G.ybb)) bS)))).de (uz (tu rX jS (Gg PySem.F.slot_str_count PySem.F.type_str_count QA Rx (Gg PySem.F.slot_str_join PySem.F.type_str_join My PP (cD []) (au (fi fz fA (aw 0) aM) aI)) (au (qF G.ybe) aI)) (B_ G.ybc) rfl))))))
theorem SZ:cb ["thing"] ["thing"] (a_ Co):=by ac_nf
theorem Iy(G:cR K c b a):cf (bU P w) P w K c b "check_blurred_view" 6 ["thing"] (bt K (oX a)) :=
 c9 (k:=5) (pin:=[]) G.yap SZ rfl (λ_ _ _ _ _ _ g i=>Pu.Vk (λ_=>rfl) g i) (λf j A d s H E h=>by exact
  (bq (il (oH (qJ ((bY (K_ G) (h.mono (by decide)) cN (aZ (aw 0) bS))).de)) (bq (G7 EN rfl G.yba PySem.F.excBase_ValueError (cD [97,32,98,108,117,114,114,101,100,32,118,105,101,119,32,105,115,32,97,32,118,105,101,119,32,111,102,32,119,104,111,115,101,32,108,101,116,116,101,114,115,32,117,112,32,116,111,32,54,32,109,97,121,32,98,101,32,112,111,105,110,116,115]))) ii)))
theorem Lz:cb ["thing"] ["thing"] (a_ Bu):=by ac_nf
theorem R5(G:cR K c b a):cf (bU P w) P w K c b "is_view" 5 ["thing"] (bt K (jt a)) :=
 c9 (k:=4) (pin:=[]) G.yaA Lz rfl (λ_ _ _ _ _ _ g i=>Pu.Vk (λ_=>rfl) g i) (λf j A d s H E h=>by exact
  (bq (uD (bY (E7 G) (h.mono (by decide)) cN (aZ (aw 0) (aZ (qF G.ybb) bS))))))
theorem Ut:cb ["thing"] ["thing"] (a_ CA):=by ac_nf
theorem y9(G:cR K c b a):cf (bU P w) P w K c b "check_view" 6 ["thing"] (bt K (mD a)) :=
 c9 (k:=5) (pin:=[]) G.yaq Ut rfl (λ_ _ _ _ _ _ g i=>Pu.Vk (λ_=>rfl) g i) (λf j A d s H E h=>by exact
  (bq (il (oH (qJ ((bY (R5 G) (h.mono (by decide)) cN (aZ (aw 0) bS))).de)) (bq (G7 EN rfl G.yba PySem.F.excBase_ValueError (cD [97,32,118,105,101,119,32,105,115,32,97,32,116,117,112,108,101,32,111,102,32,97,32,119,105,100,116,104,32,97,110,100,32,97,32,114,105,115,105,110,103,32,116,117,112,108,101,32,111,102,32,49,32,116,111,32,57,32,119,105,110,100,111,119,115]))) ii)))
theorem OM:cb ["blurred_window","found","sign","letters","longer","start"] ["blurred_window"] (a_ xT):=by ac_nf
theorem QW(G:cR K c b a):cf (bU P w) P w K c b "windows_that_fit" 1 ["blurred_window"] (bt K (sw a)) :=
 c9 (k:=0) (pin:=[]) G.yaV OM rfl (λ_ _ _ _ _ _ i m=>Pu.Vk (λ_=>rfl) i m) (λf o A h s H E l=>by exact
  (bg (fG 1 OM.nd (jx (au (cD []) aI)))
  (bg (nh (kP 2 lv rfl OM.nd (gT (aw 0)) (bg (fG 3 OM.nd (Hb (gb (nH l.units) nj (aw 2) (qF G.ybe) rfl) (qF G.ybb) (aw 2)))
  (bg (kt 4 OM.nd (su aI))
  (bg (kP 5 lv rfl OM.nd (gT (aw 1)) (bq (yd 4 (lz (cap:=[5]) (N':=["letter","start"]) (jq.of ["blurred_window","found","sign","letters","longer","start"] (a_ xT) rfl rfl (by decide +kernel)) rfl (gT (aw 3)) (λC d g n j=>by exact m8) (λC d g n j=>by exact(cr fc eV (aw 1) (aw 0)))).de)))
  (bq (fG 1 OM.nd (Ug 4))))))))
  (bq (dQ (aw 1))))))
theorem KP:cb ["blurred","ways","blurred_window","longer","windows","window"] ["blurred"] (a_ xq):=by ac_nf
theorem HH(G:cR K c b a):cf (bU P w) P w K c b "clearing_views" 2 ["blurred"] (bt K (vJ a)) :=
 c9 (k:=1) (pin:=[]) G.yas KP rfl (λ_ _ _ _ _ _ j m=>Pu.Vk (λ_=>rfl) j m) (λf o A i s H E h=>by exact
  (bg (kt 1 KP.nd (MJ h.units (b_ aI) kj))
  (bg (nh (kP 2 lv rfl KP.nd (gT (fi fz fA (aw 0) aM)) (bg (kt 3 KP.nd Nf)
  (bg (ML 4 1 lv rfl KP.nd (bq (kP 5 lv rfl KP.nd (gT ((bY (QW G) (h.mono (by decide)) kx (aZ (aw 2) bS))).de) (bq (Uw 3 h.units (vV vD vH G.ya9 qh (au (xF sj tG G.ya7 nz (au (cr LN Pk (aw 4) (b_ (au (aw 5) aI))) aI)).de aI)) kj)))))
  (bq (MG 1 3 KP.nd))))))
  (bq (Gk (lz (cap:=[0]) (N':=["windows","blurred"]) (jq.of ["blurred","ways","blurred_window","longer","windows","window"] (a_ xq) rfl rfl (by decide +kernel)) rfl (gT (T0 1 h.units rfl G.ya7).de) (λC d g n l=>by exact m8) (λC d g n l=>by exact(b_ (au (fi fz fA (aw 1) aM) (au (aw 0) aI))))))))))
theorem M8:cb ["blurred","view"] ["blurred","view"] (a_ A5):=by ac_nf
theorem FZ(G:cR K c b a):cf (bU P w) P w K c b "clears" 7 ["blurred","view"] (bt K (u7 a)) :=
 c9 (k:=6) (pin:=[]) G.yat M8 rfl (λ_ _ _ _ _ _ h i=>Pu.U8 (λ_ _=>rfl) h i) (λf j A g s H E d=>by exact
  (bg (oE (bY (Iy G) (d.mono (by decide)) cN (aZ (aw 0) bS)))
  (bg (oE (bY (y9 G) (d.mono (by decide)) cN (aZ (aw 1) bS)))
  (bq (dQ (tu (EX d.units) TF (aw 1) ((bY (HH G) (d.mono (by decide)) cN (aZ (aw 0) bS))).de rfl))))))
theorem Mm:cb ["_law_e","_law_own"] ["_law_e"] (a_ AX):=by ac_nf
theorem N7(G:cR K c b a):xS P w K c b "_law_which" 1 ["_law_e"] (bt K (sV a)) :=
 Mu (k:=0) (pin:=[]) G.yaP Mm rfl (λ_ _ _ _ _ _ g i=>Pu.Vk (λ_=>rfl) g i) (λf j A d s H h=>by exact
  (bg (kt 1 Mm.nd (su (au (dz k_ (kT G.tab) G.ya2 iH (au (aw 0) (au (iJ G.yaf) aI))) (au (dz k_ (kT G.tab) G.ya2 iH (au (aw 0) (au (iJ G.yah) aI))) (au (dz k_ (kT G.tab) G.ya2 iH (au (aw 0) (au (iJ G.yag) aI))) (au (dz k_ (kT G.tab) G.ya2 iH (au (aw 0) (au (iJ G.yai) aI))) aI))))))
  (bg (yd 1 (jx (au (dz k_ (kT G.tab) G.ya2 iH (au (aw 0) (au (iJ G.yac) aI))) (au (dz k_ (kT G.tab) G.ya2 iH (au (aw 0) (au (iJ G.yab) aI))) (au (dz k_ (kT G.tab) G.ya2 iH (au (aw 0) (au (iJ G.yaj) aI))) (au (dz k_ (kT G.tab) G.ya2 iH (au (aw 0) (au (iJ G.yal) aI))) aI))))))
  (bg (yd 1 (jx (au (dz k_ (kT G.tab) G.ya2 iH (au (aw 0) (au (iJ G.yae) aI))) (au (dz k_ (kT G.tab) G.ya2 iH (au (aw 0) (au (iJ G.yad) aI))) (au (dz k_ (kT G.tab) G.ya2 iH (au (aw 0) (au (iJ G.yaa) aI))) aI)))))
  (bg (il ((uT (gb (xE h.units) yK (M3 1 kj) aM rfl) (uP (oH (qJ (dz k_ (kT G.tab) G.ya2 iH (au (aw 0) (au (si G.yaW R_) aI)))))))).dt (bq (dQ (b_ (au (cD [114,101,102,117,115,101,100]) (au (oS oM o8 aM) aI))))) ii)
  (bq (dQ (b_ (au (cD [114,101,102,117,115,101,100]) (au (Lu 1 kj) aI))))))))))
theorem Ol:cb ["windows","excess","window"] ["windows"] (a_ Ak):=by ac_nf
theorem Rn(G:cR K c b a):cf (bU P w) P w K c b "excesses" 1 ["windows"] (bt K (r9 a)) :=
 c9 (k:=0) (pin:=[]) G.yav Ol rfl (λ_ _ _ _ _ _ h i=>Pu.Vk (λ_=>rfl) h i) (λf j A g s H E d=>by exact
  (bg (kt 1 Ol.nd (E8))
  (bg (nh (kP 2 lv rfl Ol.nd (gT (aw 0)) (bg (qH 1 d.units (jU jW jV (aw 2) kh (jk (oS oM o8 aM))) (cr fc eV (yV 1 d.units (jU jW jV (aw 2) kh (jk (oS oM o8 aM))) aM) aM))
  (bq (qH 1 d.units (jU jW jV (aw 2) (jk aM) kh) (cr uE uI (yV 1 d.units (jU jW jV (aw 2) (jk aM) kh) aM) aM))))))
  (bq (yH 1)))))
theorem TB:cb ["windows","reached","known","window"] ["windows"] (a_ Av):=by ac_nf
theorem Sg(G:cR K c b a):cf (bU P w) P w K c b "reached_pieces" 1 ["windows"] (bt K (oW a)) :=
 c9 (k:=0) (pin:=[]) G.yaQ TB rfl (λ_ _ _ _ _ _ h i=>Pu.Vk (λ_=>rfl) h i) (λf j A g s H E d=>by exact
  (bg (kt 1 TB.nd (NH (jU jW jV (fi fz fA (aw 0) aM) kh (jk (oS oM o8 aM))) kj))
  (bg (fG 2 TB.nd aM)
  (bg (nh (OX (λ_=>1000) lv (gb B7 jS (aw 2) (H_ 1 G.ya3) rfl) (bg (fG 2 TB.nd (H_ 1 G.ya3))
  (bq (kP 3 lv rfl TB.nd (gT (aw 0)) (bq (il ((uT (Bh 1 d.units (jU jW jV (aw 3) kh (jk (oS oM o8 aM)))) (uP (Bh 1 d.units (jU jW jV (aw 3) (jk aM) kh))))).dt (bg (qH 1 d.units (jU jW jV (aw 3) kh (jk (oS oM o8 aM))) kj)
  (bq (qH 1 d.units (jU jW jV (aw 3) (jk aM) kh) kj))) ii)))))))
  (bq (yH 1))))))
theorem Rw:cb ["windows","excess","starts","reached","places"] ["windows"] (a_ vf):=by ac_nf
theorem Q7(G:cR K c b a):cf (bU P w) P w K c b "find_bar" 2 ["windows"] (bt K (uY a)) :=
 c9 (k:=1) (pin:=[]) G.yaw Rw rfl (λ_ _ _ _ _ _ n o=>Pu.Vk (λ_=>rfl) n o) (λf p A l s H E h=>by exact
  (bg (kt 1 Rw.nd (((bY (Rn G) (h.mono (by decide)) cN (aZ (aw 0) bS))).dn))
  (bg (K6 2 Rw.nd (cap:=[1]) (N':=["piece","excess"]) (jq.of ["windows","excess","starts","reached","places"] (a_ vf) rfl rfl (by decide +kernel)) rfl (gT (O0 1 rfl G.ya7).de) (λC d g m i=>by exact yA (gb u_ jS (ya 1 h.units (aw 0)) aM rfl)) (λC d g m i=>by exact(aw 0)))
  (bg (il (gb u_ jS (dz iM iQ G.ya3 iF (au (aw 2) aI)) aM rfl) (bq (dQ (b_ (au (cD [116,119,111]) (au (fi fz fA (aw 2) aM) (au (fi fz fA (aw 2) aM) aI)))))) ii)
  (bg (il ((Of (gb (nH h.units) nj (dz iM iQ G.ya3 iF (au (aw 2) aI)) aM rfl) (K4 (gb u_ jS (ya 1 h.units (fi fz fA (aw 2) aM)) aM rfl)))).dt (bq (dQ (b_ (au (cD [109,111,114,101]) (au (fi fz fA (aw 2) aM) aI))))) ii)
  (bg (kt 3 Rw.nd (((bY (Sg G) (h.mono (by decide)) cN (aZ (aw 0) bS))).dn))
  (bg (Tr 4 Rw.nd (cap:=[3]) (j:=5) (N':=["place","window","reached"]) (jq.of ["windows","excess","starts","reached","places"] (a_ vf) rfl rfl (by decide +kernel)) rfl (Rp G.ya0 (au (aw 0) aI)) (λC d g m i=>by exact yA (Bh 2 h.units (jU jW jV (aw 1) kh (jk (oS oM o8 aM))))) (λC d g m i=>by exact(aw 0)))
  (bg (il (gb B7 jS (dz iM iQ G.ya3 iF (au (aw 4) aI)) (dz iM iQ G.ya3 iF (au (aw 0) aI)) rfl) (bq (dQ (b_ (au (cD [97,112,97,114,116]) (au (vV vD vH G.ya9 qh (au (aw 4) aI)) aI))))) ii)
  (bq (dQ Ai))))))))))
theorem Qq:cb ["view"] ["view"] (a_ Cw):=by ac_nf
theorem Ra(G:cR K c b a):cf (bU P w) P w K c b "bar" 7 ["view"] (bt K (uL a)) :=
 c9 (k:=6) (pin:=[]) G.yao Qq rfl (λ_ _ _ _ _ _ h i=>Pu.Vk (λ_=>rfl) h i) (λf j A d s H E g=>by exact
  (bg (oE (bY (y9 G) (g.mono (by decide)) cN (aZ (aw 0) bS)))
  (bq (uD (bY (Q7 G) (g.mono (by decide)) cN (aZ (fi fz fA (aw 0) aM) bS))))))
theorem Os:cb ["blurred"] ["blurred"] (a_ ym):=by ac_nf
theorem Aj(G:cR K c b a):cf (bU P w) P w K c b "cleared" 8 ["blurred"] (bt K (oJ a)) :=
 c9 (k:=7) (pin:=[]) G.yar Os rfl (λ_ _ _ _ _ _ j m=>Pu.Vk (λ_=>rfl) j m) (λf o A h s H E i=>by exact
  (bg (oE (bY (Iy G) (i.mono (by decide)) cN (aZ (aw 0) bS)))
  (bq (Gk (lz (cap:=[]) (N':=["view"]) (jq.of ["blurred"] (a_ ym) rfl rfl (by decide +kernel)) rfl (gT ((bY (HH G) (i.mono (by decide)) cN (aZ (aw 0) bS))).de) (λC d g n l=>by exact yA (gb Kv SJ ((bY (Ra G) (i.mono (by decide)) kx (aZ (aw 0) bS))).de Ai rfl)) (λC d g n l=>by exact(aw 0)))))))
theorem ER:cb ["text","width","left","found","head","letter","window"] ["text","width","left","found"] (a_ AV):=by ac_nf
theorem OW(G:cR K c b a)(m:Nat):cf (bU P w) P w K c b "add_endings" (1+m) ["text","width","left","found"] (bt K (o7 a m)):=by
 induction m with
 |zero=>exact c9 (k:=0) (pin:=[2,3]) G.yam ER rfl (λ_ _ _ _ _ _ h i=>Pu.Vv (λ_ _ _ _=>rfl) h i) (λf l A d s H E g=>Ch)
 |succ m j=>exact c9 (k:=1+m) (pin:=[2,3]) G.yam ER rfl (λ_ _ _ _ _ _ h i=>Pu.Vv (λ_ _ _ _=>rfl) h i) (λf l A d s H E g=>by exact
  (bg (il (oH (qJ (PX 2 rfl G.yaY))) (bg (GW 3 (aw 0))
  (bq Tw)) ii)
  (bg (fG 4 ER.nd (jU jW jV (aw 0) (jk (cr fc eV (cr uE uI (dz iM iQ G.ya3 iF (au (aw 0) aI)) (aw 1)) aM)) kh))
  (bq (nh (kP 5 lv rfl ER.nd (gT (qF G.ybb)) (bg (fG 6 ER.nd (cr fc eV (aw 4) (aw 5)))
  (bq (il (gb u_ jS (yV 2 g.units (aw 6) aM) aM rfl) (bg (qH 2 g.units (aw 6) (cr uE uI (ya 2 g.units (aw 6)) aM))
  (bg (oE (bY j (g.mono ∅) kx (aZ (cr fc eV (aw 0) (aw 5)) (aZ (aw 1) (h_ 2 (h_ 3 bS))))))
  (bq (qH 2 g.units (aw 6) (cr fc eV (ya 2 g.units (aw 6)) aM))))) ii)))))))))
theorem Lm:cb ["windows","counts","window"] ["windows"] (a_ Ay):=by ac_nf
theorem MN(G:cR K c b a):cf (bU P w) P w K c b "counted" 1 ["windows"] (bt K (vS a)) :=
 c9 (k:=0) (pin:=[]) G.yau Lm rfl (λ_ _ _ _ _ _ h i=>Pu.Vk (λ_=>rfl) h i) (λf j A d s H E g=>by exact
  (bg (kt 1 Lm.nd (E8))
  (bg (nh (kP 2 lv rfl Lm.nd (gT (aw 0)) (bq (qH 1 g.units (aw 2) (cr fc eV (yV 1 g.units (aw 2) aM) aM)))))
  (bq (yH 1)))))
theorem Uu:cb ["view","width","found","head"] ["view"] (a_ zl):=by ac_nf
theorem Ez(G:cR K c b a):cf (bU P w) P w K c b "texts" 14 ["view"] (bt K (nG a)) :=
 c9 (k:=13) (pin:=[]) G.yaT Uu rfl (λ_ _ _ _ _ _ j m=>Pu.Vk (λ_=>rfl) j m) (λf o A h s H E i=>by exact
  (bg (oE (bY (y9 G) (i.mono (by decide)) cN (aZ (aw 0) bS)))
  (bg (fG 1 Uu.nd (fi fz fA (aw 0) aM))
  (bg (kt 2 Uu.nd (su aI))
  (bg (nh (kP 3 lv rfl Uu.nd (gT (No rfl (au (lz (cap:=[]) (N':=["window"]) (jq.of ["view","width","found","head"] (a_ zl) rfl rfl (by decide +kernel)) rfl (gT (fi fz fA (aw 0) aM)) (λC d g n l=>by exact m8) (λC d g n l=>by exact(jU jW jV (aw 0) kh (jk (oS oM o8 aM))))).de aI) G.ya7 G.ya6).de) (bq (oE (Sf (OW G 12) (i.mono (by decide)) kx (EB (aw 3) (EB (aw 1) (Nk (((bY (MN G) (i.mono (by decide)) kx (aZ (fi fz fA (aw 0) aM) bS))).dn) (h_ 2 bS)))))))))
  (bq (yH 2)))))))
theorem Mn:cb ["blurred","found","view"] ["blurred"] (a_ Bo):=by ac_nf
theorem MC(G:cR K c b a):cf (bU P w) P w K c b "through" 15 ["blurred"] (bt K (tq a)) :=
 c9 (k:=14) (pin:=[]) G.yaU Mn rfl (λ_ _ _ _ _ _ h i=>Pu.Vk (λ_=>rfl) h i) (λf j A d s H E g=>by exact
  (bg (kt 1 Mn.nd (su aI))
  (bg (kP 2 PassesOwn.leaving rfl Mn.nd (gT ((bY (Aj G) (g.mono (by decide)) cN (aZ (aw 0) bS))).de) (bq (yd 1 ((bY (Ez G) (g.mono (by decide)) cN (aZ (aw 2) bS))).de)))
  (bq (dQ (Hn 1 sj tG G.ya7 nz).de)))))
def yaR(a:Ad):ak->R aO:=aK (bW 1 (bF (a9 (oJ a) (gV (dV 0) (bL)))))
 (yc)
def zm(a:Ad):ak->R Slot:=bH 1 [] (bG 1 (yaR a))
theorem R6:cb ["blurred","views"] ["blurred"] (a_ Bg):=by ac_nf
theorem Sd(G:cR K c b a):cf (bU P w) P w K c b "seen" 9 ["blurred"] (bt K (zm a)) :=
 c9 (k:=8) (pin:=[]) G.yaR R6 rfl (λ_ _ _ _ _ _ g i=>Pu.Vk (λ_=>rfl) g i) (λf j A d s H E h=>by exact
  (bg (fG 1 R6.nd ((bY (Aj G) (h.mono (by decide)) cN (aZ (aw 0) bS))).de)
  Ch))
theorem QV:cb ["view"] ["view"] (a_ A8):=by ac_nf
theorem Mt(G:cR K c b a):cf (bU P w) P w K c b "how_many" 15 ["view"] (bt K (yj a)) :=
 c9 (k:=14) (pin:=[]) G.yay QV rfl (λ_ _ _ _ _ _ g i=>Pu.Vk (λ_=>rfl) g i) (λf j A d s H E h=>by exact
  (bq (dQ (dz iM iQ G.ya3 iF (au ((bY (Ez G) (h.mono (by decide)) cN (aZ (aw 0) bS))).de aI)))))
def yaS(a:Ad):ak->R aO:=aK (jA (a9 (mD a) (gV (dV 0) (bL))))
 (yc)
def yL(a:Ad):ak->R Slot:=bH 1 [] (bG 0 (yaS a))
theorem OQ:cb ["view"] ["view"] (a_ BQ):=by ac_nf
theorem Ti(G:cR K c b a):cf (bU P w) P w K c b "shortest" 7 ["view"] (bt K (yL a)) :=
 c9 (k:=6) (pin:=[]) G.yaS OQ rfl (λ_ _ _ _ _ _ g i=>Pu.Vk (λ_=>rfl) g i) (λf j A d s H E h=>by exact
  (bg (oE (bY (y9 G) (h.mono (by decide)) cN (aZ (aw 0) bS)))
  Ch))
def yaG(a:Ad):ak->R aO:=lE 2 (oD a) (lI (dB (d2 (eqT aj) (dV 0) (dC (.int 3)))) (eO (u7 a) (gV (dV 1) (gV (dL br (ap (dC (.int 1)) (ap (dL br (ap (dC (.str [97])) (aC))) (aC)))) (bL)))) (lN (oJ a) (tq a) (zm a) (u7 a) (yj a) (yL a) (dV 0) (gV (dV 1) (bL)))) (lC (λd=>bz (a9 (sV a) (gV (dV 2) (bL)) d)))
def fK(a:Ad):ak->R Slot:=bH 2 [] (bG 1 (yaG a))
theorem Th:cb ["_law_what","_law_thing","_law_e"] ["_law_what","_law_thing"] (a_ AF):=by ac_nf
theorem AC(G:cR K c b a):cf (bU P w) P w K c b "_law_ask" 16 ["_law_what","_law_thing"] (bt K (fK a)) :=
 c9 (k:=15) (pin:=[]) G.yaG Th rfl (λ_ _ _ _ _ _ j l=>Pu.U8 (λ_ _=>rfl) j l) (λf m A g s H E d=>by
  have h:=λi=>dW.hand (v:=aa (.ref i)) d;exact
  (bq (MO 2 Th.nd (On (gb (nH d.units) nj (aw 0) aM rfl) (Ie (Mf (FZ G) (d.mono (by decide)) (aZ (aw 1) (aZ (b_ (au aM (au (b_ (au (cD [97]) aI)) aI))) bS)))) (Ie (Qc (Aj G) (MC G) (Sd G) (FZ G) (Mt G) (Ti G) (d.mono (by decide)) (d.mono (by decide)) (d.mono (by decide)) (d.mono (by decide)) (d.mono (by decide)) (d.mono (by decide)) (aw 0) (aZ (aw 1) bS)))) G.yak G.err_SlitError G.und (λi=>by exact(bq (uD (PJ (N7 G) ((h i).mono (by decide)) (aZ (aw 2) bS))))))))
theorem SQ:cb ["_law_text_here","_law_width"] ["_law_text_here","_law_width"] (a_ xk):=by ac_nf
theorem Le(G:cR K c b a):cf (bU P w) P w K c b "_law_seen" 1 ["_law_text_here","_law_width"] (bt K (x_ a)) :=
 c9 (k:=0) (pin:=[]) G.yaM SQ rfl (λ_ _ _ _ _ _ i l=>Pu.U8 (λ_ _=>rfl) i l) (λf o A h s H E n=>by exact
  (bq (dQ (vV vD vH G.ya9 qh (au (xF sj tG G.ya7 nz (au (lz (cap:=[0,1]) (N':=["_law_at","_law_text_here","_law_width"]) (jq.of ["_law_text_here","_law_width"] (a_ xk) rfl rfl (by decide +kernel)) rfl (uR G.ya5 (au (dz iM iQ G.ya3 iF (au (aw 0) aI)) aI)) (λC d g m j=>by exact yA (gb rX jS (cr fc eV (aw 0) (aw 2)) (dz iM iQ G.ya3 iF (au (aw 1) aI)) rfl)) (λC d g m j=>by exact(jU jW jV (aw 1) (jk (aw 0)) (jk (cr fc eV (aw 0) (aw 2)))))).de aI)).de aI)))))
theorem Uq:cb ["_law_script","_law_town","_law_low","_law_most","_law_few","_law_made","_law_k"] ["_law_script","_law_town","_law_low","_law_most"] (a_ A2):=by ac_nf
theorem E1(G:cR K c b a):cf (bU P w) P w K c b "_law_text" 5 ["_law_script","_law_town","_law_low","_law_most"] (bt K (sr a)) :=
 c9 (k:=4) (pin:=[1]) G.yaN Uq rfl (λ_ _ _ _ _ _ h i=>Pu.Vv (λ_ _ _ _=>rfl) h i) (λf j A d s H E g=>by exact
  (bg (fG 4 Uq.nd ((bY (zk G) (g.mono (by decide)) cN (aZ (aw 0) (h_ 1 (aZ (jx (au aM (au aM (au aM (au aM (au aM (au aM aI))))))) bS))))).de)
  (bg (fG 5 Uq.nd (cD []))
  (bg (nh (kP 6 lv rfl Uq.nd (uR G.ya5 (au (cr fc eV (aw 2) ((bY (p7 G) (g.mono (by decide)) kx (aZ (aw 0) (h_ 1 (aZ (cr fc eV (cr uE uI (aw 3) (aw 2)) aM) bS))))).de) aI)) (bq (fG 5 Uq.nd (cr fc eV (aw 5) (fi fz fA (cD [97,98,99]) ((bY (p7 G) (g.mono (by decide)) kx (aZ (aw 0) (h_ 1 (aZ (aw 4) bS))))).de))))))
  (bq (dQ (aw 5)))))))
theorem Te:cb ["_law_script","_law_town","_law_spoil","_law_most","_law_width","_law_windows","_law_k"] ["_law_script","_law_town","_law_spoil","_law_most"] (a_ AB):=by ac_nf
theorem Si(G:cR K c b a):cf (bU P w) P w K c b "_law_view" 6 ["_law_script","_law_town","_law_spoil","_law_most"] (bt K (uw a)) :=
 c9 (k:=5) (pin:=[1]) G.yaO Te rfl (λ_ _ _ _ _ _ h i=>Pu.Vv (λ_ _ _ _=>rfl) h i) (λf j A g s H E d=>by exact
  (bg (fG 4 Te.nd (Hb (gb (xE d.units) yK (aw 2) aM rfl) (cr fc eV aM ((bY (p7 G) (d.mono (by decide)) cN (aZ (aw 0) (h_ 1 (aZ aM bS))))).de) (cr fc eV aM ((bY (p7 G) (d.mono (by decide)) cN (aZ (aw 0) (h_ 1 (aZ aM bS))))).de)))
  (bg (kt 5 Te.nd (Go IS G5 G.ya4 Fl (au ((bY (Le G) (d.mono (by decide)) cN (aZ ((bY (E1 G) (d.mono (by decide)) cN (aZ (aw 0) (h_ 1 (aZ (aw 4) (aZ (cr uE uI (cr fc eV (aw 4) (aw 3)) aM) bS)))))).de (aZ (aw 4) bS)))).de aI)))
  (bg (nh (kP 6 lv rfl Te.nd (uR G.ya5 (au (cr se tP (aw 2) aM) aI)) (bq (QP 5 ((bY (p7 G) (d.mono (by decide)) kx (aZ (aw 0) (h_ 1 (aZ (Hu 5 iM iQ G.ya3 iF) bS))))).de ((bY (E1 G) (d.mono (by decide)) kx (aZ (aw 0) (h_ 1 (aZ (aw 4) (aZ (aw 4) bS)))))).de))))
  (bq (dQ (b_ (au (aw 4) (au (vV vD vH G.ya9 qh (au (Hn 5 sj tG G.ya7 nz).de aI)) aI)))))))))
def yaF(a:Ad):ak->R aO:=aK (dy 1 (dL dE (aC)))
 (aK (bW 2 (bF (a9 (jX a) (gV (dV 0) (gO 1 (gV (dC (.int 4)) (bL)))))))
 (aK (bW 3 (bF (a9 (zh a) (gV (dV 0) (gO 1 (bL))))))
 (aK (cc (dB (d2 (eqT aj) (dV 2) (dC (.int 0)))) (bW 3 (dL br (ap (dC (.int 4)) (ap (dL br (ap (dC (.str [46,46,46,46])) (ap (d2 bi (dC (.str [46,46,46])) (bF (a9 (nt a) (gV (dV 0) (gO 1 (gV (dF (dL dE (ap (dC (.str [97])) (ap (dC (.str [98])) (ap (dC (.str [99])) (aC)))))) (bL))))))) (aC)))) (aC))))) (dX))
 (aK (cc (dB (d2 (eqT aj) (dV 2) (dC (.int 1)))) (bW 3 (dL br (ap (dC (.int 2)) (ap (dL br (ap (d2 bi (dC (.str [97])) (bF (a9 (nt a) (gV (dV 0) (gO 1 (gV (dF (dL dE (ap (dC (.str [97])) (ap (dC (.str [98])) (ap (dC (.str [99])) (aC)))))) (bL))))))) (ap (dC (.str [46,98])) (aC)))) (aC))))) (dX))
 (aK (cc (dB (d2 (eqT ah) (dF (cV [3] (dL kn (ap (dC (.int 6)) (aC))) (cF) (bF (a9 (fK a) (gV (dV 0) (gV (dV 1) (bL))))))) (d2 qp (dF (dL dE (ap (dL br (ap (dC (.str [114,101,102,117,115,101,100])) (ap (dC (.int 2)) (aC)))) (aC)))) (dC (.int 6))))) (cq (dC (.bl aj))) (dX))
 (aK (bW 4 (bF (a9 (uw a) (gV (dV 0) (gO 1 (gV (dC (.int 0)) (gV (dC (.int 6)) (bL))))))))
 (aK (bW 5 (dL br (ap (d2 bn (dV 4) (dC (.int 0))) (ap (dL kl (ap (dF (dL kq (ap (dF (cV [] (bJ (d2 bn (dV 4) (dC (.int 1)))) (cF) (d2 bi (dC (.str [46])) (cO c_ (dV 0) (cI (dC (.int 1))) (dv))))) (aC)))) (aC))) (aC)))))
 (aK (cc (j_ (dB (d2 (dD λi j=>decide (j<i)) (dL bP (ap (d2 bn (dV 4) (dC (.int 1))) (aC))) (dC (.int 6)))) (dB (d2 yS (dC (.str [114,101,102,117,115,101,100])) (dF (cV [5] (dL kn (ap (dC (.int 2)) (aC))) (cF) (d2 bn (bF (a9 (fK a) (gV (dV 0) (gV (dV 1) (bL))))) (dC (.int 0)))))))) (cq (dC (.bl aj))) (dX))
 (cq (d2 (eqT aj) (dF (cV [5] (bJ (dL br (ap (dC (.int 4)) (ap (dC (.int 5)) (aC))))) (cF) (bF (a9 (fK a) (gV (dV 0) (gV (dV 1) (bL))))))) (d2 qp (dF (dL dE (ap (dL br (ap (dC (.str [114,101,102,117,115,101,100])) (ap (dC (.int 2)) (aC)))) (aC)))) (dC (.int 2)))))))))))))
def uU(a:Ad):ak->R Slot:=bH 1 [] (bG 5 (yaF a))
theorem PU:cb ["_law_script","_law_town","_law_way","_law_thing","_law_asked","_law_blurred_here"] ["_law_script"] (a_ oB):=by ac_nf
theorem Pq(G:cR K c b a){f:ag}{m:gi}(p:qg K "law" "law" oB f m):jP P w K c b (bU P w) 17 f m ["_law_script"] (bt K (uU a)) :=
 Oe (k:=16) (pin:=[]) p PU rfl (λ_ _ _ _ _ _ n o=>Pu.Vk (λ_=>rfl) n o) (λf q A l s H E h=>by exact
  (bg (kt 1 PU.nd (su aI))
  (bg (fG 2 PU.nd ((bY (p7 G) (h.mono (by decide)) cN (aZ (aw 0) (h_ 1 (aZ aM bS))))).de)
  (bg (fG 3 PU.nd ((bY (Q8 G) (h.mono (by decide)) cN (aZ (aw 0) (h_ 1 bS)))).de)
  (bg (il (gb (nH h.units) nj (aw 2) aM rfl) (bq (fG 3 PU.nd (b_ (au aM (au (b_ (au (cD [46,46,46,46]) (au (cr fc eV (cD [46,46,46]) ((bY (zk G) (h.mono (by decide)) cN (aZ (aw 0) (h_ 1 (aZ (jx (au (cD [97]) (au (cD [98]) (au (cD [99]) aI)))) bS))))).de) aI))) aI))))) ii)
  (bg (il (gb (nH h.units) nj (aw 2) aM rfl) (bq (fG 3 PU.nd (b_ (au aM (au (b_ (au (cr fc eV (cD [97]) ((bY (zk G) (h.mono (by decide)) cN (aZ (aw 0) (h_ 1 (aZ (jx (au (cD [97]) (au (cD [98]) (au (cD [99]) aI)))) bS))))).de) (au (cD [46,98]) aI))) aI))))) ii)
  (bg (il (gb (xE h.units) yK (lz (cap:=[3]) (N':=["_law_what","_law_thing"]) (jq.of ["_law_script","_law_town","_law_way","_law_thing","_law_asked","_law_blurred_here"] (a_ oB) rfl rfl (by decide +kernel)) rfl (uR G.ya5 (au aM aI)) (λC d g j i=>by exact m8) (λC d g j i=>by exact((bY (AC G) (h.mono (by decide)) kx (aZ (aw 0) (aZ (aw 1) bS)))).de)).de (cr EV HW (jx (au (b_ (au (cD [114,101,102,117,115,101,100]) (au aM aI))) aI)) aM) rfl) (bq (dQ kj)) ii)
  (bg (fG 4 PU.nd ((bY (Si G) (h.mono (by decide)) cN (aZ (aw 0) (h_ 1 (aZ aM (aZ aM bS)))))).de)
  (bg (fG 5 PU.nd (b_ (au (fi fz fA (aw 4) aM) (au (vV vD vH G.ya9 qh (au (xF sj tG G.ya7 nz (au (lz (cap:=[]) (N':=["_law_window"]) (jq.of ["_law_script","_law_town","_law_way","_law_thing","_law_asked","_law_blurred_here"] (a_ oB) rfl rfl (by decide +kernel)) rfl (gT (fi fz fA (aw 4) aM)) (λC d g j i=>by exact m8) (λC d g j i=>by exact(cr fc eV (cD [46]) (jU jW jV (aw 0) (jk aM) kh)))).de aI)).de aI)) aI))))
  (bg (il ((uT (gb u_ jS (dz iM iQ G.ya3 iF (au (fi fz fA (aw 4) aM) aI)) aM rfl) (uP (gb (EX h.units) P9 (cD [114,101,102,117,115,101,100]) (lz (cap:=[5]) (N':=["_law_what","_law_blurred_here"]) (jq.of ["_law_script","_law_town","_law_way","_law_thing","_law_asked","_law_blurred_here"] (a_ oB) rfl rfl (by decide +kernel)) rfl (uR G.ya5 (au aM aI)) (λC d g j i=>by exact m8) (λC d g j i=>by exact(fi fz fA ((bY (AC G) (h.mono (by decide)) kx (aZ (aw 0) (aZ (aw 1) bS)))).de aM))).de rfl)))).dt (bq (dQ kj)) ii)
  (bq (dQ (tu (nH h.units) nj (lz (cap:=[5]) (N':=["_law_what","_law_blurred_here"]) (jq.of ["_law_script","_law_town","_law_way","_law_thing","_law_asked","_law_blurred_here"] (a_ oB) rfl rfl (by decide +kernel)) rfl (gT (b_ (au aM (au aM aI)))) (λC d g j i=>by exact m8) (λC d g j i=>by exact((bY (AC G) (h.mono (by decide)) kx (aZ (aw 0) (aZ (aw 1) bS)))).de)).de (cr EV HW (jx (au (b_ (au (cD [114,101,102,117,115,101,100]) (au aM aI))) aI)) aM) rfl)))))))))))))
end
end K11
namespace Mx
open L2 Pu
def bC:Tx:=[97,98,99]
def eN:Nat->List Tx
 |0=>[[]]
 |k+1=>bC.flatMap λc=>(eN k).map (c::·)
theorem mG:∀(k:Nat) (x:Tx),x∈eN k↔x.length=k/\∀c∈x,c∈bC
 |0,x=>by
  simp only[eN,jF];constructor
  .rintro rfl;simp
  .rintro⟨h,_⟩;exact og.mp h
 |k+1,x=>by
  simp only[eN,ww,cS];constructor
  .rintro⟨c,i,y,g,rfl⟩;obtain⟨f,b⟩:=(mG k y).mp g;refine⟨by simp[f],λd a=>?_⟩;rcases bI.mp a with rfl|a
   .exact i
   .exact b d a
  .rintro⟨f,b⟩;cases x with
   |nil=>cases f
   |cons c y=>exact⟨c,b c (by simp),y,(mG k y).mpr ⟨zN f,λd a=>b d (by simp[a])⟩,rfl⟩
theorem Cf:∀k:Nat,(eN k).length=3^k
 |0=>rfl
 |k+1=>by simp only[eN,bC,re,JZ,dS,cz,Cf k,pt,Nat.pow_succ];lia
theorem Pp(i j:Nat):eN (i+j)=(eN i).flatMap λh=>(eN j).map (h++·):=by
 induction i with
 |zero=>simp[eN]
 |succ i a=>rw[show i+1+j=(i+j)+1 by lia];simp only[eN,a,List.flatMap_assoc,List.map_flatMap,List.flatMap_map,et,t7,wu]
theorem B6:∀k:Nat,(eN k).Pairwise (λa b=>a<b)
 |0=>by simp[eN]
 |k+1=>by
  simp only[eN];rw[List.pairwise_flatMap];refine⟨λc _=>?_,?_⟩
  .rw[zH];exact(B6 k).imp λh=>Dl.mpr (.inr ⟨rfl,h⟩)
  .have:bC.Pairwise (λa b=>a<b):=by decide
   refine this.imp λh=>?_;intro x f y d;obtain⟨i,_,rfl⟩:=cS.mp f;obtain⟨g,_,rfl⟩:=cS.mp d;exact Dl.mpr (.inl h)
theorem KD{a b:Tx}(h:a<b):cX a b=ah:=by simp only[cX,decide_eq_true_eq];exact List.le_of_lt h
theorem Ev(k:Nat):(eN k).Pairwise (λa b=>cX a b=ah):=(B6 k).imp KD
theorem Be(k:Nat):(eN k).Nodup:=(B6 k).imp λh z=>by subst z;exact List.lt_irrefl _ h
def aT(z:Tx)(w:Nat):List Tx:=((dY z.length).filter λi=>decide (i+w<=z.length)).map λi=>(z.drop i).take w
theorem G0(w L:Nat):∀m:Nat,(dY m).filter (λi=>decide (i+w<=L))=dY (min m (L+1-w))
 |0=>by simp
 |m+1=>by
  rw[we,List.filter_append,G0 w L m];by_cases h:m+w<=L
  .rw[show min m (L+1-w)=m by lia,show min (m+1) (L+1-w)=m+1 by lia,we];simp[h]
  .rw[show min (m+1) (L+1-w)=min m (L+1-w) by lia];simp[h]
theorem qE(z:Tx)(w:Nat)(a:1<=w):aT z w=(dY (z.length+1-w)).map λi=>(z.drop i).take w:=by unfold aT;rw[G0,show min z.length (z.length+1-w)=z.length+1-w by lia]
def nw(w:Nat)(t:Tx):Tx->List Tx
 |[]=>[]
 |c::s=>(t.drop (t.length+1-w)++[c])::nw w (t++[c]) s
theorem Ik(w:Nat)(b:1<=w):∀(s t:Tx),w<=t.length+1->nw w t s=(dY s.length).map λi=>((t++s).drop (t.length+1-w+i)).take w
 |[],t,_=>by simp[nw]
 |c::s,t,h=>by
  rw[nw,Ik w b s (t++[c]) (by simp;lia),eG,CT,cn,et];congr 1
  .show _=((t++c::s).drop (t.length+1-w)).take w;rw[CS ∅,List.take_append];have a:(t.drop (t.length+1-w)).length=w-1:=by rw[mL];lia
   rw[a,pB (by rw[a];lia),show w-(w-1)=1 by lia];rfl
  .refine j2 λi _=>?_;simp only[rf];rw[dS,v9,show t.length+1+1-w+i=t.length+1-w+Nat.succ i by lia];simp
theorem Aw{w:Nat}(a:1<=w){h s:Tx}(b:h.length=w-1):aT (h++s) w=nw w h s:=by rw[qE _ _ a,Ik w a s h ∅,dS,show h.length+s.length+1-w=s.length by lia];refine j2 λi _=>?_;rw[show h.length+1-w+i=i by lia]
theorem Sq{w:Nat}(a:1<=w)(t:Tx)(c:Nat):aT (t++[c]) w=aT t w++(if w<=t.length+1 then [((t++[c]).drop (t.length+1-w)).take w] else []):=by
 rw[qE _ _ a,qE _ _ a,dS,v9];by_cases h:w<=t.length+1
 .rw[if_pos h,show t.length+1+1-w=(t.length+1-w)+1 by lia,we,zF];congr 1;refine j2 λi b=>?_;have b:i<t.length+1-w:=by simpa using b
  rw[CS ∅,J0 (by rw[mL];lia)]
 .rw[if_neg h,show t.length+1+1-w=0 by lia,show t.length+1-w=0 by lia];simp
def iI(w:Nat):Nat->Tx->List Tx->List Tx
 |0,t,_=>[t]
 |r+1,t,q=>bC.flatMap λc=>if t.drop (t.length+1-w)++[c]∈q then iI w r (t++[c]) (q.erase (t.drop (t.length+1-w)++[c]))else []
theorem Eo(w:Nat):∀(r:Nat) (t:Tx) (q:List Tx),q.length=r->iI w r t q=((eN r).filter λs=>(nw w t s).isPerm q).map (t++·)
 |0,t,q,hq=>by have:q=[]:=og.mp hq;subst this;simp[iI,eN,nw,List.isPerm]
 |r+1,t,q,hq=>by
  simp only[iI,eN,List.filter_flatMap,List.map_flatMap];congr 1;funext c;rw[zR,et];by_cases h:t.drop (t.length+1-w)++[c]∈q
  .rw[if_pos h,Eo w r (t++[c]) _ (by rw[Ds h,hq];rfl)];have e:((λs=>(nw w t s).isPerm q) ∘ λx=>c::x)=λs=>(nw w (t++[c]) s).isPerm (q.erase (t.drop (t.length+1-w)++[c])):=by funext s;show(q.contains (t.drop (t.length+1-w)++[c])&&(nw w (t++[c]) s).isPerm (q.erase (t.drop (t.length+1-w)++[c])))=_;rw[List.contains_iff_mem.mpr h,zG]
   rw[e];refine j2 λs _=>?_;simp
  .rw[if_neg h];have e:((λs=>(nw w t s).isPerm q) ∘ λx=>c::x)=λ_=>aj:=by
    funext s;show(q.contains (t.drop (t.length+1-w)++[c])&&(nw w (t++[c]) s).isPerm (q.erase (t.drop (t.length+1-w)++[c])))=_;have:q.contains (t.drop (t.length+1-w)++[c])=aj:=by rw[JM];intro z;exact h (List.contains_iff_mem.mp z)
    rw[this,Bool.false_and]
   rw[e];simp
def dU(w:Nat)(ls:List Tx):List Tx:=(aH (gB (ls.map pG))).flatMap λh=>iI w ls.length h ls
theorem PY{a b:Type}{l:List a}{f:a->List b}(p:a->Bool)(h:∀x∈l,p x=aj->f x=[]):l.flatMap f=(l.filter p).flatMap f:=by
 induction l with
 |nil=>rfl
 |cons x l c=>
  rw[re,c λy d=>h y (by simp[d]),oh];cases e:p x with
  |true=>simp
  |false=>rw[h x (by simp) e];simp
theorem y6{w:Nat}{a:List Tx}(g:1<=w)(D:1<=a.length)(j:∀x∈a,x.length=w/\∀c∈x,c∈bC):dU w a=(eN (w-1+a.length)).filter λz=>(aT z w).isPerm a:=by
 rw[Pp,List.filter_flatMap];have B:(λh=>((eN a.length).map (h++·)).filter λz=>(aT z w).isPerm a)=λh=>((eN a.length).filter λs=>(aT (h++s) w).isPerm a).map (h++·):=by funext h;rw[zR];rfl
 rw[B,PY (λh=>decide (h∈a.map pG))]
 .have A:(eN (w-1)).filter (λh=>decide (h∈a.map pG))=aH (gB (a.map pG)):=by
   refine sZ ?_ ((Ev (w-1)).filter _);refine(List.perm_ext_iff_of_nodup ((Be (w-1)).filter _) (T9 _)).mpr λx=>?_;rw[jb,decide_eq_true_eq,yi,mG];refine⟨λh=>h.2,λh=>⟨?_,h⟩⟩;obtain⟨y,d,rfl⟩:=cS.mp h;obtain⟨u,r⟩:=j y d;exact⟨by rw[De,u],λc q=>r c ((List.dropLast_sublist _).mem q)⟩
  rw[A];unfold dU;have:∀l:List Tx,(∀h∈l,h.length=w-1)->l.flatMap (λh=>iI w a.length h a)=l.flatMap λh=>((eN a.length).filter λs=>(aT (h++s) w).isPerm a).map (h++·):=by
   intro l
   induction l with
   |nil=>intro _;rfl
   |cons h l n=>
    intro b;rw[re,re,n λy d=>b y (by simp[d]),Eo w _ h a rfl];have v:(λs=>(nw w h s).isPerm a)=λs=>(aT (h++s) w).isPerm a:=by funext s;rw[Aw g (b h (by simp))]
    rw[v]
  refine this _ λh b=>?_;have p:=(yi _ _).mp ((eM _).mem_iff.mp b);obtain⟨y,d,rfl⟩:=cS.mp p;rw[De,(j y d).1]
 .intro h b i;have C:=((mG _ h).mp b).1;rw[List.map_eq_nil_iff,List.filter_eq_nil_iff];intro s o f;have m:=((mG _ s).mp o).1;rw[Aw g C,List.isPerm_iff]at f;cases s with
  |nil=>rw[pt]at m;lia
  |cons c s=>rw[nw,show h.length+1-w=0 by lia,List.drop_zero]at f;have:h++[c]∈a:=f.mem_iff.mp (by simp);rw[decide_eq_false_iff_not]at i;exact i (cS.mpr ⟨_,this,by simp⟩)
end Mx
namespace Sh
open L2 Pu Mx
theorem RW{b:Type}{f:List PV->Option b}{c:ak->R (List PV)}{ε a:ak}{xs:List PV}{v:b}(h:c ε=.ok xs a)(d:f xs=aa v):dL f c ε=.ok v a:=by unfold dL;rw[h];show aQ (f xs) a=_;rw[d];rfl
theorem Oq{d:ak->R PV}{c:ak->R (List PV)}{ε a b:ak}{x:PV}{xs:List PV}(h:d ε=.ok x a)(f:c a=.ok xs b):ap d c ε=.ok (x::xs) b:=by unfold ap;rw[h];show(c a).bind _=_;rw[f];rfl
theorem MB{ε:ak}:aC ε=.ok [] ε:=rfl
theorem yC{f:PV->PV->Option PV}{c db:ak->R PV}{ε b a:ak}{x y z:PV}(h:c ε=.ok x b)(g:db b=.ok y a)(d:f x y=aa z):d2 f c db ε=.ok z a:=by unfold d2;rw[h];show(db b).bind _=_;rw[g];show aQ (f x y) a=_;rw[d];rfl
section
theorem yf{ls:List Tx}(h:ls.length<=1000000):kq [.lst (ao ls)]=aa (.lst (ao (aH ls))):=by show(io (ao ls)).bind _=_;rw[uS,iR,if_pos h]
end
section
variable{a:Ad}
abbrev cg(b:List Int):Slot:=.val (.lst (b.map .int))
theorem IB(b:List Int)(k:Int)(d:0<=k)(h:k<b.length):∃v,fj (b.map PV.int) k=aa (.int v):=by
 have c:k.toNat<b.length:=∅
 refine⟨b[k.toNat],?_⟩;rw[yP d (by rw[cz];exact c)];simp
theorem ND(b:List Int):Pu.eqT aj (.lst (b.map .int)) (.lst [])=aa (.bl b.isEmpty):=by
 cases b with
 |nil=>rfl
 |cons x xs=>
  have d:∀l:List Int,iw (l.map .int)=0:=λl=>by induction l with|nil=>rfl|cons y l c=>simp[iw,kw,c]
  have:iw ((x::xs).map .int)=0:=d _;simp only[cn]at this;simp[Pu.eqT,d_,dH,iK,kw,this]
theorem kZ(b:Bool)(i j:Int):Pu.eqT b (.int i) (.int j)=aa (.bl (b^^decide (i=j))):=by show(if nB (V.int i) (V.int j)then aa (PV.bl (b^^decide (V.int i=V.int j)))else ae)=_;have:nB (V.int i) (V.int j)=ah:=rfl;rw[if_pos this];simp
theorem A4(b:Bool)(x y:Tx):Pu.eqT b (.str x) (.str y)=aa (.bl (b^^decide (x=y))):=by show(if nB (tV x) (tV y)then aa (PV.bl (b^^decide (tV x=tV y)))else ae)=_;have:nB (tV x) (tV y)=ah:=rfl;rw[if_pos this];have e:(tV x=tV y)=(x=y):=propext ⟨NX,λh=>by rw[h]⟩;simp only[e]
theorem Lp(b:List Int)(k:Int)(g:0<=k):∃v,sI a [cg b,⇑k]=.ok (⇑v) [cg b,⇑k]:=by
 by_cases h:k<b.length
 .obtain⟨v,c⟩:=IB b k g h;refine⟨v,?_⟩;simp![sI,yaH,bP,bn,c,h]
 .have e:=ND b;by_cases d:b=[]
  .subst d;refine⟨0,?_⟩;simp only[zD,J1]at e;have i:¬k<0:=∅
   simp![sI,yaH,bP,bn,e,i]
  .have m:0<b.length:=by cases b with|nil=>exact absurd rfl d|cons=>simp
   obtain⟨v,c⟩:=IB b (k % b.length) (Int.emod_nonneg _ ∅) (J2 _ ∅);refine⟨v*31+k,?_⟩;have j:b.isEmpty=aj:=by cases b with|nil=>exact absurd rfl d|cons=>rfl
   rw[j]at e;have f:gP (.int k) (.int (b.length:Int))=aa (.int (k % b.length)):=by simp[gP];lia
   have l:lH (.int v) (.int 31)=aa (.int (v*31)):=by simp[lH,vL]
   simp![sI,yaH,bP,bn,h,e,f,c,l,bi]
theorem Ps(b:List Int)(k m:Int)(q:0<=k)(i:0<m):∃v,0<=v/\v<m/\zc a [cg b,⇑k,⇑m]=.ok (⇑v) [cg b,⇑k,⇑m]:=by
 obtain⟨c,p⟩:=Lp (a:=a) b k q;have r:0<=(c*1103515245+7919*k+12345) % 2147483647:=Int.emod_nonneg _ (by decide);have d1:(c*1103515245+7919*k+12345) % 2147483647<2147483647:=J2 _ (by decide);have o:lH (.int c) (.int 1103515245)=aa (.int (c*1103515245)):=by simp[lH,vL]
 have n:lH (.int 7919) (.int k)=aa (.int (7919*k)):=by simp[lH,vL]
 have h:gP (.int (c*1103515245+7919*k+12345)) (.int 2147483647)=aa (.int ((c*1103515245+7919*k+12345) % 2147483647)):=by simp[gP]
 generalize (c*1103515245+7919*k+12345) % 2147483647=d at r d1 h;have l:va (.int d) (.int 5)=aa (.int (d^5)):=by
  have:d.natAbs<2^64:=∅
  simp[va,this]
 have g:gP (.int (d^5)) (.int 2147483647)=aa (.int (d^5 % 2147483647)):=by simp[gP]
 generalize d^5 % 2147483647=d5 at g;have f:gP (.int d5) (.int 999983)=aa (.int (d5 % 999983)):=by simp[gP]
 generalize d5 % 999983=d6 at f;have j:gP (.int d6) (.int m)=aa (.int (d6 % m)):=by simp[gP,i]
 refine⟨d6 % m,Int.emod_nonneg _ ∅,J2 _ i,?_⟩;simp![zc,yaJ,p,o,n,h,l,g,f,j,bi]
theorem qG(b:List Int)(xs:List PV)(m:Int)(h:0<m)(i:xs.length<=1000):∃v,0<=v/\v<m/\jX a [cg b,.own (.lst xs),⇑m]=.ok (⇑v) [cg b,.own (.lst (xs++[.int 0])),⇑m]:=by
 obtain⟨v,d,c,g⟩:=Ps (a:=a) b ((xs.length:Int)+1) m ∅ h;refine⟨v,d,c,?_⟩;have f:xs.length<bo:=by unfold bo;lia
 simp![jX,yaI,bP,f,g]
theorem FN{c:Type}(b:List c)(v:Int)(f:0<=v)(g:v<b.length):∃x∈b,fj b v=aa x:=by
 have d:v.toNat<b.length:=∅
 exact⟨b[v.toNat],wg _,yP f d⟩
theorem yY(c:List Int)(xs b:List PV)(h:xs.length<=1000)(l:0<b.length):∃x∈b,nt a [cg c,.own (.lst xs),.val (.lst b)]=.ok (.val x) [cg c,.own (.lst (xs++[.int 0])),.val (.lst b)]:=by obtain⟨v,f,d,i⟩:=qG (a:=a) c xs (b.length:Nat) ∅ h;obtain⟨x,j,g⟩:=FN b v f d;refine⟨x,j,?_⟩;simp![nt,yaL,bP,bn,i,g]
theorem BR{n:Nat}(h:n<=1000000):kn [.int n]=aa (hG 0 n):=by show(if(n:Int)<=1000000/\-1000000<=(n:Int)then aa (hG 0 (n:Int).toNat)else ae)=_;rw[if_pos ⟨∅,∅⟩];simp
theorem nu{x y:Tx}(h:x.length+y.length<=bo):bi (.str x) (.str y)=aa (.str (x++y)):=by show(if(x++y).length<=bo then aa (PV.str (x++y))else ae)=_;rw[if_pos (by rw[dS];exact h)]
theorem cT{d1 d2:ak->R aO}{ε ε1:ak}(h:d1 ε=.ok .next ε1):aK d1 d2 ε=d2 ε1:=by unfold aK;rw[h]
theorem tm{i:Nat}{d:ak->R PV}{ε ε1:ak}{x:PV}(h:d ε=.ok x ε1):bW i d ε=.ok .next (ε1.set i (.val x)):=by unfold bW;rw[h];rfl
theorem AD{i:Nat}{db:ak->R aO}{I:Nat->ak->Prop}{N:Nat}(step:∀k c x,k<N->I k c->∃b,db (c.set i (.val x))=.ok .next b/\I (k+1) b):∀(xs:List PV) (k:Nat) (c:ak),k+xs.length<=N->I k c->∃b,fX i db xs c=.ok .next b/\I (k+xs.length) b
 |[],k,c,_,h=>⟨c,rfl,h⟩
 |x::xs,k,c,g,h=>by simp only[eG]at g;obtain⟨f,n,l⟩:=step k c x ∅ h;obtain⟨d,m,j⟩:=AD step xs (k+1) f ∅ l;refine⟨d,by unfold fX;rw[n];exact m,?_⟩;rw[eG,show k+(xs.length+1)=k+1+xs.length by lia];exact j
theorem nK{i:Nat}{db:ak->R aO}{I:List PV->ak->Prop}(step:∀(x:PV) (r:List PV) ε,I (x::r) ε->∃b,db (ε.set i (.val x))=.ok .next b/\I r b):∀(xs:List PV) (ε:ak),I xs ε->∃b,fX i db xs ε=.ok .next b/\I [] b
 |[],ε,h=>⟨ε,rfl,h⟩
 |x::xs,ε,h=>by obtain⟨ε1,j,f⟩:=step x xs ε h;obtain⟨c,g,d⟩:=nK step xs ε1 f;exact⟨c,by unfold fX;rw[j];exact g,d⟩
theorem Hj(j:List Int)(xs:List PV)(g b:Nat)(L:g<=b)(X:b<=100)(W:xs.length<=500):∃(z:Tx) (h:List PV),g<=z.length/\z.length<=b/\(∀c∈z,c∈bC)/\h.length<=xs.length+2+b /\ sr a [cg j,.own (.lst xs),⇑g,⇑b]=.ok (↥z) [cg j,.own (.lst h),⇑g,⇑b]:=by
 obtain⟨f,y,J⟩:=yY (a:=a) j xs [.int 1,.int 2,.int 2,.int 3,.int 3,.int 3] ∅ (by decide);obtain⟨few,rfl,P,Z⟩:∃few:Int,f=.int few/\0<few/\few<=3:=by simp only[bI,gX,or_false]at y;rcases y with rfl|rfl|rfl|rfl|rfl|rfl <;> exact⟨_,rfl,by decide,by decide⟩
 obtain⟨m,T,S,l⟩:=qG (a:=a) j (xs++[.int 0]) ((b:Int)-g+1) ∅ (by simp;lia);obtain⟨n,K⟩:∃n:Nat,(g:Int)+m=n:=⟨(g+m).toNat,∅⟩
 have H:kn [.int ((g:Int)+m)]=aa (hG 0 n):=by rw[K];exact BR ∅
 have bD:(hG 0 n).length=n:=by simp[hG]
 obtain⟨B,A,h,z,o,rfl,w,F,s⟩:=AD (i:=6) (db:=bW 5 (d2 bi (dV 5) (d2 bn (dC (.str [97,98,99])) (bF (a9 (jX a) (gV (dV 0) (gO 1 (gV (dV 4) (Pu.bL)))))))))
  (I:=λk u=>∃h z o,u=[cg j,.own (.lst h),⇑g,⇑b,⇑few,↥z,o]/\z.length=k/\h.length<=xs.length+2+k/\∀c∈z,c∈bC) (N:=n)
  (by
   rintro k u x Y ⟨h,z,o,rfl,w,F,s⟩;obtain⟨v,C,Q,G⟩:=qG (a:=a) j h few P ∅;obtain⟨c,M,D⟩:=FN bC v C (by simp[bC];lia);refine⟨[cg j,.own (.lst (h++[.int 0])),⇑g,⇑b,⇑few,↥(z++[c]),.val x],?_,h++[.int 0],z++[c],.val x,rfl,by simp[w],by simp;lia,λd l=>?_⟩
   .have p:bn (.str [97,98,99]) (.int v)=aa (.str [c]):=by
     show(fj bC v).map _=_;rw[D];rfl
    have O:bi (.str z) (.str [c])=aa (.str (z++[c])):=nu (by simp[bo];lia);simp![G,p,O]
   .simp only[kB,jF]at l;rcases l with l|rfl
    .exact s d l
    .exact M)
  (hG 0 n) 0 [cg j,.own (.lst (xs++[.int 0]++[.int 0])),⇑g,⇑b,⇑few,.val (.str []),.none] ∅ ⟨xs++[.int 0]++[.int 0],[],.none,rfl,rfl,by simp,by simp⟩
 refine⟨z,h,∅,∅,s,∅,?_⟩;have E:jT (.int b) (.int g)=aa (.int ((b:Int)-g)):=rfl;have r:bi (.int ((b:Int)-g)) (.int 1)=aa (.int ((b:Int)-g+1)):=rfl;have q:bi (.int g) (.int m)=aa (.int ((g:Int)+m)):=rfl;simp only[gH,wu,gI]at A;simp![sr,yaN,J,E,r,q,l,dj,H,e_,A]
theorem kf{cap:List Nat}{dt:ak->R Bool}{de:ak->R PV}{ε:ak}(p:PV->Bool)(f:PV->PV):∀(xs:List PV),(∀x∈xs,bz (dw cap dt x ε)=.ok (p x) ε/\(p x=ah->bz (dw cap de x ε)=.ok (f x) ε))->∀b,ju cap dt de xs b ε=.ok (b++(xs.filter p).map f) ε
 |[],_,b=>by simp[ju]
 |x::xs,h,b=>by
  have g:=h x (by simp);have d:=kf p f xs (λy i=>h y (by simp[i]));unfold ju;rw[g.1];simp only[R.bind_ok];cases c:p x with
  |false=>simp only[d b,oh,c];simp
  |true=>simp only[g.2 c,R.bind_ok,d (b++[f x]),oh,c];simp
theorem O8{z:Tx}{i w:Nat}(h:i+w<=z.length):gh z (aa (i:Int)) (aa ((i:Int)+w))=(z.drop i).take w:=by
 unfold gh;have c:HT.sIx z.length 0 (aa (i:Int))=i:=by rw[HT.sIx_nat];lia
 have b:HT.sIx z.length z.length (aa ((i:Int)+w))=i+w:=by rw[show(i:Int)+w=((i+w:Nat):Int) by lia,HT.sIx_nat];lia
 rw[c,b,Nat.add_sub_cancel_left]
theorem RU(z:Tx)(w:Nat)(o:z.length<=60):x_ a [↥z,⇑w]=.ok (.val (.tup (ao (aH (aT z w))))) [↥z,⇑w]:=by
 have g:kn [.int (z.length:Nat)]=aa (hG 0 z.length):=BR ∅;have b:=kf (cap:=[0,1]) (dt:=(dB (d2 (dD λi j=>decide (i<=j)) (d2 bi (dV 0) (dV 2)) (dL bP (ap (dV 1) (aC)))))) (de:=(cO c_ (dV 1) (cI (dV 0)) (cI (d2 bi (dV 0) (dV 2)))))
  (ε:=[↥z,⇑w]) (λx=>match x with|.int i=>decide (i+w<=z.length)|_=>aj) (λx=>match x with|.int i=>.str (gh z (aa i) (aa (i+w)))|_=>.non) (hG 0 z.length)
  (by
   intro x d;simp only[hG,cS]at d;obtain⟨i,f,rfl⟩:=d;refine⟨?_,λh=>?_⟩
   .simp![dw,cP,bz,bP,bi]
   .simp![dw,cP,bz,bP,bi,cO,cI,c_]) []
 have l:(aT z w).length<=1000000:=by unfold aT;rw[cz];have:=Dt (λi=>decide (i+w<=z.length)) (dY z.length);rw[Jy]at this;lia
 have m:(((hG 0 z.length).filter (λx=>match x with|.int i=>decide (i+w<=z.length)|_=>aj)).map (λx=>match x with|.int i=>PV.str (gh z (aa i) (aa (i+w)))|_=>.non))=ao (aT z w):=by
  unfold hG aT ao;rw[zR,et,et];have n:((λx=>match x with|PV.int i=>decide (i+(w:Int)<=(z.length:Nat))|_=>aj) ∘ λ(i:Nat)=>PV.int (0+(i:Nat)))=λi=>decide (i+w<=z.length):=by funext i;simp only[rf];congr 1;simp;lia
  rw[n];refine j2 λi f=>?_;have:=(jb.mp f).2;simp only[decide_eq_true_eq]at this;simp only[rf,Int.zero_add];rw[O8 this]
 simp only[gI]at b;rw[m]at b;have c:=yf l;generalize ao (aH (aT z w))=T at c;generalize ao (aT z w)=B at b c;simp![x_,yaM,bP,g,cV,b,c,kl]
theorem D8{z:Tx}{w:Nat}:∀x∈aT z w,x.length=w/\∀c∈x,c∈z:=by intro x b;simp only[aT,cS,jb,zv,decide_eq_true_eq]at b;obtain⟨i,⟨_,h⟩,rfl⟩:=b;exact⟨by rw[pi,mL];lia,λc d=>J3 (List.mem_of_mem_take d)⟩
theorem Su{z:Tx}{w m:Nat}(c:1<=w)(f:w<=z.length)(d:z.length<=w+m):1<=(aT z w).length/\(aT z w).length<=m+1:=by
 unfold aT;rw[cz];have:∀n,((dY n).filter λi=>decide (i+w<=z.length)).length=min n (z.length+1-w):=by
  intro n
  induction n with
  |zero=>simp
  |succ n b=>
   rw[we,List.filter_append,dS,b];by_cases h:n+w<=z.length
   .simp[List.filter,h];lia
   .simp[List.filter,h];lia
 rw[this];lia
structure Good(l:Tx)(w:Nat)(ls:List Tx):Prop where
 len:∀x∈ls,x.length=w
 abc:∀x∈ls,∀c∈x,c∈l
 some:1<=ls.length
 few:ls.length<=9
theorem Good.perm{l:Tx}{w:Nat}{ls b:List Tx}(g:Good l w ls)(p:b.Perm ls):Good l w b:=⟨λx h=>g.len x (p.mem_iff.mp h),λx h=>g.abc x (p.mem_iff.mp h),by rw[p.length_eq];exact g.some,by rw[p.length_eq];exact g.few⟩
theorem Good.put{l:Tx}{w:Nat}{ls:List Tx}{z:Tx}{j:Nat}(g:Good l w ls)(b:z.length=w)(d:∀c∈z,c∈l):Good l w (ls.set j z):=by
 refine⟨λx h=>?_,λx h=>?_,by rw[gn];exact g.some,by rw[gn];exact g.few⟩
 .rcases List.mem_or_eq_of_mem_set h with h|rfl
  .exact g.len x h
  .exact b
 .rcases List.mem_or_eq_of_mem_set h with h|rfl
  .exact g.abc x h
  .exact d
theorem Nz(ls:List Tx)(j:Nat)(z:Tx):(ao ls).set j (.str z)=ao (ls.set j z):=by simp[ao,List.map_set]
theorem mF(ls:List Tx):(ao ls).length=ls.length:=by simp[ao]
theorem Iw{n:Nat}{v:Int}(c:0<=v)(b:v<n):kQ n v=aa v.toNat:=by unfold kQ;rw[if_pos c,if_pos b]
theorem F_(ls:List Tx):nk (ao ls)=ah:=by
 induction ls with
 |nil=>rfl
 |cons x ls b=>show(imm (.str x)&&nk (ao ls))=ah;rw[b];rfl
theorem P3(j:List Int)(xs:List PV)(d f:Nat)(hs:d<3)(m1:1<=f)(m9:f<=9)(hx:xs.length<=300):∃(w:Nat) (ls:List Tx) (l:List PV),1<=w/\w<=4/\(d≠2->2<=w)/\Good bC w ls/\ls.Pairwise (λa b=>cX a b=ah)/\ls.length<=f/\(d=0->∃z:Tx,ls=aH (aT z w)/\w<=z.length/\z.length+1<=w+f/\∀c∈z,c∈bC)/\l.length<=xs.length+60 /\ uw a [cg j,.own (.lst xs),⇑d,⇑f]=.ok (.val (.tup [.int w,.tup (ao ls)])) [cg j,.own (.lst l),⇑d,⇑f]:=by
 obtain⟨w,M,S,W,Z⟩:∃w:Nat,1<=w/\w<=4/\(d≠2->2<=w)/\(cc (dB (d2 (Pu.eqT ah) (dV 2) (dC (.int 2)))) (d2 bi (dC (.int 2)) (bF (a9 (jX a) (gV (dV 0) (gO 1 (gV (dC (.int 3)) (Pu.bL))))))) (d2 bi (dC (.int 1)) (bF (a9 (jX a) (gV (dV 0) (gO 1 (gV (dC (.int 4)) (Pu.bL)))))))) [cg j,.own (.lst xs),⇑d,⇑f,.none,.none,.none] =
   .ok (.int w) [cg j,.own (.lst (xs++[.int 0])),⇑d,⇑f,.none,.none,.none]:=by
  by_cases h2:d=2
  .subst h2;obtain⟨v,C,B,n⟩:=qG (a:=a) j xs 4 (by decide) ∅;refine⟨(1+v).toNat,∅,∅,λz=>absurd rfl z,?_⟩;have e:Pu.eqT ah (.int 2) (.int 2)=aa (.bl aj):=by rw[kZ];rfl
   have:((1+v).toNat:Int)=1+v:=∅
   simp![e,n,bi,this]
  .obtain⟨v,C,B,n⟩:=qG (a:=a) j xs 3 (by decide) ∅;refine⟨(2+v).toNat,∅,∅,λ_=>∅,?_⟩;have e:Pu.eqT ah (.int ((d:Nat):Int)) (.int 2)=aa (.bl ah):=by
    have:d=0\/d=1:=∅
    rcases this with rfl|rfl <;> (rw[kZ];rfl)
   have:((2+v).toNat:Int)=2+v:=∅
   simp![e,n,bi,this]
 obtain⟨z,A,y,J,g,E,u⟩:=Hj (a:=a) j (xs++[.int 0]) w (w+(f-1)) ∅ ∅ (by simp;lia);simp only[dS,v9]at E;have U1:=RU (a:=a) z w ∅;have U2:=Su (z:=z) (w:=w) (m:=f-1) M y J;have g0:Good bC w (aH (aT z w)):=by exact Good.perm ⟨λx h=>(D8 x h).1,λx h c hc=>g c ((D8 x h).2 c hc),U2.1,∅⟩ (eM _)
 have o:gP (.int d) (.int 3)=aa (.int d):=by
  have:d=0\/d=1\/d=2:=∅
  rcases this with rfl|rfl|rfl <;> rfl
 have hr:kn [.int d]=aa (hG 0 d):=BR ∅;have bD:(hG 0 d).length=d:=by simp[hG]
 obtain⟨Q,e1,l,ls,s,rfl,p,D,h0,Y⟩:=AD (i:=6) (db:=(zf 5 (bF (a9 (jX a) (gV (dV 0) (gO 1 (gV (jv (λxs=>qd (bP xs)) 5) (Pu.bL)))))) (bF (a9 (sr a) (gV (dV 0) (gO 1 (gV (dV 4) (gV (dV 4) (Pu.bL)))))))))
  (I:=λk H=>∃l ls s,H=[cg j,.own (.lst l),⇑d,⇑f,⇑w,.own (.lst (ao ls)),s]/\Good bC w ls/\ls.length<=f/\(k=0->ls=aH (aT z w))/\l.length<=A.length+10*k) (N:=d)
  (by
   rintro k H x hk ⟨l,ls,s,rfl,p,D,_,Y⟩;obtain⟨z,K,y,J,g,X,u⟩:=Hj (a:=a) j l w w ∅ ∅ ∅;obtain⟨v,C,B,n⟩:=qG (a:=a) j K (ls.length:Nat) (by have:=p.some;lia) ∅;refine⟨[cg j,.own (.lst (K++[.int 0])),⇑d,⇑f,⇑w,.own (.lst (ao (ls.set v.toNat z))),.val x],?_,_,_,_,rfl,p.put ∅ g,by rw[gn];exact D,λz=>∅,by simp;lia⟩;have F:kQ (ao ls).length v=aa v.toNat:=Iw C (by rw[mF];exact B);have hl:bP [.lst (ao ls)]=aa (.int (ls.length:Nat)):=by simp[bP,mF]
   simp![zf,u,hl,n,F,Nz])
  (hG 0 d) 0 [cg j,.own (.lst A),⇑d,⇑f,⇑w,.own (.lst (ao (aH (aT z w)))),.none] ∅ ⟨A,_,.none,rfl,g0,by rw[yT];lia,λ_=>rfl,∅⟩
 refine⟨w,aH ls,l,M,S,W,p.perm (eM _),o5 _,by rw[yT];exact D,λz0=>⟨z,by rw[h0 ∅,s_ (o5 _)],y,∅,g⟩,∅,?_⟩;have O:bi (.int w) (.int f)=aa (.int ((w:Int)+f)):=rfl;have G:jT (.int ((w:Int)+f)) (.int 1)=aa (.int (((w+(f-1):Nat)):Int)):=by show aa (PV.int ((w:Int)+f-1))=_;congr 2;lia
 have P:=yf (ls:=ls) (by have:=p.few;lia);have r:yaO a [cg j,.own (.lst xs),⇑d,⇑f,.none,.none,.none]=.ok (.ret (.val (.tup [.int w,.tup (ao (aH ls))]))) [cg j,.own (.lst l),⇑d,⇑f,⇑w,.own (.lst (ao ls)),s]:=by unfold yaO;refine(cT (tm Z)).trans ?_;have L:=F_ (aH ls);generalize ao (aH ls)=T at P L;generalize ((w+(f-1):Nat):Int)=q at G u;generalize (w:Int)+f=q2 at O G;simp[aK,cc,dB,d2,d1,dV,dC,dL,dF,ap,aC,cq,lC,bW,dy,a9,gV,gO,Pu.bL,d9,eP,cm,dR,f_,R.bind,aQ,bH,fk,bG,back,ge,mw,lG,uW,tF,sT,bF,iG,dE,br,dX,tJ,jA,zb,kb,tw,mZ,j_,lB,yG,nr,dD,eC,oQ,jv,oZ,bu,lU,O,G,u,U1,sO,o,dj,hr,e_,e1,P,B2,L,kl]
 simp[uw,bH,fk,bG,r,back,ge]
theorem map_set{b c:Type}(f:b->c)(l:List b)(j:Nat)(x:b):(l.map f).set j (f x)=(l.set j x).map f:=by simp[List.map_set]
def ef(ls:List Tx):Nat:=(ls.map λx=>x.count 46).sum
theorem Td{c b:List Tx}(p:c.Perm b):ef c=ef b:=(p.map _).sum_nat
def gM:Tx:=[46,97,98,99]
theorem T4(c b:List Tx):ao c++ao b=ao (c++b):=by simp[ao]
theorem Bl{b:Type}(xs:List b)(n:Nat):gh xs (aa (n:Int)) ae=xs.drop n:=by
 unfold gh;have c:HT.sIx xs.length xs.length ae=xs.length:=rfl;rw[c,HT.sIx_nat];by_cases h:n<=xs.length
 .rw[Nat.min_eq_left h,pB (by rw[mL];lia)]
 .rw[Nat.min_eq_right ∅,J4 ∅,J4 ∅];simp
end
def opts(d:Nat):Tx:=if d=46 then bC else [d]
def fillS(a:List Tx)(d:Nat):List Tx:=a.flatMap λs=>(opts d).map λc=>s++[c]
def fillF(a:List Tx)(b:Tx):List Tx:=b.foldl fillS a
def fills(b:Tx):List Tx:=fillF [[]] b
theorem opts_mem{c d:Nat}:c∈opts d↔(d=46/\c∈bC)\/(d≠46/\c=d):=by
 unfold opts;by_cases h:d=46
 .simp[h]
 .simp[h]
theorem opts_len(d:Nat):(opts d).length=3 ^ [d].count 46:=by
 unfold opts;by_cases h:d=46
 .subst h;rfl
 .simp[h]
theorem fillS_len(a:List Tx)(d:Nat):(fillS a d).length=a.length*3 ^ [d].count 46:=by
 unfold fillS;rw[List.length_flatMap];simp only[cz,opts_len]
 induction a with
 |nil=>simp
 |cons r a b=>rw[cn,jg,b,eG,Nat.add_mul,Nat.one_mul,zC]
theorem fillF_len(b:Tx):∀a:List Tx,(fillF a b).length=a.length*3^b.count 46:=by
 unfold fillF
 induction b with
 |nil=>intro a;simp
 |cons d b c=>intro a;rw[jf,c,fillS_len,Nat.mul_assoc,<-Nat.pow_add];congr 2;rw[<-Du];rfl
theorem fills_len(b:Tx):(fills b).length=3^b.count 46:=by rw[fills,fillF_len];simp
theorem fillF_fits(b:Tx):∀(a:List Tx) (z:Tx),z∈fillF a b↔∃r∈a,∃x:Tx,z=r++x/\fY (λc d=>c∈opts d) x b:=by
 unfold fillF
 induction b with
 |nil=>
  intro a z;constructor
  .intro h;exact⟨z,h,[],by simp,.nil⟩
  .rintro⟨r,f,x,rfl,g⟩;cases g;simpa using f
 |cons d b j=>
  intro a z;rw[jf,j];constructor
  .rintro⟨r,f,x,rfl,g⟩;unfold fillS at f;obtain⟨s,l,f⟩:=ww.mp f;obtain⟨c,i,rfl⟩:=cS.mp f;exact⟨s,l,c::x,by simp,.cons i g⟩
  .rintro⟨r,f,x,rfl,g⟩;cases g with
   |cons i g=>rename_i c x;refine⟨r++[c],?_,x,by simp,g⟩;unfold fillS;exact ww.mpr ⟨r,f,cS.mpr ⟨c,i,rfl⟩⟩
def Fit(x b:Tx):Prop:=fY (λc d=>c∈opts d) x b
theorem fills_mem{b z:Tx}:z∈fills b↔Fit z b:=by
 unfold fills;rw[fillF_fits];constructor
 .rintro⟨r,a,x,rfl,c⟩;simp at a;subst a;exact c
 .intro h;exact⟨[],by simp,z,rfl,h⟩
theorem Fit.len{x b:Tx}(h:Fit x b):x.length=b.length:=qK h
theorem Fit.abc{x b:Tx}(h:Fit x b)(g:∀c∈b,c∈gM):∀c∈x,c∈bC:=by
 unfold Fit at h
 induction h with
 |nil=>intro c a;cases a
 |@cons c d x b a _ ih=>
  intro e f;rcases bI.mp f with rfl|f
  .rcases opts_mem.mp a with⟨_,h⟩|⟨h1,rfl⟩
   .exact h
   .have:=g e (by simp);simp[gM]at this;simp[bC];lia
  .exact ih (λc a=>g c (by simp[a])) e f
def addL(a:List (List Tx))(k:List Tx):List (List Tx):=if k∈a then a else a++[k]
theorem addL_mem{a:List (List Tx)}{k z:List Tx}:z∈addL a k↔z∈a\/z=k:=by
 unfold addL;by_cases h:k∈a
 .rw[if_pos h];exact⟨.inl,λq=>q.elim id λe=>e ▸ h⟩
 .rw[if_neg h];simp
theorem addL_nodup{d:List (List Tx)}{k:List Tx}(h:d.Nodup):(addL d k).Nodup:=by
 unfold addL;by_cases c:k∈d
 .rw[if_pos c];exact h
 .rw[if_neg c,C4];refine⟨h,by simp,λa g b f=>?_⟩;simp at f;subst f;rintro rfl;exact c g
theorem addF_mem(ks:List (List Tx)):∀(a:List (List Tx)) (z:List Tx),z∈ks.foldl addL a↔z∈a\/z∈ks:=by
 induction ks with
 |nil=>intro a z;simp
 |cons k ks b=>
  intro a z;rw[jf,b,addL_mem,bI];constructor
  .rintro((h|h)|h)
   .exact .inl h
   .exact .inr (.inl h)
   .exact .inr (.inr h)
  .rintro(h|h|h)
   .exact .inl (.inl h)
   .exact .inl (.inr h)
   .exact .inr h
theorem addF_nodup(ks:List (List Tx)):∀a:List (List Tx),a.Nodup->(ks.foldl addL a).Nodup:=by
 induction ks with
 |nil=>intro a h;exact h
 |cons k ks b=>intro a h;exact b _ (addL_nodup h)
def nextW(b:Tx)(k:List Tx):List (List Tx):=(fills b).map λx=>aH (k++[x])
def stepW(ks:List (List Tx))(b:Tx):List (List Tx):=(ks.flatMap (nextW b)).foldl addL []
def waysF(a:List Tx):List (List Tx):=a.foldl stepW [[]]
theorem waysF_mem'(f:List Tx):∀(ks:List (List Tx)) (z:List Tx),z∈f.foldl stepW ks↔if f=[] then z∈ks else ∃k∈ks,∃xs:List Tx,z=aH (k++xs)/\fY Fit xs f:=by
 induction f with
 |nil=>intro ks z;simp
 |cons b f l=>
  intro ks z;rw[jf,l,if_neg (show ¬b::f=[] by simp)];have g:∀y,y∈stepW ks b↔∃k∈ks,∃x,Fit x b/\y=aH (k++[x]):=λy=>by
   unfold stepW;rw[addF_mem];constructor
   .rintro(h|h)
    .simp at h
    .obtain⟨k,c,h⟩:=ww.mp h;obtain⟨x,a,rfl⟩:=cS.mp h;exact⟨k,c,x,fills_mem.mp a,rfl⟩
   .rintro⟨k,c,x,a,rfl⟩;exact .inr (ww.mpr ⟨k,c,cS.mpr ⟨x,fills_mem.mpr a,rfl⟩⟩)
  by_cases j:f=[]
  .subst j;rw[if_pos rfl,g];constructor
   .rintro⟨k,c,x,a,rfl⟩;exact⟨k,c,[x],rfl,.cons a .nil⟩
   .rintro⟨k,c,xs,rfl,d⟩;cases d with
    |cons a d=>cases d;exact⟨k,c,_,a,rfl⟩
  .rw[if_neg j];constructor
   .rintro⟨y,m,xs,rfl,d⟩;obtain⟨k,c,x,a,rfl⟩:=(g y).mp m;refine⟨k,c,x::xs,uQ ?_,.cons a d⟩;have i:=(eM (k++[x])).append_right xs;simpa using i
   .rintro⟨k,c,xs,rfl,d⟩;cases d with
    |cons a d=>rename_i x xs;refine⟨aH (k++[x]),(g _).mpr ⟨k,c,x,a,rfl⟩,xs,uQ ?_,d⟩;have i:=(eM (k++[x])).symm.append_right xs;simpa using i
theorem waysF_mem{b z:List Tx}:z∈waysF b↔∃xs:List Tx,z=aH xs/\fY Fit xs b:=by
 unfold waysF;rw[waysF_mem'];by_cases c:b=[]
 .subst c;rw[if_pos rfl];constructor
  .intro h;simp at h;subst h;exact⟨[],(by simp[aH]),.nil⟩
  .rintro⟨xs,rfl,a⟩;cases a;simp[aH]
 .rw[if_neg c];constructor
  .rintro⟨k,d,xs,rfl,a⟩;simp at d;subst d;exact⟨xs,rfl,a⟩
  .rintro⟨xs,rfl,a⟩;exact⟨[],by simp,xs,rfl,a⟩
theorem waysF_nodup'(a:List Tx):∀ks:List (List Tx),ks.Nodup->(a.foldl stepW ks).Nodup:=by
 induction a with
 |nil=>intro ks h;exact h
 |cons b a c=>intro ks _;exact c _ (addF_nodup _ _ List.nodup_nil)
theorem waysF_nodup(a:List Tx):(waysF a).Nodup:=waysF_nodup' a _ (by simp)
theorem addF_len(ks:List (List Tx)):∀a:List (List Tx),(ks.foldl addL a).length<=a.length+ks.length:=by
 induction ks with
 |nil=>intro a;simp
 |cons k ks b=>
  intro a;have:=b (addL a k);rw[jf,eG];have c:(addL a k).length<=a.length+1:=by unfold addL;split <;> simp
  lia
theorem next_len(ks:List (List Tx))(b:Tx):(ks.flatMap (nextW b)).length=ks.length*3^b.count 46:=by
 rw[List.length_flatMap];simp only[nextW,cz,fills_len]
 induction ks with
 |nil=>simp
 |cons r a c=>rw[cn,jg,c,eG,Nat.add_mul,Nat.one_mul,zC]
theorem stepW_len(ks:List (List Tx))(b:Tx):(stepW ks b).length<=ks.length*3^b.count 46:=by unfold stepW;have:=addF_len (ks.flatMap (nextW b)) [];rw[next_len]at this;simpa using this
theorem waysF_len'(a:List Tx):∀ks:List (List Tx),(a.foldl stepW ks).length<=ks.length*3^ef a:=by
 induction a with
 |nil=>intro ks;simp[ef]
 |cons b a c=>
  intro ks;rw[jf];refine c0 (c _) ?_;have e:3^ef (b::a)=3^b.count 46*3^ef a:=by rw[<-Nat.pow_add];rfl
  rw[e,<-Nat.mul_assoc];exact Nat.mul_le_mul_right _ (stepW_len ks b)
theorem waysF_len(a:List Tx):(waysF a).length<=3^ef a:=by have:=waysF_len' a [[]];simpa[waysF]using this
section
variable{a:Ad}
theorem wf_comp(t:Tx)(o:Tx)(g f d b:Slot)(l:t.length<=50):ju [5] cF (d2 bi (dV 1) (dV 0)) (o.map λc=>.str [c]) [] [g,f,d,↥o,b,↥t]=.ok (ao (o.map λc=>t++[c])) [g,f,d,↥o,b,↥t]:=by
 have h:=kf (cap:=[5]) (dt:=cF) (de:=(d2 bi (dV 1) (dV 0))) (ε:=[g,f,d,↥o,b,↥t]) (λ_=>ah) (λx=>match x with|.str [c]=>.str (t++[c])|_=>.non) (o.map λc=>PV.str [c])
  (by intro x i;obtain⟨c,_,rfl⟩:=cS.mp i;have j:bi (.str t) (.str [c])=aa (.str (t++[c])):=nu (by simp[bo];lia);refine⟨by simp![dw,cP,bz,cF],λ_=>?_⟩;simp![dw,cP,bz,j]) []
 rw[gI,oj.mpr (by simp)]at h;rw[h];congr 1;simp[ao,et,t7]
theorem wf_row(d:Nat)(h g f n:Slot)(b:List Tx)(A:∀t∈b,t.length<=50)(D:(fillS b d).length<=999999):∃l,fX 5 (kr 4 (dF (cV [5] (bJ (dV 3)) (cF) (d2 bi (dV 1) (dV 0))))) (ao b) [h,g,f,↥(opts d),.own (.lst []),n]=.ok .next [h,g,f,↥(opts d),.own (.lst (ao (fillS b d))),l]:=by
 obtain⟨y,w,l,p,rest,j,z,rfl⟩:=nK (i:=5) (db:=(kr 4 (dF (cV [5] (bJ (dV 3)) (cF) (d2 bi (dV 1) (dV 0))))))
  (I:=λr s=>∃(l:Slot) (p rest:List Tx),b=p++rest/\r=ao rest/\s=[h,g,f,↥(opts d),.own (.lst (ao (fillS p d))),l])
  (by
   rintro x r s ⟨l,p,rest,j,v,rfl⟩;cases rest with
   |nil=>cases v
   |cons t rest=>
    have u:x::r=.str t::ao rest:=v;simp only[n_]at u;obtain⟨rfl,rfl⟩:=u;have m:=wf_comp t (opts d) h g f (.own (.lst (ao (fillS p d)))) (A t (by rw[j];simp));have q:fu (.str (opts d))=aa ((opts d).map λc=>.str [c]):=rfl;have C:fillS (p++[t]) d=fillS p d++(opts d).map λc=>t++[c]:=by simp[fillS]
    have o:(ao (fillS p d)).length+(ao ((opts d).map λc=>t++[c])).length<=bo:=by
     rw[mF,mF];have E:(fillS p d).length+((opts d).map λc=>t++[c]).length<=(fillS b d).length:=by rw[j];simp only[fillS,zS,re,dS];lia
     unfold bo;lia
    refine⟨[h,g,f,↥(opts d),.own (.lst (ao (fillS (p++[t]) d))),↥t],?_,↥t,p++[t],rest,by rw[j];simp,rfl,rfl⟩;rw[C,<-T4];generalize ao ((opts d).map λc=>t++[c])=Y at m o;generalize ao (fillS p d)=L at m o;generalize ((opts d).map λc=>PV.str [c])=A3 at m q;generalize opts d=O at m q;simp![kr,cV,bJ,q,m,o])
  (ao b) [h,g,f,↥(opts d),.own (.lst (ao (fillS [] d))),n] ⟨n,[],b,by simp,rfl,rfl⟩
 have B:rest=[]:=by cases rest with|nil=>rfl|cons=>cases z
 subst B;rw[fN]at j;rw[<-j]at w;exact⟨l,w⟩
theorem fillF_app(d:List Tx)(b c:Tx):fillF d (b++c)=fillF (fillF d b) c:=by unfold fillF;rw[CY]
theorem fill_long{b:Tx}{t:Tx}(h:t∈fills b):t.length=b.length:=(fills_mem.mp h).len
theorem pow6{k:Nat}(h:k<=6):3^k<=729:=c0 (J5 (by decide) h) (by decide)
theorem wtf_eq(b:Tx)(H:b.length<=40)(G:b.count 46<=6):sw a [↥b]=.ok (.val (.lst (ao (fills b)))) [↥b]:=by
 obtain⟨z,n,o,j,h,f,p,rest,g,A,rfl⟩:=nK (i:=2) (db:=(aK (bW 3 (cc (dB (d2 (Pu.eqT aj) (dV 2) (dC (.str [46])))) (dC (.str [97,98,99])) (dV 2)))
 (aK (dy 4 (dL dE (aC)))
 (aK (dj 5 (bJ (dV 1)) (kr 4 (dF (cV [5] (bJ (dV 3)) (cF) (d2 bi (dV 1) (dV 0))))))
 (bW 1 (dM 4))))))
  (I:=λr v=>∃(o j h f:Slot) (p rest:Tx),b=p++rest/\r=rest.map (λc=>PV.str [c])/\v=[↥b,.val (.lst (ao (fills p))),o,j,h,f])
  (by
   rintro x r v ⟨o,j,h,f,p,rest,g,q,rfl⟩;cases rest with
   |nil=>cases q
   |cons d rest=>
    simp only[cn,n_]at q;obtain⟨rfl,rfl⟩:=q;have J:p.length+1<=b.length:=by rw[g];simp
    have s:(p++[d]).count 46<=6:=by
     have:(p++[d]).count 46<=b.count 46:=by rw[g];simp only[Du,List.count_cons,List.count_nil];lia
     lia
    have e:fillS (fills p) d=fills (p++[d]):=by unfold fills;rw[fillF_app];rfl
    obtain⟨w,l⟩:=wf_row d (↥b) (.val (.lst (ao (fills p)))) (.val (.str [d])) f (fills p) (λt C=>by rw[fill_long C];lia) (by rw[e,fills_len];have:=pow6 s;lia);rw[e]at l;refine⟨_,?_,.val (.str [d]),↥(opts d),.val (.lst (ao (fills (p++[d])))),w,p++[d],rest,by rw[g];simp,rfl,rfl⟩;have u:(cc (dB (d2 (Pu.eqT aj) (dV 2) (dC (.str [46])))) (dC (.str [97,98,99])) (dV 2)) [↥b,.val (.lst (ao (fills p))),.val (.str [d]),j,h,f]=.ok (.str (opts d)) [↥b,.val (.lst (ao (fills p))),.val (.str [d]),j,h,f]:=by
     have F:=A4 aj [d] [46];by_cases y:d=46
     .subst y;simp![A4,opts,bC]
     .simp![A4,opts,y]
    have m:fu (.lst (ao (fills p)))=aa (ao (fills p)):=rfl;generalize ao (fills (p++[d]))=R1 at l;generalize ao (fills p)=R0 at l u m;generalize opts d=O at l u;refine(cT (tm u)).trans ?_;refine(cT (ε1:=[↥b,.val (.lst R0),.val (.str [d]),↥O,.own (.lst []),f]) (by simp![])).trans ?_;refine(cT (ε1:=[↥b,.val (.lst R0),.val (.str [d]),↥O,.own (.lst R1),w]) ?_).trans ?_
    .unfold dj bJ dV;simp only[JH,List.getElem?_cons_zero,R.bind_ok,m,b7];exact l
    .simp[bW,dM,R.bind])
  (b.map λc=>.str [c]) [↥b,.val (.lst (ao (fills []))),.none,.none,.none,.none] ⟨.none,.none,.none,.none,[],b,rfl,rfl,rfl⟩
 have D:rest=[]:=by cases rest with|nil=>rfl|cons=>cases A
 subst D;rw[fN]at g;rw[<-g]at n;have E:ao (fills [])=[.str []]:=rfl;rw[E]at n;have m:fu (.str b)=aa (b.map λc=>.str [c]):=rfl;generalize ao (fills b)=R1 at n;generalize (b.map λc=>PV.str [c])=B at n m;simp![sw,yaV,e_,dj,bJ,m,n]
theorem i5{t T:String}{b:Bool}{x:PV}(h:tI x=aa t)(e:eQ [] (.type t) (.type T)=aa b):fD [x,.raw (.ty T)]=aa (.bl b):=by show((tI x).bind λt=>(eQ [] (.type t) (.type T)).map λb=>PV.bl b)=_;rw[h,iR,e];rfl
theorem Qx:eQ [] (.type "int") (.type "int")=aa ah:=by decide +kernel
theorem SF:eQ [] (.type "int") (.type "bool")=aa aj:=by decide +kernel
theorem Nj:eQ [] (.type "bool") (.type "int")=aa ah:=by decide +kernel
theorem Ux:eQ [] (.type "bool") (.type "bool")=aa ah:=by decide +kernel
theorem Rf:eQ [] (.type "str") (.type "int")=aa aj:=by decide +kernel
theorem Pr:eQ [] (.type "str") (.type "str")=aa ah:=by decide +kernel
theorem La:eQ [] (.type "int") (.type "str")=aa aj:=by decide +kernel
theorem p_:eQ [] (.type "tuple") (.type "tuple")=aa ah:=by decide +kernel
theorem QQ:eQ [] (.type "int") (.type "tuple")=aa aj:=by decide +kernel
theorem N4:eQ [] (.type "NoneType") (.type "tuple")=aa aj:=by decide +kernel
theorem Q6:eQ [] (.type "str") (.type "tuple")=aa aj:=by decide +kernel
theorem GD:eQ [] (.type "list") (.type "tuple")=aa aj:=by decide +kernel
theorem LY(bs:List Bool):mW (bs.map .bl)=aa bs:=by
 induction bs with
 |nil=>rfl
 |cons b bs c=>show(mW (bs.map .bl)).map (b::·)=_;rw[c];rfl
theorem FT(bs:List Bool):sQ [.lst (bs.map .bl)]=aa (.bl (bs.all id)):=by show(mW (bs.map .bl)).map _=_;rw[LY];rfl
theorem OS(z s:Tx):ze a [↥z,↥s]=.ok (.val (.bl (z.all s.contains))) [↥z,↥s]:=by
 have b:=kf (cap:=[1]) (dt:=cF) (de:=(d2 (sh aj) (dV 0) (dV 1))) (ε:=[↥z,↥s]) (λ_=>ah) (λx=>match x with|.str [c]=>.bl (s.contains c)|_=>.non) (z.map λc=>.str [c])
  (by
   intro x h;obtain⟨c,_,rfl⟩:=cS.mp h;refine⟨by simp![dw,cP,bz,cF],λ_=>?_⟩;have g:sh aj (.str [c]) (.str s)=aa (.bl (s.contains c)):=by rw[<-LJ];simp[sh]
   simp![dw,cP,bz,g]) []
 have i:((z.map λc=>PV.str [c]).filter (λ_=>ah)).map (λx=>match x with|.str [c]=>PV.bl (s.contains c)|_=>.non)=(z.map s.contains).map .bl:=by rw[oj.mpr (by simp),et,et];rfl
 rw[gI,i]at b;have d:(z.map s.contains).all id=z.all s.contains:=by rw[wd];rfl
 generalize z.map s.contains=bs at b d;have f:=FT bs;rw[d]at f;simp![ze,yax,cV,bJ,fu,b,f]
def gw(w:Int)(s z:Tx):Bool:=decide ((z.length:Int)=w)&&z.all s.contains
theorem Mc(z s:Tx)(w:Int):o0 a [↥z,⇑w,↥s]=.ok (.val (.bl (gw w s z))) [↥z,⇑w,↥s]:=by
 have d:fD [.str z,.raw (.ty "str")]=aa (.bl ah):=i5 rfl Pr;have f:=OS (a:=a) z s;have c:bP [.str z]=aa (.int (z.length:Nat)):=rfl;have b:=kZ aj (z.length:Nat) w;unfold gw;by_cases h:((z.length:Nat):Int)=w
 .simp only[h,decide_true,Bool.xor_true,zT]at b;simp![o0,yaE,d,c,b,f,h]
 .simp only[h,decide_false,Bool.xor_false]at b;simp![o0,yaE,d,c,b,h]
theorem NL(i w:Int)(s:Tx):o0 a [⇑i,⇑w,↥s]=.ok (.val (.bl aj)) [⇑i,⇑w,↥s]:=by have b:fD [.int i,.raw (.ty "str")]=aa (.bl aj):=i5 rfl La;simp![o0,yaE,b]
theorem Ls(d c:List Tx):iK (ao d) (ao c)=aa (decide (d=c)):=by
 induction d generalizing c with
 |nil=>cases c <;> simp[ao,iK]
 |cons x d f=>
  cases c with
  |nil=>simp[ao,iK]
  |cons y c=>
   show(dH (.str x) (.str y)).bind (λa=>(iK (ao d) (ao c)).map λb=>a&&b)=_;rw[f];have:dH (.str x) (.str y)=aa (decide (x=y)):=by
    show aa (tS x == tS y)=_;by_cases h:x=y
    .subst h;simp
    .have:tS x≠tS y:=λz=>h (sB z);simp[h,this]
   rw[this];simp[n_]
theorem LO(b:List Tx):iw (ao b)=0:=by
 induction b with
 |nil=>rfl
 |cons x b c=>show max (kw (.str x)) (iw (ao b))=0;rw[c];rfl
theorem Tz(b:Bool)(c d:List Tx):Pu.eqT b (.lst (ao c)) (.lst (ao d))=aa (.bl (b^^decide (c=d))):=by show(if kw (.lst (ao c))<=8 then(iK (ao c) (ao d)).map (λk=>PV.bl (b^^k))else ae)=_;rw[if_pos (by show iw (ao c)+1<=8;rw[LO];decide),Ls];rfl
theorem Mw(b:List Tx)(w:Int)(s:Tx)(u:1<=b.length)(r:b.length<=9):km a [.val (.tup (ao b)),⇑w,↥s]=.ok (.val (.bl (b.all (gw w s)&&decide (b=aH b)))) [.val (.tup (ao b)),⇑w,↥s]:=by
 have h:fD [.tup (ao b),.raw (.ty "tuple")]=aa (.bl ah):=i5 rfl p_;have i:bP [.tup (ao b)]=aa (.int (b.length:Nat)):=by simp[bP,mF]
 have m:(1:Int)<=(b.length:Nat):=∅
 have l:((b.length:Nat):Int)<=9:=∅
 have d:=kf (cap:=[1,2]) (dt:=cF) (de:=(bF (a9 (o0 a) (gV (dV 0) (gV (dV 1) (gV (dV 2) (Pu.bL))))))) (ε:=[.val (.tup (ao b)),⇑w,↥s]) (λ_=>ah) (λx=>match x with|.str z=>.bl (gw w s z)|_=>.non) (ao b)
  (by intro x o;obtain⟨z,_,rfl⟩:=cS.mp o;refine⟨by simp![dw,cP,bz,cF],λ_=>?_⟩;have p:=Mc (a:=a) z s w;simp![dw,cP,bz,p]) []
 have q:((ao b).filter (λ_=>ah)).map (λx=>match x with|.str z=>PV.bl (gw w s z)|_=>.non)=(b.map (gw w s)).map .bl:=by rw[oj.mpr (by simp)];unfold ao;rw[et,et];rfl
 rw[gI,q]at d;have g:(b.map (gw w s)).all id=b.all (gw w s):=by rw[wd];rfl
 generalize b.map (gw w s)=bs at d g;have f:=FT bs;have n:b.length<=1000000:=∅
 have c:=Tz aj b (aH b);cases j:b.all (gw w s)with
 |false=>rw[g,j]at f;simp![km,yan,h,i,m,l,cV,bJ,fu,d,f]
 |true=>rw[g,j]at f;simp only[Dk]at c;simp![km,yan,h,i,m,l,cV,bJ,fu,d,f,sO,kq,uS,n,c]
theorem Us(b:List Tx)(w:Int)(s:Tx)(h:b.length=0\/9<b.length):km a [.val (.tup (ao b)),⇑w,↥s]=.ok (.val (.bl aj)) [.val (.tup (ao b)),⇑w,↥s]:=by
 have c:fD [.tup (ao b),.raw (.ty "tuple")]=aa (.bl ah):=i5 rfl p_;have d:bP [.tup (ao b)]=aa (.int (b.length:Nat)):=by simp[bP,mF]
 by_cases f:(1:Int)<=(b.length:Nat)
 .have g:¬((b.length:Nat):Int)<=9:=∅
  simp![km,yan,c,d,f,g]
 .simp![km,yan,c,d,f]
theorem Sv(i:Int):mY a [⇑i]=.ok (.val (.bl ah)) [⇑i]:=by have c:fD [.int i,.raw (.ty "int")]=aa (.bl ah):=i5 rfl Qx;have b:fD [.int i,.raw (.ty "bool")]=aa (.bl aj):=i5 rfl SF;simp![mY,yaC,c,b]
theorem Mg(b:Bool):mY a [.val (.bl b)]=.ok (.val (.bl aj)) [.val (.bl b)]:=by have d:fD [.bl b,.raw (.ty "int")]=aa (.bl ah):=i5 rfl Nj;have c:fD [.bl b,.raw (.ty "bool")]=aa (.bl ah):=i5 rfl Ux;simp![mY,yaC,d,c]
theorem M7(x:Tx):mY a [↥x]=.ok (.val (.bl aj)) [↥x]:=by have b:fD [.str x,.raw (.ty "int")]=aa (.bl aj):=i5 rfl Rf;simp![mY,yaC,b]
theorem FD(i:Int):nM a [⇑i]=.ok (.val (.bl (decide (1<=i/\i<=4)))) [⇑i]:=by
 have h:=Sv (a:=a) i;by_cases b:1<=i
 .by_cases c:i<=4
  .simp![nM,yaD,h,b,c]
  .simp![nM,yaD,h,b,c]
 .simp![nM,yaD,h,b]
theorem Gx{x:PV}(h:mY a [.val x]=.ok (.val (.bl aj)) [.val x]):nM a [.val x]=.ok (.val (.bl aj)) [.val x]:=by simp![nM,yaD,h]
def fR(s:Tx)(w:Int)(ls:List Tx):Bool:=decide (1<=w/\w<=4)&&(decide (1<=ls.length/\ls.length<=9)&&(ls.all (gw w s)&&decide (ls=aH ls)))
theorem Cu(s:Tx)(w:Int)(b:List Tx):gQ a [.val (.tup [.int w,.tup (ao b)]),↥s]=.ok (.val (.bl (fR s w b))) [.val (.tup [.int w,.tup (ao b)]),↥s]:=by
 have h:fD [.tup [.int w,.tup (ao b)],.raw (.ty "tuple")]=aa (.bl ah):=i5 rfl p_;have l:bP [.tup [.int w,.tup (ao b)]]=aa (.int 2):=rfl;have f:=kZ ah 2 2;simp only[decide_true,Dv,wx]at f;have j:bn (.tup [.int w,.tup (ao b)]) (.int 0)=aa (.int w):=rfl;have i:bn (.tup [.int w,.tup (ao b)]) (.int 1)=aa (.tup (ao b)):=rfl;have d:=FD (a:=a) w;unfold fR;by_cases c:1<=w/\w<=4
 .rw[decide_eq_true c]at d ⊢;by_cases g:1<=b.length/\b.length<=9
  .have m:=Mw (a:=a) b w s g.1 g.2;rw[decide_eq_true g];simp![gQ,yaB,h,l,f,j,i,d,m]
  .have m:=Us (a:=a) b w s ∅;rw[decide_eq_false g];simp![gQ,yaB,h,l,f,j,i,d,m]
 .rw[decide_eq_false c]at d ⊢;simp![gQ,yaB,h,l,f,j,i,d]
abbrev vw(w:Int)(b:List Tx):Bool:=fR bC w b
theorem AQ(w:Int)(b:List Tx):jt a [.val (.tup [.int w,.tup (ao b)])]=.ok (.val (.bl (vw w b))) [.val (.tup [.int w,.tup (ao b)])]:=by have c:=Cu (a:=a) bC w b;simp only[bC]at c;simp![jt,yaA,c];rfl
theorem HR{w:Int}{b:List Tx}(h:vw w b=ah):mD a [.val (.tup [.int w,.tup (ao b)])]=.ok (.val .non) [.val (.tup [.int w,.tup (ao b)])]:=by have c:=AQ (a:=a) w b;rw[h]at c;simp![mD,yaq,c]
theorem Good.vw{w:Nat}{d:List Tx}(g:Good bC w d)(n:1<=w)(m:w<=4)(h:d.Pairwise (λa b=>cX a b=ah)):vw w d=ah:=by
 have l:d.all (gw w bC)=ah:=by rw[lZ];intro x f;unfold gw;rw[g.len x f,decide_eq_true rfl,zG,lZ];intro c i;simpa using g.abc x f c i
 have j:decide (d=aH d)=ah:=decide_eq_true (s_ h).symm;show fR bC w d=ah;unfold fR;rw[l,j,decide_eq_true (show 1<=(w:Int)/\(w:Int)<=4 by lia),decide_eq_true (show 1<=d.length/\d.length<=9 from⟨g.some,g.few⟩)];rfl
theorem GA{x:PV}(h:gQ a [.val x,↥bC]=.ok (.val (.bl aj)) [.val x,↥bC]):jt a [.val x]=.ok (.val (.bl aj)) [.val x]:=by simp only[bC]at h;simp![jt,yaA,h]
theorem Eh{x:PV}(h:jt a [.val x]=.ok (.val (.bl aj)) [.val x]):mD a [.val x]=.er (.ref a.NoView) [.val x]:=by simp![mD,yaq,h,uX,bz]
theorem O9(b:List Tx):iB [] b=b.flatten:=by
 induction b with
 |nil=>rfl
 |cons x b c=>
  cases b with
  |nil=>simp[iB]
  |cons y b=>show x++[]++iB [] (y::b)=_;rw[c];simp
theorem Ri(b:List Tx):b.flatten.count 46=ef b:=by unfold ef;rw[List.count_flatten]
theorem A_(x:PV)(h:gQ a [.val x,↥gM]=.ok (.val (.bl aj)) [.val x,↥gM]):iZ a [.val x]=.ok (.val (.bl aj)) [.val x]:=by have b:bi (.str [46]) (.str [97,98,99])=aa (.str gM):=nu (by decide);simp![iZ,yaz,b,h]
theorem Ib(w:Int)(b:List Tx)(m:i9 [] b<=bo):iZ a [.val (.tup [.int w,.tup (ao b)])]=.ok (.val (.bl (fR gM w b&&decide (ef b<=6)))) [.val (.tup [.int w,.tup (ao b)])]:=by
 have d:=Cu (a:=a) gM w b;cases j:fR gM w b with
 |false=>rw[j]at d;exact A_ _ d
 |true=>
  rw[j]at d;have l:bi (.str [46]) (.str [97,98,99])=aa (.str gM):=nu (by decide);have g:bn (.tup [.int w,.tup (ao b)]) (.int 1)=aa (.tup (ao b)):=rfl;have h:xK [] [.tup (ao b)]=aa (.str b.flatten):=by show(io (ao b)).bind _=_;rw[uS,iR,if_pos m,O9]
  have i:xJ b.flatten [.str [46]]=aa (.int ((ef b:Nat):Int)):=by show aa (PV.int ((b.flatten.count 46:Nat):Int))=_;rw[Ri]
  by_cases c:ef b<=6
  .have f:((ef b:Nat):Int)<=6:=∅
   simp![iZ,yaz,l,d,g,u9,BC,h,i,c,f]
  .have f:¬((ef b:Nat):Int)<=6:=∅
   simp![iZ,yaz,l,d,g,u9,BC,h,i,c,f]
theorem QZ{x:PV}(h:iZ a [.val x]=.ok (.val (.bl ah)) [.val x]):oX a [.val x]=.ok (.val .non) [.val x]:=by simp![oX,yap,h]
theorem HY{x:PV}(h:iZ a [.val x]=.ok (.val (.bl aj)) [.val x]):oX a [.val x]=.er (.ref a.NoView) [.val x]:=by simp![oX,yap,h,uX,bz]
theorem xi(s:Tx){x:PV}{t:String}(h:tI x=aa t)(e:eQ [] (.type t) (.type "tuple")=aa aj):gQ a [.val x,↥s]=.ok (.val (.bl aj)) [.val x,↥s]:=by have b:=i5 (T:="tuple") h e;simp![gQ,yaB,b]
theorem F9(s:Tx){xs:List PV}(h:xs.length≠2):gQ a [.val (.tup xs),↥s]=.ok (.val (.bl aj)) [.val (.tup xs),↥s]:=by
 have c:fD [.tup xs,.raw (.ty "tuple")]=aa (.bl ah):=i5 rfl p_;have d:bP [.tup xs]=aa (.int (xs.length:Nat)):=rfl;have b:=kZ ah (xs.length:Nat) 2;have:¬((xs.length:Nat):Int)=2:=∅
 simp only[this,decide_false,Dv,zT]at b;simp![gQ,yaB,c,d,b]
theorem Et(s:Tx){x y:PV}(h:nM a [.val x]=.ok (.val (.bl aj)) [.val x]):gQ a [.val (.tup [x,y]),↥s]=.ok (.val (.bl aj)) [.val (.tup [x,y]),↥s]:=by have c:fD [.tup [x,y],.raw (.ty "tuple")]=aa (.bl ah):=i5 rfl p_;have f:bP [.tup [x,y]]=aa (.int 2):=rfl;have b:=kZ ah 2 2;simp only[decide_true,Dv,wx]at b;have d:bn (.tup [x,y]) (.int 0)=aa x:=rfl;simp![gQ,yaB,c,f,b,d,h]
theorem Hh(s:Tx){w:Int}{y:PV}(i:1<=w/\w<=4)(h:km a [.val y,⇑w,↥s]=.ok (.val (.bl aj)) [.val y,⇑w,↥s]):gQ a [.val (.tup [.int w,y]),↥s]=.ok (.val (.bl aj)) [.val (.tup [.int w,y]),↥s]:=by have d:fD [.tup [.int w,y],.raw (.ty "tuple")]=aa (.bl ah):=i5 rfl p_;have j:bP [.tup [.int w,y]]=aa (.int 2):=rfl;have c:=kZ ah 2 2;simp only[decide_true,Dv,wx]at c;have g:bn (.tup [.int w,y]) (.int 0)=aa (.int w):=rfl;have f:bn (.tup [.int w,y]) (.int 1)=aa y:=rfl;have b:=FD (a:=a) w;rw[decide_eq_true i]at b;simp![gQ,yaB,d,j,c,g,f,b,h]
theorem KR(s:Tx)(xs:List PV)(w:Int):km a [.val (.lst xs),⇑w,↥s]=.ok (.val (.bl aj)) [.val (.lst xs),⇑w,↥s]:=by have b:fD [.lst xs,.raw (.ty "tuple")]=aa (.bl aj):=i5 rfl GD;simp![km,yan,b]
theorem UG(s:Tx)(i w:Int):km a [.val (.tup [.int i]),⇑w,↥s]=.ok (.val (.bl aj)) [.val (.tup [.int i]),⇑w,↥s]:=by have b:fD [.tup [.int i],.raw (.ty "tuple")]=aa (.bl ah):=i5 rfl p_;have f:bP [.tup [.int i]]=aa (.int 1):=rfl;have d:=NL (a:=a) i w s;have c:sQ [.lst [.bl aj]]=aa (.bl aj):=rfl;simp![km,yan,b,f,cV,bJ,fu,ju,dw,cP,bz,cF,d,c]
theorem mC(s:Tx){w:Int}{ls:List Tx}(h:fR s w ls=aj):gQ a [.val (.tup [.int w,.tup (ao ls)]),↥s]=.ok (.val (.bl aj)) [.val (.tup [.int w,.tup (ao ls)]),↥s]:=by have:=Cu (a:=a) s w ls;rwa[h]at this
def oY:List PV:=[.non,.int 5,.str [50,58,32,97,98],.lst [.int 1,.tup [.str [97]]],.tup [.int 1,.tup []],.tup [.int 2,.tup [.str [97]]],.tup [.int 0,.tup [.str []]],.tup [.int 5,.tup [.str [97,97,97,97,97]]],.tup [.bl ah,.tup [.str [97]]],.tup [.int 1,.tup [.str [98],.str [97]]],.tup [.int 1,.tup (bu 10 (.str [97]))],.tup [.int 1,.tup [.str [100]]],.tup [.int 1,.tup [.str [65]]],.tup [.int 1,.lst [.str [97]]],.tup [.int 1,.tup [.int 1]],.tup [.int 1],.tup [.int 1,.tup [.str [97]],.int 1],.tup [.str [49],.tup [.str [97]]]]
theorem D9(s:Tx)(d:¬100∈s)(c:¬65∈s):∀x∈oY,gQ a [.val x,↥s]=.ok (.val (.bl aj)) [.val x,↥s]:=by
 intro x b;simp only[oY,bI,gX,or_false]at b;rcases b with rfl|rfl|rfl|rfl|rfl|rfl|rfl|rfl|rfl|rfl|rfl|rfl|rfl|rfl|rfl|rfl|rfl|rfl
 .exact xi s rfl N4
 .exact xi s rfl QQ
 .exact xi s rfl Q6
 .exact xi s rfl GD
 .exact mC s (w:=1) (ls:=[]) (by simp[fR])
 .exact mC s (w:=2) (ls:=[[97]]) (by simp[fR,gw])
 .exact mC s (w:=0) (ls:=[[]]) (by simp[fR])
 .exact mC s (w:=5) (ls:=[[97,97,97,97,97]]) (by simp[fR])
 .exact Et s (Gx (Mg ah))
 .refine mC s (w:=1) (ls:=[[98],[97]]) ?_;have:¬[[98],[97]]=aH [[98],[97]]:=λh=>by have r:=o5 [[98],[97]];rw[<-h]at r;simp[cX]at r;exact absurd r (by decide)
  simp[fR,this]
 .exact mC s (w:=1) (ls:=bu 10 [97]) (by simp[fR])
 .exact mC s (w:=1) (ls:=[[100]]) (by simp[fR,gw,d,c])
 .exact mC s (w:=1) (ls:=[[65]]) (by simp[fR,gw,d,c])
 .exact Hh s (by decide) (KR s _ _)
 .exact Hh s (by decide) (UG s _ _)
 .exact F9 s (by decide)
 .exact F9 s (by decide)
 .exact Et s (Gx (M7 _))
theorem TW:∀x∈oY,jt a [.val x]=.ok (.val (.bl aj)) [.val x]:=λx b=>GA (D9 bC (by decide) (by decide) x b)
theorem QM:∀x∈oY,iZ a [.val x]=.ok (.val (.bl aj)) [.val x]:=λx b=>A_ x (D9 gM (by decide) (by decide) x b)
theorem KB(b:List Int)(xs:List PV)(h:xs.length<=900):∃x∈oY,∃d,d.length<=xs.length+1/\zh a [cg b,.own (.lst xs)]=.ok (.val x) [cg b,.own (.lst d)]:=by
 obtain⟨x,g,c⟩:=yY (a:=a) b xs oY ∅ (by decide);refine⟨x,g,xs++[.int 0],by simp,?_⟩;have f:xR (.tup [.str [97]]) (.int 10)=aa (.tup (bu 10 (.str [97]))):=by show(if([PV.str [97]]≠[]/\(2:Int)<=10/\(10:Int)<=1000/\[PV.str [97]].length<=1000)then aa (PV.tup (bu (10:Int).toNat [PV.str [97]]).flatten)else ae)=_;rw[if_pos ⟨by simp,by decide,by decide,by decide⟩];rfl
 simp only[oY]at c;simp[zh,yaK,aK,cc,dB,d2,d1,dV,dC,dL,dF,ap,aC,cq,lC,bW,dy,a9,gV,gO,Pu.bL,d9,eP,cm,dR,f_,R.bind,aQ,bH,fk,bG,back,ge,mw,lG,uW,tF,sT,bF,iG,dE,br,dX,tJ,jA,zb,kb,tw,mZ,j_,lB,yG,nr,dD,eC,oQ,jv,oZ,bu,lU,bi,bo,f];simp at c;simp[aK,cc,dB,d2,d1,dV,dC,dL,dF,ap,aC,cq,lC,bW,dy,a9,gV,gO,Pu.bL,d9,eP,cm,dR,f_,R.bind,aQ,bH,fk,bG,back,ge,mw,lG,uW,tF,sT,bF,iG,dE,br,dX,tJ,jA,zb,kb,tw,mZ,j_,lB,yG,nr,dD,eC,oQ,jv,oZ,bu,lU,c]
end
def bE(m:List (Tx×Int))(x:Tx):Option Int:=(m.find? λp=>decide (p.1=x)).map (·.2)
def df(m:List (Tx×Int))(x:Tx)(n:Int):List (Tx×Int):=if(m.any λp=>decide (p.1=x))=ah then m.map (λp=>if p.1=x then(p.1,n)else p)else m++[(x,n)]
def dk(m:List (Tx×Int)):List (aF×PV):=m.map λp=>(Sum.inr (tS p.1),PV.int p.2)
theorem Cq(x y:Tx):((Sum.inr (tS x):aF)=Sum.inr (tS y))=(x=y):=propext ⟨λh=>sB (Sum.inr.inj h),λh=>by rw[h]⟩
theorem r_(m:List (Tx×Int))(x:Tx):jl (dk m) (Sum.inr (tS x))=(bE m x).map .int:=by
 induction m with
 |nil=>rfl
 |cons p m a=>
  show((List.find? _ ((Sum.inr (tS p.1),PV.int p.2)::dk m)).map (·.2))=_;unfold bE;rw[ln,ln];simp only[Cq];by_cases h:p.1=x
  .simp[h]
  .simp only[h,decide_false];exact a
theorem TK(m:List (Tx×Int))(x:Tx):((dk m).any λa=>decide (a.1=(Sum.inr (tS x):aF)))=m.any λp=>decide (p.1=x):=by unfold dk;rw[Dd];congr 1;funext p;simp only[rf,Cq]
theorem xI(m:List (Tx×Int))(x:Tx)(n:Int):oG (dk m) (Sum.inr (tS x)) (.int n)=dk (df m x n):=by
 unfold oG df;rw[TK];split
 .unfold dk;rw[et,et];refine j2 λp _=>?_;simp only[rf,Cq];split <;> rfl
 .unfold dk;simp
theorem Ho(m:List (Tx×Int)):qB (dk m)=aa (m.any λp=>decide (p.2≠0)):=by
 induction m with
 |nil=>rfl
 |cons p m a=>show(qB (dk m)).map _=_;rw[a];simp
theorem xv{m:List (Tx×Int)}{x:Tx}(h:(m.any λp=>decide (p.1=x))=aj):bE m x=ae:=by unfold bE;rw[Option.map_eq_none_iff,List.find?_eq_none];intro p a;have:=Ji.mp h p a;simpa using this
theorem N8{m:List (Tx×Int)}{x y:Tx}{n:Int}(h:(m.any λp=>decide (p.1=x))=aj):bE (m++[(x,n)]) y=if y=x then aa n else bE m y:=by
 have a:=xv h;unfold bE at a ⊢;rw[List.find?_append];by_cases e:y=x
 .subst e;rw[Option.map_eq_none_iff]at a;simp[a]
 .rw[if_neg e];have:¬x=y:=λz=>e z.symm;cases b:m.find? (λp=>decide (p.1=y))with
  |none=>simp[this]
  |some p=>simp
theorem Ln{m:List (Tx×Int)}{x y:Tx}{n:Int}:bE (m.map λp=>if p.1=x then(p.1,n)else p) y=(bE m y).map λz=>if y=x then n else z:=by
 induction m with
 |nil=>rfl
 |cons p m a=>
  unfold bE at a ⊢;rw[cn,ln,ln];by_cases h:p.1=x
  .rw[if_pos h];by_cases e:p.1=y
   .simp[e,show y=x from e.symm.trans h]
   .simp only[e,decide_false];exact a
  .rw[if_neg h];by_cases e:p.1=y
   .simp[e,show ¬y=x from λz=>h (e.trans z)]
   .simp only[e,decide_false];exact a
theorem IP{m:List (Tx×Int)}{x:Tx}(h:(m.any λp=>decide (p.1=x))=ah):∃n,bE m x=aa n:=by
 unfold bE;cases a:m.find? (λp=>decide (p.1=x))with
 |none=>rw[List.find?_eq_none]at a;obtain⟨p,c,b⟩:=l_.mp h;exact absurd b (a p c)
 |some p=>exact⟨_,rfl⟩
theorem mX(m:List (Tx×Int))(x y:Tx)(n:Int):bE (df m x n) y=if y=x then aa n else bE m y:=by
 unfold df;by_cases h:(m.any λp=>decide (p.1=x))=ah
 .rw[if_pos h,Ln];by_cases e:y=x
  .subst e;obtain⟨k,a⟩:=IP h;rw[a];simp
  .simp[e]
 .rw[if_neg h,N8 (JM.mpr h)]
structure oP(m:List (Tx×Int))(q:List Tx):Prop where
 nd:(m.map (·.1)).Nodup
 get:∀x,(bE m x).getD 0=(q.count x:Nat)
theorem oP.mem{m:List (Tx×Int)}{q:List Tx}(h:oP m q){p:Tx×Int}(a:p∈m):bE m p.1=aa p.2:=by
 have b:=h.nd;clear h
 induction m with
 |nil=>cases a
 |cons r m c=>
  unfold bE;rw[ln];rcases bI.mp a with rfl|a
  .simp
  .rw[cn,lj]at b;have:¬r.1=p.1:=λz=>b.1 (cS.mpr ⟨p,a,z.symm⟩);simp only[this,decide_false];exact c a b.2
theorem Fs{m:List (Tx×Int)}{x:Tx}{n:Int}:(df m x n).map (·.1)=if(m.any λp=>decide (p.1=x))=ah then m.map (·.1)else m.map (·.1)++[x]:=by
 unfold df;split
 .rw[et];refine j2 λp _=>?_;simp only[rf];split <;> rfl
 .simp
theorem qj{m:List (Tx×Int)}{x:Tx}{n:Int}(h:(m.map (·.1)).Nodup):((df m x n).map (·.1)).Nodup:=by
 rw[Fs];split
 .exact h
 .rename_i f;rw[C4];refine⟨h,by simp,λa g b c=>?_⟩;rw[jF]at c;subst c;rintro rfl;obtain⟨p,d,rfl⟩:=cS.mp g;exact f (l_.mpr ⟨p,d,by simp⟩)
theorem oP.any{m:List (Tx×Int)}{q:List Tx}(h:oP m q):(m.any λp=>decide (p.2≠0))=!q.isEmpty:=by
 cases q with
 |nil=>rw[J1,wx,Ji];intro p b;have a:=h.get p.1;rw[h.mem b]at a;simpa using a
 |cons x q=>
  rw[List.isEmpty_cons,zT,l_];have a:=h.get x;rw[List.count_cons_self]at a;cases e:m.find? (λp=>decide (p.1=x))with
  |none=>unfold bE at a;rw[e]at a;simp at a;lia
  |some p=>unfold bE at a;rw[e]at a;refine⟨p,List.mem_of_find?_eq_some e,?_⟩;simp at a;simp;lia
theorem oP.dec{m:List (Tx×Int)}{q:List Tx}(h:oP m q){x:Tx}(i:x∈q):∃n,bE m x=aa n/\0<n/\oP (df m x (n-1)) (q.erase x)/\bE (df m x (n-1)) x=aa (n-1)/\df (df m x (n-1)) x (n-1+1)=m:=by
 have a:=h.get x;have o:0<q.count x:=List.count_pos_iff.mpr i;cases e:bE m x with
 |none=>rw[e]at a;simp at a;lia
 |some n=>
  rw[e]at a;simp only[J7]at a;refine⟨n,rfl,∅,⟨qj h.nd,λy=>?_⟩,by rw[mX,if_pos rfl],?_⟩
  .rw[mX];by_cases c:y=x
   .subst c;rw[if_pos rfl,List.count_erase_self];simp only[J7];lia
   .rw[if_neg c,List.count_erase_of_ne (dN (dN c))];exact h.get y
  .have f:(m.any λp=>decide (p.1=x))=ah:=by
    cases z:(m.any λp=>decide (p.1=x))with
    |true=>rfl
    |false=>rw[xv z]at e;cases e
   have j:((df m x (n-1)).any λp=>decide (p.1=x))=ah:=by unfold df;rw[if_pos f];obtain⟨p,d,b⟩:=l_.mp f;refine l_.mpr ⟨_,cS.mpr ⟨p,d,rfl⟩,?_⟩;rw[decide_eq_true_eq]at b;rw[if_pos b];simpa using b
   have l:df (df m x (n-1)) x (n-1+1)=(m.map λp=>if p.1=x then(p.1,n-1)else p).map λp=>if p.1=x then(p.1,n-1+1)else p:=by show(if((df m x (n-1)).any λp=>decide (p.1=x))=ah then _ else _)=_;rw[if_pos j];unfold df;rw[if_pos f]
   rw[l,et];have:∀p∈m,((λp:Tx×Int=>if p.1=x then(p.1,n-1+1)else p) ∘ λp:Tx×Int=>if p.1=x then(p.1,n-1)else p) p=p:=by
    intro p d;simp only[rf];by_cases c:p.1=x
    .rw[if_pos c,if_pos c];have g:=h.mem d;rw[c,e]at g;cases g;rw[show p.2-1+1=p.2 by lia]
    .rw[if_neg c,if_neg c]
   rw[j2 this,List.map_id''];intro p;rfl
theorem oP.zero{m:List (Tx×Int)}{q:List Tx}(h:oP m q){x:Tx}(a:x∉q):(bE m x).getD 0=0:=by rw[h.get,UR a];rfl
section
variable{a:Ad}
theorem SU(b:List Tx)(G:b.length<=100):∃m,oP m b/\m.length<=b.length/\vS a [.val (.tup (ao b))]=.ok (.own (.dK (dk m))) [.val (.tup (ao b))]:=by
 obtain⟨w,v,m,g,l,rfl,f,j,B⟩:=nK (i:=2) (db:=(fQ 1 (dV 2) (d2 bi (iN 1 (dV 2) (dC (.int 0))) (dC (.int 1)))))
  (I:=λr h=>∃(m:List (Tx×Int)) (g:Slot) (l:List Tx),h=[.val (.tup (ao b)),.own (.dK (dk m)),g]/\oP m l/\m.length<=l.length/\∃q,b=l++q/\r=ao q)
  (by
   rintro x r h ⟨m,g,l,rfl,f,j,q,d,p⟩;cases q with
   |nil=>cases p
   |cons y q=>
    have n:x::r=.str y::ao q:=p;simp only[n_]at n;obtain⟨rfl,rfl⟩:=n;have F:m.length<bo:=by have:=congrArg lU d;simp at this;unfold bo;lia
    refine⟨[.val (.tup (ao b)),.own (.dK (dk (df m y ((bE m y).getD 0+1)))),↥y],?_,df m y ((bE m y).getD 0+1),_,l++[y],rfl,⟨qj f.nd,λz=>?_⟩,?_,q,by rw[d];simp,rfl⟩
    .have o:=r_ m y;have s:=xI m y ((bE m y).getD 0+1);have u:(dk m).length<bo:=by unfold dk;rw[cz];exact F
     have C:((bE m y).map PV.int).getD (.int 0)=.int ((bE m y).getD 0):=by cases bE m y <;> rfl
     generalize dk m=D at o s u;simp![fQ,iN,dm,ij,o,C,bi,u,s]
    .rw[mX];by_cases c:z=y
     .subst c;rw[if_pos rfl,Du,List.count_singleton_self];have:=f.get z;simp only[J7];lia
     .rw[if_neg c,Du,f.get z];have:[y].count z=0:=UR (by simpa using c);rw[this];rfl
    .have:(df m y ((bE m y).getD 0+1)).length<=m.length+1:=by
      unfold df;split <;> simp
     rw[dS,v9];lia)
  (ao b) [.val (.tup (ao b)),.own (.dK (dk [])),.none] ⟨[],.none,[],rfl,⟨by simp,λx=>by simp[bE]⟩,by simp,b,by simp,rfl⟩
 obtain⟨q,d,A⟩:=B;have:q=[]:=by cases q with|nil=>rfl|cons=>cases A
 subst this;rw[fN]at d;subst d;refine⟨m,f,j,?_⟩;have E:dk []=[]:=rfl;rw[E]at v;simp![vS,yau,sF,dj,bJ,fu,e_,v,k7]
theorem QL{t:Tx}{w:Nat}(b:w<=t.length+1)(c:1<=w):c_ (.str t) (aa ((t.length:Int)-w+1)) ae=aa (.str (t.drop (t.length+1-w))):=by show aa (PV.str (gh t _ ae))=_;rw[show((t.length:Int)-w+1)=((t.length+1-w:Nat):Int) by lia,Bl]
def qo(c:Nat):PV:=.str [c]
theorem GQ(w:Nat)(Q:1<=w):∀(r u:Nat) (t:Tx) (m:List (Tx×Int)) (q:List Tx) (b:List Tx),r<u->q.length=r->oP m q->w<=t.length+1->t.length+r<=1000->m.length<=1000->b.length+(iI w r t q).length<=bo -> o7 a u [↥t,⇑w,.own (.dK (dk m)),.own (.lst (ao b))]=.ok (.val .non) [↥t,⇑w,.own (.dK (dk m)),.own (.lst (ao (b++iI w r t q)))]
 |0,0,_,_,_,_,h,_,_,_,_,_,_=>absurd h ∅
 |r+1,0,_,_,_,_,h,_,_,_,_,_,_=>absurd h ∅
 |0,u+1,t,m,q,b,_,hq,hm,hw,ht,uu,hs=>by
  have M:q=[]:=og.mp hq;subst M;have d:=Ho m;rw[hm.any]at d;simp only[J1,wx]at d;have Y:(ao b).length<bo:=by rw[mF];simp only[iI,v9]at hs;lia
  have e:ao (b++iI w 0 t [])=ao b++[.str t]:=by simp[ao,iI]
  rw[e];generalize dk m=D at d;generalize ao b=L at Y;simp![o7,yam,vh,dm,d,Y]
 |r+1,u+1,t,m,q,b,hf,hq,hm,hw,ht,uu,hs=>by
  have cp:q.isEmpty=aj:=by cases q with|nil=>cases hq|cons=>rfl
  have d:=Ho m;rw[hm.any,cp]at d;simp only[zT]at d;have B:=QL (t:=t) hw Q;have bv:bP [.str t]=aa (.int (t.length:Nat)):=rfl;have oq:jT (.int (t.length:Nat)) (.int w)=aa (.int ((t.length:Int)-w)):=rfl;have g9:bi (.int ((t.length:Int)-w)) (.int 1)=aa (.int ((t.length:Int)-w+1)):=rfl
  let H:=t.drop (t.length+1-w)
  let f:=λc=>if H++[c]∈q then iI w r (t++[c]) (q.erase (H++[c]))else []
  have Z:iI w (r+1) t q=bC.flatMap f:=rfl;have hH:H.length<=1000:=by simp only[H,mL];lia
  obtain⟨ε',v,G,F,p,rest,s,kL,rfl⟩:=nK (i:=5) (db:=(aK (bW 6 (d2 bi (dV 4) (dV 5)))
 (cc (dB (d2 (dD λi j=>decide (j<i)) (iN 2 (dV 6) (dC (.int 0))) (dC (.int 0)))) (aK (fQ 2 (dV 6) (d2 jT (iO 2 (dV 6)) (dC (.int 1))))
 (aK (jA (a9 (o7 a u) (gV (d2 bi (dV 0) (dV 5)) (gV (dV 1) (gO 2 (gO 3 (Pu.bL)))))))
 (fQ 2 (dV 6) (d2 bi (iO 2 (dV 6)) (dC (.int 1)))))) (dX))))
   (I:=λJ P=>∃(G F:Slot) (p rest:Tx),bC=p++rest/\J=rest.map qo/\P=[↥t,⇑w,.own (.dK (dk m)),.own (.lst (ao (b++p.flatMap f))),↥H,G,F])
   (by
    rintro x J P ⟨G,F,p,rest,s,X,rfl⟩;cases rest with
    |nil=>cases X
    |cons c rest=>
     have Ki:x::J=qo c::rest.map qo:=X;simp only[n_]at Ki;obtain⟨rfl,rfl⟩:=Ki;have S:bi (.str H) (.str [c])=aa (.str (H++[c])):=nu (by simp[bo];lia);have mj:bi (.str t) (.str [c])=aa (.str (t++[c])):=nu (by simp[bo];lia);have UV:b.length+(p.flatMap f).length+(f c).length<=bo:=by rw[Z,s,zS,re,dS,dS]at hs;lia
     have T:ao (b++(p++[c]).flatMap f)=ao ((b++p.flatMap f)++f c):=by simp
     by_cases C:H++[c]∈q
     .obtain⟨n,O,g2,g3,g4,g5⟩:=hm.dec C;have l:f c=iI w r (t++[c]) (q.erase (H++[c])):=if_pos C;have y:=GQ w Q r u (t++[c]) (df m (H++[c]) (n-1)) (q.erase (H++[c])) (b++p.flatMap f) ∅ (by rw[Ds C,hq];rfl) g3 (by simp;lia) (by simp;lia)
       (by
        have:(df m (H++[c]) (n-1)).length=m.length:=by
         have:=congrArg lU (Fs (m:=m) (x:=H++[c]) (n:=n-1));have d:(m.any λp=>decide (p.1=H++[c]))=ah:=by
          cases z:(m.any λp=>decide (p.1=H++[c]))with
          |true=>rfl
          |false=>rw[xv z]at O;cases O
         rw[if_pos d]at this;simpa using this
        lia)
       (by rw[<-l,dS];exact UV)
      rw[<-l]at y;have o:=r_ m (H++[c]);rw[O]at o;have N:=xI m (H++[c]) (n-1);have g:=r_ (df m (H++[c]) (n-1)) (H++[c]);rw[g4]at g;have E:=xI (df m (H++[c]) (n-1)) (H++[c]) (n-1+1);rw[g5,show n-1+1=n by lia]at E;have A:(dk m).length<bo:=by unfold dk;rw[cz];unfold bo;lia
      have W:(dk (df m (H++[c]) (n-1))).length<bo:=by
       unfold dk;rw[cz];have:(df m (H++[c]) (n-1)).length<=m.length+1:=by unfold df;split <;> simp
       unfold bo;lia
      have gt:(0:Int)<n:=g2;refine⟨[↥t,⇑w,.own (.dK (dk m)),.own (.lst (ao (b++(p++[c]).flatMap f))),↥H,.val (.str [c]),↥(H++[c])],?_,_,_,p++[c],rest,by rw[s];simp,rfl,rfl⟩;rw[T];have s1:jT (.int n) (.int 1)=aa (.int (n-1)):=rfl;have s2:bi (.int (n-1)) (.int 1)=aa (.int n):=by show aa (PV.int (n-1+1))=_;congr 2;lia
      simp only[pD]at o g;generalize dk m=D at o N E A;generalize dk (df m (H++[c]) (n-1))=D2 at g N E y W;generalize ao (b++p.flatMap f)=L at y;generalize ao ((b++p.flatMap f)++f c)=L2 at y;clear_value H f;simp![qo,S,iN,iO,fQ,dm,ij,o,gt,s1,A,N,mj,y,g,s2,W,E]
     .have l:f c=[]:=if_neg C;have K:=hm.zero C;have o:=r_ m (H++[c]);have hg:((bE m (H++[c])).map PV.int).getD (.int 0)=.int 0:=by
       cases e:bE m (H++[c])with
       |none=>rfl
       |some k=>rw[e]at K;simp at K;subst K;rfl
      refine⟨[↥t,⇑w,.own (.dK (dk m)),.own (.lst (ao (b++(p++[c]).flatMap f))),↥H,.val (.str [c]),↥(H++[c])],?_,_,_,p++[c],rest,by rw[s];simp,rfl,rfl⟩;rw[T,l,fN];generalize dk m=D at o;generalize ao (b++p.flatMap f)=L;clear_value H f;simp![qo,S,iN,dm,ij,o,hg])
   (bC.map qo) [↥t,⇑w,.own (.dK (dk m)),.own (.lst (ao (b++([]:Tx).flatMap f))),↥H,.none,.none] ⟨.none,.none,[],bC,by simp,rfl,rfl⟩
  have fh:rest=[]:=by cases rest with|nil=>rfl|cons=>cases kL
  subst fh;rw[fN]at s;rw[Z];rw[<-s]at v;simp only[JZ,fN]at v;have eT:fu (.str [97,98,99])=aa (bC.map qo):=rfl;have U3:c_ (.str t) (aa ((t.length:Int)-w+1)) ae=aa (.str H):=B;generalize dk m=D at d v;generalize ao b=L at v;generalize ao (b++bC.flatMap f)=L2 at v;clear_value H f;simp![o7,yam,vh,dm,d,cO,cI,dv,bv,oq,g9,U3,e_,dj,bJ,eT,v]
end
section
variable{a:Ad}
abbrev a8(w:Nat)(ls:List Tx):PV:=.tup [.int w,.tup (ao ls)]
theorem GT{b:Type}(xs:List b):gh xs ae (aa (-1))=xs.dropLast:=by unfold gh;rw[show HT.sIx xs.length 0 ae=0 from rfl,List.drop_zero,Nat.sub_zero,J8];congr 1;show(HT.sIx xs.length xs.length (aa (-1)))=_;show(if(-1:Int)<0 then((-1:Int)+(xs.length:Int)).toNat else min (-1:Int).toNat xs.length)=_;rw[if_pos (by decide)];lia
theorem P7{w:Nat}{b:List Tx}(g:Good bC w b)(d:1<=w)(f:w<=4):(dU w b).length<=531441:=by rw[y6 d g.some λx c=>⟨g.len x c,g.abc x c⟩];refine c0 (Dt _ _) ?_;rw[Cf];exact c0 (J5 (by decide) (show w-1+b.length<=12 by have:=g.few;lia)) (by decide)
theorem Lb(V:PV)(d:List Tx)(w:Nat)(c b:Slot):ju [] cF (cO c_ (dV 0) dv (cI (d1 fV (dC (.int 1))))) (ao d) [] [.val V,⇑w,c,b]=.ok (ao (d.map pG)) [.val V,⇑w,c,b]:=by
 have i:=kf (cap:=[]) (dt:=cF) (de:=(cO c_ (dV 0) dv (cI (d1 fV (dC (.int 1)))))) (ε:=[.val V,⇑w,c,b]) (λ_=>ah) (λx=>match x with|.str z=>.str z.dropLast|_=>.non) (ao d)
  (by
   intro x f;obtain⟨z,_,rfl⟩:=cS.mp f;refine⟨by simp![dw,cP,bz,cF],λ_=>?_⟩;have g:c_ (.str z) ae (aa (-1))=aa (.str z.dropLast):=by show aa (PV.str (gh z ae (aa (-1))))=_;rw[GT]
   have h:fV (.int 1)=aa (.int (-1)):=rfl;simp![dw,cP,bz,cO,dv,cI,h,g]) []
 rw[i,gI,oj.mpr (by simp)];unfold ao;rw[et,et];rfl
theorem Ts{w:Nat}{c:List Tx}(g:Good bC w c)(v:1<=w)(F:w<=4)(W:c.Pairwise (λa b=>cX a b=ah)):nG a [.val (a8 w c)]=.ok (.own (.lst (ao (dU w c)))) [.val (a8 w c)]:=by
 have o:=HR (a:=a) (g.vw v F W);have A:bn (a8 w c) (.int 0)=aa (.int w):=rfl;have q:bn (a8 w c) (.int 1)=aa (.tup (ao c)):=rfl;obtain⟨m,B,J,n⟩:=SU (a:=a) c (by have:=g.few;lia);have O:m.length<=1000:=by have:=g.few;lia
 let hd:=aH (gB (c.map pG))
 have P:∀h∈hd,h.length=w-1:=λh K=>by have B:=(yi _ _).mp ((eM _).mem_iff.mp K);obtain⟨y,S,rfl⟩:=cS.mp B;rw[De,g.len y S]
 let f:=λh=>iI w c.length h c
 have M:dU w c=hd.flatMap f:=rfl;have C:=P7 g v F;obtain⟨N,j,z,p,rest,s,Q,rfl⟩:=nK (i:=3) (db:=(jA (uA (o7 a 12) (sK (dV 3) (sK (dV 1) (gN (iG (a9 (vS a) (gV (d2 bn (dV 0) (dC (.int 1))) (Pu.bL)))) (gO 2 (Pu.bL))))))))
  (I:=λr E=>∃(z:Slot) (p rest:List Tx),hd=p++rest/\r=ao rest/\E=[.val (a8 w c),⇑w,.own (.lst (ao (p.flatMap f))),z])
  (by
   rintro x r E ⟨z,p,rest,s,H,rfl⟩;cases rest with
   |nil=>cases H
   |cons h rest=>
    have G:x::r=.str h::ao rest:=H;simp only[n_]at G;obtain⟨rfl,rfl⟩:=G;have K:h.length=w-1:=P h (by rw[s];simp);have u:=GQ (a:=a) w v c.length 12 h m c (p.flatMap f) (by have:=g.few;lia) rfl B ∅ (by have:=g.few;lia) O (by rw[M,s,zS,re,dS,dS]at C;show(p.flatMap f).length+(f h).length<=bo;unfold bo;lia);refine⟨[.val (a8 w c),⇑w,.own (.lst (ao ((p++[h]).flatMap f))),↥h],?_,_,p++[h],rest,by rw[s];simp,rfl,rfl⟩;have Z:(p++[h]).flatMap f=p.flatMap f++iI w c.length h c:=by simp[f]
    rw[Z];generalize ao (p.flatMap f)=L at u;generalize ao (p.flatMap f++iI w c.length h c)=L2 at u;generalize dk m=D at u n;simp only[a8]at q ⊢;generalize ao c=T at n q;clear_value f hd;simp![uA,sK,gN,Gc,q,n,u])
  (ao hd) [.val (a8 w c),⇑w,.own (.lst (ao (([]:List Tx).flatMap f))),.none] ⟨.none,[],hd,by simp,rfl,rfl⟩
 have Y:rest=[]:=by cases rest with|nil=>rfl|cons=>cases Q
 subst Y;rw[fN]at s;rw[<-s,<-M]at j;simp only[JZ]at j;have d:=Lb (a8 w c) c w (.own (.lst [])) .none;have l:vF [.lst (ao (c.map pG))]=aa (.lst (ao hd)):=by show(io (ao _)).bind _=_;have h2:=g.few;rw[uS,iR,if_pos (zE (Ru _) (by rw[cz];lia))]
 have e0:ao ([]:List Tx)=[]:=rfl;rw[e0]at j;generalize ao (dU w c)=L at j;generalize ao hd=D at j l;generalize ao (c.map pG)=D0 at d l;simp only[a8]at o A q d j ⊢;generalize X:ao c=T at o A q d j;clear_value f hd;simp![nG,yaT,o,A,q,e_,dj,bJ,fu,cV,d,l,j,k7]
theorem S8{k:Nat}(h:k<=12):3^k<=531441:=c0 (J5 (by decide) h) (by decide)
end
section
variable{a:Ad}
def tkD(ks:List (List Tx)):List (eY×PV):=ks.map λk=>(eW k,.bl ah)
theorem txKey_inj{k l:List Tx}:eW k=eW l↔k=l:=by
 constructor
 .intro h;have b:=AU k;rw[h,AU]at b;exact(cY b).symm
 .rintro rfl;rfl
theorem put_tkD(ks:List (List Tx))(k:List Tx):rY (tkD ks) (eW k) (.bl ah)=tkD (addL ks k):=by
 have b:((tkD ks).any λc=>decide (c.1=eW k))=decide (k∈ks):=by
  unfold tkD;rw[Dd,lQ,l_,decide_eq_true_iff];constructor
  .rintro⟨l,d,h⟩;have:eW l=eW k:=of_decide_eq_true h;rw[<-txKey_inj.mp this];exact d
  .intro h;exact⟨k,h,decide_eq_true rfl⟩
 unfold rY addL;rw[b];by_cases h:k∈ks
 .rw[if_pos (decide_eq_true h),if_pos h];unfold tkD;rw[et];refine j2 λl _=>?_;by_cases e:eW l=eW k
  .simp[e]
  .simp[e]
 .rw[if_neg (by simpa using h),if_neg h];simp[tkD]
theorem tkey_tup(l:List Tx):o6 (.tup (ao l))=aa (eW l):=by
 show qa (ao l)=_
 induction l with
 |nil=>rfl
 |cons x l b=>show(ij (.str x)).bind (λk=>(qa (ao l)).map (k::·))=_;rw[b];rfl
theorem tkV_key(l:List Tx):lL (eW l)=.tup (ao l):=by unfold lL eW ao;rw[et];congr 1
theorem tkD_len(ks:List (List Tx)):(tkD ks).length=ks.length:=by simp[tkD]
theorem tkD_ok{ks:List (List Tx)}(h:∀k∈ks,∀x∈k,x.length<=bo):z9 (tkD ks)=ah:=by unfold z9 tkD;rw[wd,lZ];intro k c;show(eW k).all rW=ah;unfold eW;rw[wd,lZ];intro x b;show decide ((tS x).cps.toList.length<=bo)=ah;rw[k9];exact decide_eq_true (h k c x b)
theorem sort2t{ls:List Tx}(h:ls.length<=1000000):kq [.tup (ao ls)]=aa (.lst (ao (aH ls))):=by simp[kq,uS,h]
def cvB:ak->R aO:=xV 3 (dL kl (ap (dF (dL kq (ap (d2 vK (dV 4) (dL br (ap (dV 5) (aC)))) (aC)))) (aC))) (dC (.bl ah))
theorem cv_row(g f d h:Slot)(k:List Tx)(s:k.length<=20)(xs:List Tx)(b:List (List Tx))(u:b.length+xs.length<=900000):∃m,fX 5 cvB (ao xs) [g,f,d,.own (.dT (tkD b)),.val (.tup (ao k)),h]=.ok .next [g,f,d,.own (.dT (tkD ((xs.map λx=>aH (k++[x])).foldl addL b))),.val (.tup (ao k)),m]:=by
 induction xs generalizing b h with
 |nil=>exact⟨h,rfl⟩
 |cons x xs q=>
  have y:(addL b (aH (k++[x]))).length<=b.length+1:=by unfold addL;split <;> simp
  simp only[eG]at u;obtain⟨m,v⟩:=q (↥x) (addL b (aH (k++[x]))) ∅;refine⟨m,?_⟩;have l:vK (.tup (ao k)) (.tup [.str x])=aa (.tup (ao (k++[x]))):=by
   have e:ao (k++[x])=ao k++[.str x]:=by simp[ao]
   rw[e];cases k with
   |nil=>rfl
   |cons z k=>
    show bi (.tup (.str z::ao k)) (.tup [.str x])=_;have:(ao k).length+1+1<=1000:=by rw[mF];simp at s;lia
    simp[bi];constructor
    .lia
    .rfl
  have j:=sort2t (ls:=k++[x]) (by simp;lia);have o:kl [.lst (ao (aH (k++[x])))]=aa (.tup (ao (aH (k++[x])))):=rfl;have n:=tkey_tup (aH (k++[x]));have i:=put_tkD b (aH (k++[x]));have p:(tkD b).length<bo:=by rw[tkD_len];unfold bo;lia
  have w:cvB [g,f,d,.own (.dT (tkD b)),.val (.tup (ao k)),↥x]=.ok .next [g,f,d,.own (.dT (tkD (addL b (aH (k++[x]))))),.val (.tup (ao k)),↥x]:=by generalize ao (aH (k++[x]))=Y at j o n;generalize ao (k++[x])=Z at j l;generalize tkD (addL b (aH (k++[x])))=D2 at i;generalize eW (aH (k++[x]))=Ky at i n;generalize tkD b=D1 at i p;generalize ao k=B at l;simp![cvB,xV,l,j,o,ka,n,p,i]
  show(match cvB ([g,f,d,.own (.dT (tkD b)),.val (.tup (ao k)),h].set 5 (↥x))with
   |.ok .next c=>fX 5 cvB (ao xs) c
   |.ok .cont c=>fX 5 cvB (ao xs) c
   |.ok .brk c=>.ok .next c
   |r=>r)=_
  rw[show [g,f,d,.own (.dT (tkD b)),.val (.tup (ao k)),h].set 5 (↥x)=[g,f,d,.own (.dT (tkD b)),.val (.tup (ao k)),↥x] from rfl,w];exact v
def cvF(a:Ad):ak->R aO:=dj 5 (bJ (bF (a9 (sw a) (gV (dV 2) (Pu.bL))))) cvB
theorem cv_for(b:Tx)(n:b.length<=40)(j:b.count 46<=6)(f d g:Slot)(k:List Tx)(m:k.length<=20)(c:List (List Tx))(q:c.length<=800000):∃h,cvF a [f,d,↥b,.own (.dT (tkD c)),.val (.tup (ao k)),g]=.ok .next [f,d,↥b,.own (.dT (tkD ((nextW b k).foldl addL c))),.val (.tup (ao k)),h]:=by
 have i:=wtf_eq (a:=a) b n j;obtain⟨h,p⟩:=cv_row f d (↥b) g k m (fills b) c (by rw[fills_len];have:=pow6 j;lia);refine⟨h,?_⟩;have l:fu (.lst (ao (fills b)))=aa (ao (fills b)):=rfl;have o:(bJ (bF (a9 (sw a) (gV (dV 2) (Pu.bL))))) [f,d,↥b,.own (.dT (tkD c)),.val (.tup (ao k)),g]=.ok (ao (fills b)) [f,d,↥b,.own (.dT (tkD c)),.val (.tup (ao k)),g]:=by generalize ao (fills b)=FB at i l;simp![bJ,i,l]
 unfold cvF dj;rw[o];exact p
theorem cv_all(b:Tx)(C:b.length<=40)(s:b.count 46<=6)(V d c:Slot)(ks:List (List Tx))(q:∀k∈ks,k.length<=20/\∀x∈k,x.length<=50)(o:ks.length<=1000):∃j g,sH 4 1 (cvF a) [V,.own (.dT (tkD ks)),↥b,.own (.dT []),d,c]=.ok .next [V,.own (.dT (tkD ks)),↥b,.own (.dT (tkD (stepW ks b))),j,g]:=by
 have h:(tkD ks).map (λp=>lL p.1)=ks.map λk=>.tup (ao k):=by unfold tkD;rw[et];exact j2 λk _=>tkV_key k
 obtain⟨v,u,j,g,p,rest,f,y,rfl⟩:=nK (i:=4) (db:=cvF a)
  (I:=λr ε=>∃(d c:Slot) (p rest:List (List Tx)),ks=p++rest/\r=rest.map (λk=>PV.tup (ao k))/\ε=[V,.none,↥b,.own (.dT (tkD ((p.flatMap (nextW b)).foldl addL []))),d,c])
  (by
   rintro x r ε ⟨d,c,p,rest,f,m,rfl⟩;cases rest with
   |nil=>cases m
   |cons k rest=>
    simp only[cn,n_]at m;obtain⟨rfl,rfl⟩:=m;have z:((p.flatMap (nextW b)).foldl addL []).length<=800000:=by
     have l:=addF_len (p.flatMap (nextW b)) [];rw[next_len]at l;have E:=pow6 s;have D:p.length<=1000:=by rw[f]at o;simp at o;lia
     have H:p.length*3^b.count 46<=1000*729:=qY D E;simp at l;lia
    obtain⟨g,l⟩:=cv_for (a:=a) b C s V .none c k (q k (by rw[f];simp)).1 ((p.flatMap (nextW b)).foldl addL []) z;refine⟨_,l,.val (.tup (ao k)),g,p++[k],rest,by rw[f];simp,rfl,?_⟩;rw[zS,CY];simp)
  (ks.map λk=>.tup (ao k)) [V,.none,↥b,.own (.dT (tkD (([].flatMap (nextW b)).foldl addL []))),d,c] ⟨d,c,[],ks,rfl,rfl,rfl⟩
 have F:rest=[]:=by cases rest with|nil=>rfl|cons=>cases y
 subst F;rw[fN]at f;rw[<-f]at u;refine⟨j,g,?_⟩;have n:=tkD_ok (ks:=ks) λk w x A=>by have:=(q k w).2 x A;unfold bo;lia
 unfold sH;have B:ka [V,.own (.dT (tkD ks)),↥b,.own (.dT []),d,c] 1=aa (tkD ks):=rfl;rw[B];simp only[b7,R.bind_ok];rw[if_pos n,h];have G:fX 4 (cvF a) (ks.map λk=>.tup (ao k)) ([V,.own (.dT (tkD ks)),↥b,.own (.dT []),d,c].set 1 .none)=.ok .next [V,.none,↥b,.own (.dT (tkD ((ks.flatMap (nextW b)).foldl addL []))),j,g]:=u;rw[G];rfl
theorem ways_shape{d:List Tx}{k:List Tx}(h:k∈waysF d):k.length=d.length/\k.Pairwise (λa b=>cX a b=ah)/\∀x∈k,∃b∈d,Fit x b:=by
 obtain⟨xs,rfl,g⟩:=waysF_mem.mp h;refine⟨by rw[(eM xs).length_eq];exact qK g,o5 _,λx f=>?_⟩;have c:=(eM xs).mem_iff.mp f;clear f h
 induction g with
 |nil=>cases c
 |cons r _ i=>
  rcases bI.mp c with rfl|c
  .exact⟨_,by simp,r⟩
  .obtain⟨b,l,j⟩:=i c;exact⟨b,by simp[l],j⟩
theorem dots_app(c b:List Tx):ef (c++b)=ef c+ef b:=by simp[ef]
theorem dots_mem{c:List Tx}{b:Tx}(h:b∈c):b.count 46<=ef c:=by
 induction c with
 |nil=>cases h
 |cons x c d=>
  have e:ef (x::c)=x.count 46+ef c:=by simp[ef]
  rcases bI.mp h with rfl|h
  .lia
  .have:=d h;lia
def cvO(a:Ad):ak->R aO:=aK (dy 3 y4) (aK (sH 4 1 (cvF a)) (vA 1 3))
theorem d_clearing_views_def:yas a=aK (dy 1 (vB (dL br (aC)) (dC (.bl ah)))) (aK (λε=>e_ (dj 2 (bJ (d2 bn (dV 0) (dC (.int 1)))) (cvO a) ε)) (pY (cV [0] (bJ (dF (vq 1))) (cF) (dL br (ap (d2 bn (dV 1) (dC (.int 0))) (ap (dV 0) (aC))))))):=rfl
theorem clearing_eq{w:Nat}{d:List Tx}(g:Good gM w d)(w4:w<=4)(N:ef d<=6):vJ a [.val (a8 w d)]=.ok (.own (.lst ((fq (waysF d)).map λk=>prV (w,k)))) [.val (a8 w d)]:=by
 have s:=g.few;have W:=g.some;obtain⟨Q,q,n,m,j,h,p,rest,l,S,rfl⟩:=nK (i:=2) (db:=cvO a)
  (I:=λr ε=>∃(n m j h:Slot) (p rest:List Tx),d=p++rest/\r=ao rest/\ε=[.val (a8 w d),.own (.dT (tkD (waysF p))),n,m,j,h])
  (by
   rintro x r ε ⟨n,m,j,h,p,rest,l,M,rfl⟩;cases rest with
   |nil=>cases M
   |cons b rest=>
    have L:x::r=.str b::ao rest:=M;simp only[n_]at L;obtain⟨rfl,rfl⟩:=L;have y:b∈d:=by rw[l];simp
    have Y:=g.len b y;have G:b.count 46<=6:=c0 (dots_mem y) N;have E:ef p<=6:=by have:=dots_app p (b::rest);rw[<-l]at this;lia
    have T:=waysF_len p;have:=pow6 E;have D:p.length<=9:=by rw[l]at s;simp at s;lia
    obtain⟨K,P,o⟩:=cv_all (a:=a) b ∅ G (.val (a8 w d)) j h (waysF p) (λk u=>⟨by rw[(ways_shape u).1];lia,λx z=>by obtain⟨c,f,F⟩:=(ways_shape u).2.2 x z;rw[F.len,g.len c (by rw[l];simp[f])];lia⟩) ∅;have e:stepW (waysF p) b=waysF (p++[b]):=by unfold waysF;rw[CY];rfl
    rw[e]at o;refine⟨[.val (a8 w d),.own (.dT (tkD (waysF (p++[b])))),↥b,.none,K,P],?_,↥b,.none,K,P,p++[b],rest,by rw[l];simp,rfl,rfl⟩;generalize tkD (waysF (p++[b]))=D2 at o;generalize tkD (waysF p)=D1 at o;refine(cT (ε1:=[.val (a8 w d),.own (.dT D1),↥b,.own (.dT []),j,h]) (by simp![y4])).trans ?_;refine(cT o).trans ?_;simp[vA])
  (ao d) [.val (a8 w d),.own (.dT (tkD (waysF []))),.none,.none,.none,.none] ⟨.none,.none,.none,.none,[],d,rfl,rfl,rfl⟩
 have Z:rest=[]:=by cases rest with|nil=>rfl|cons=>cases S
 subst Z;rw[fN]at l;rw[<-l]at q;have A:bn (a8 w d) (.int 1)=aa (.tup (ao d)):=rfl;have C:bn (a8 w d) (.int 0)=aa (.int w):=rfl;have O:fu (.tup (ao d))=aa (ao d):=rfl;have H:xQ (tkD (waysF d))=aa (.lst ((fq (waysF d)).map oK)):=by
  have U5:(waysF d).length<=1000000/\∀k∈waysF d,k≠[]/\∀x∈k,x.length<=bo:=by
   refine⟨?_,λk u=>⟨?_,λx z=>?_⟩⟩
   .have:=waysF_len d;have:=pow6 N;lia
   .rintro rfl;have:=(ways_shape u).1;simp at this;lia
   .obtain⟨c,f,F⟩:=(ways_shape u).2.2 x z;rw[F.len,g.len c f];unfold bo;lia
  unfold xQ tkD;rw[Q0,iR,if_pos U5]
 have f:=kf (cap:=[0]) (dt:=cF) (de:=(dL br (ap (d2 bn (dV 1) (dC (.int 0))) (ap (dV 0) (aC))))) (ε:=[.val (a8 w d),.own (.dT (tkD (waysF d))),n,m,j,h]) (λ_=>ah) (λx=>.tup [.int w,x]) ((fq (waysF d)).map oK)
  (by intro x z;generalize a8 w d=V at C;generalize ((w:Nat):Int)=WI at C;refine⟨by simp![dw,cP,bz,cF],λ_=>?_⟩;simp![dw,cP,bz,C]) []
 rw[gI,oj.mpr (by simp),et]at f;have X:(fq (waysF d)).map ((λx=>PV.tup [.int w,x]) ∘ oK)=(fq (waysF d)).map λk=>prV (w,k):=rfl;rw[X]at f;have J:fu (.lst ((fq (waysF d)).map oK))=aa ((fq (waysF d)).map oK):=rfl;have o:(dy 1 (vB (dL br (aC)) (dC (.bl ah)))) [.val (a8 w d),.none,.none,.none,.none,.none]=.ok .next [.val (a8 w d),.own (.dT (tkD (waysF []))),.none,.none,.none,.none]:=by simp![vB,o6,qa,waysF,tkD,eW]
 have v:yas a [.val (a8 w d),.none,.none,.none,.none,.none]=.ok (.ret (.own (.lst ((fq (waysF d)).map λk=>prV (w,k))))) [.val (a8 w d),.own (.dT (tkD (waysF d))),n,m,j,h]:=by
  rw[d_clearing_views_def];refine(cT o).trans ?_;generalize (fq (waysF d)).map (λk=>prV (w,k))=RV at f;generalize (fq (waysF d)).map oK=RT at f H J;generalize tkD (waysF d)=D2 at q f H;generalize tkD (waysF [])=D0 at q;generalize ao d=B at q A O;generalize a8 w d=V at q A f;refine(cT (ε1:=[.val V,.own (.dT D2),n,m,j,h]) ?_).trans ?_
  .simp![e_,dj,bJ,A,O,q]
  .simp![pY,cV,bJ,vq,ka,H,J,f]
 simp[vJ,bH,fk,bG,bu,v,back,ge,aQ,R.bind]
end
end Sh
namespace Mx
open L2 Pu
def nN(z:Tx)(i:Nat):Nat:=z.getD (i % z.length) 0
def NU(z:Tx)(w:Nat):Tx:=((bu w z).flatten).take (z.length+w-1)
theorem len_sub{l m:List Tx}(a:l.Nodup)(h:∀x∈l,x∈m):l.length<=m.length:=by
 induction l generalizing m with
 |nil=>simp
 |cons x l d=>rw[lj]at a;have c:x∈m:=h x (by simp);have:=d (m:=m.erase x) a.2 λy b=>(List.mem_erase_of_ne (λz=>a.1 (by rw[<-z];exact b))).mpr (h y (by simp[b]));rw[Ds c]at this;have f:0<m.length:=List.length_pos_of_mem c;rw[eG];lia
end Mx
namespace Sh
open L2 Pu Mx
section
variable{a:Ad}
def EU(t:Tx)(v:Nat):List Tx:=(dY (t.length+1-v)).map λi=>(t.drop i).take v
def sC(b c:Nat):List Nat:=List.range' b (c-b)
def part(t:Tx)(i j:Nat):Tx:=(t.drop i).take (j-i)
def nN(b:List Tx)(i:Nat):Tx:=b.getD i []
def RJ(t:Tx)(s e g l:Nat):Tx:=t.take s++part t g l++part t e g++part t s e++t.drop l
def RX(t:Tx)(b:List Tx)(s g e:Nat):List Tx:=(sC (g+1) b.length).flatMap λl=>if nN b e=nN b l then [RJ t s e g l] else []
def Oa(t:Tx)(b:List Tx)(s g:Nat):List Tx:=(sC (s+1) (g+1)).flatMap λe=>RX t b s g e
theorem FL{i:Nat}{b:ak}{c:PO}(h:b[i]?=aa (.own c)):k7 i b=.ok (.ret (.own c)) (b.set i .none):=by unfold k7;rw[h]
theorem Qf{i:Nat}{d:ak->R (List PV)}{db:ak->R aO}{ε c b:ak}{xs:List PV}(h:d ε=.ok xs c)(f:fX i db xs c=.ok .next b):dj i d db ε=.ok .next b:=by unfold dj;rw[h];exact f
end
section
variable{a:Ad}
def Lr(t:Tx)(b:List Tx)(s:Nat):List Tx:=(sC (s+1) b.length).flatMap λg=>if nN b s=nN b g then Oa t b s g else []
def QF(t:Tx)(b:List Tx):List Tx:=(sC 0 b.length).flatMap λs=>Lr t b s
theorem AG{i:Nat}{ε:ak}{v:PV}(h:ε[i]?=aa (.val v)):dV i ε=.ok v ε:=by unfold dV;rw[h]
theorem PH{d:Type}{c:ak->R Bool}{d1 d2:ak->R d}{ε b:ak}(h:c ε=.ok ah b):cc c d1 d2 ε=d1 b:=by unfold cc;rw[h];rfl
theorem P0{d:Type}{c:ak->R Bool}{d1 d2:ak->R d}{ε b:ak}(h:c ε=.ok aj b):cc c d1 d2 ε=d2 b:=by unfold cc;rw[h];rfl
theorem qc{d:ak->R PV}{b:Bool}{ε ε1:ak}(h:d ε=.ok (.bl b) ε1):dB d ε=.ok b ε1:=by unfold dB;rw[h];rfl
def Kw(t:Tx)(m w:Nat):List Tx:=(sC 1 m).map λp=>NU ((t.take m).drop p++(t.take m).take p) w
def OP(t:Tx)(b:List Tx)(w:Nat):List Tx:=if nN b 0=nN b (b.length-1)then Kw t (b.length-1) w else []
def ME(t:Tx)(w:Nat):List Tx:=QF t (EU t (w-1))++OP t (EU t (w-1)) w
def L5(t:Tx)(m:Nat):List Tx:=(sC 1 m).map λp=>part (bu 3 (t.take m)).flatten p (p+t.length)
def kR(t:Tx)(b:List Tx):List Tx:=if nN b 0=nN b (b.length-1)then L5 t (b.length-1)else []
end
section
variable{a:Ad}
theorem Bj{t:ak->R Bool}{c:ak->R aO}{n:Nat}{d ε1 b:ak}(h:t d=.ok ah ε1)(f:c ε1=.ok .next b):i8 t c (n+1) d=i8 t c n b:=by rw[i8,h,R.bind_ok];simp only;rw[f]
theorem HV{t:ak->R Bool}{c:ak->R aO}{n:Nat}{b ε1:ak}(h:t b=.ok aj ε1):i8 t c (n+1) b=.ok .next ε1:=by rw[i8,h,R.bind_ok]
end
end Sh
namespace Mx
open L2 Pu
theorem o4{z:Tx}{w:Nat}(a:1<=w):(aT z w).length=z.length+1-w:=by rw[qE z w a];simp
def RP(t:Tx)(w:Nat):List Tx:=(eN t.length).filter λz=>(aT z w).isPerm (aT t w)
end Mx
namespace Sh
open L2 Pu Mx
abbrev gr(t:Tx)(v i:Nat):Tx:=(t.drop i).take v
theorem u5{t:Tx}{v i:Nat}:(gr t (v+1) i).take v=gr t v i:=by unfold gr;rw[List.take_take,Nat.min_eq_left ∅]
theorem A6{t:Tx}{v i:Nat}:(gr t (v+1) i).tail=gr t v (i+1):=by
 unfold gr;refine q8 λk=>?_;rw[List.getElem?_tail,JV,JV,C5,C5];by_cases h:k<v
 .rw[if_pos ∅,if_pos h];congr 1;lia
 .rw[if_neg ∅,if_neg h]
theorem Vf{t:Tx}{v:Nat}{x:Tx}:x∈aT t (v+1)↔∃i,i+v<t.length/\x=gr t (v+1) i:=by
 rw[qE _ _ ∅,cS];constructor
 .rintro⟨i,a,rfl⟩;exact⟨i,by have:=zv.mp a;lia,rfl⟩
 .rintro⟨i,a,rfl⟩;exact⟨i,zv.mpr ∅,rfl⟩
theorem IF{v:Nat}{y:Tx}:∀(k:Nat) (t:Tx) (i:Nat),((List.range' i k).map λj=>if gr t v j=y then 1 else 0).sum+(if gr t v (i+k)=y then 1 else 0)=((List.range' i k).map λj=>if gr t v (j+1)=y then 1 else 0).sum+(if gr t v i=y then 1 else 0)
 |0,t,i=>by simp
 |k+1,t,i=>by have a:=IF (v:=v) (y:=y) k t (i+1);rw[List.range'_succ,cn,cn,jg,jg,show i+(k+1)=i+1+k by lia];lia
end Sh
namespace Mx
open L2 Pu
theorem Fe(w:Nat):∀(s r t:Tx),nw w t (s++r)=nw w t s++nw w (t++s) r
 |[],r,t=>by simp[nw]
 |c::s,r,t=>by rw[wu,nw,nw,Fe w s r (t++[c]),wu,gH];rfl
end Mx
namespace Sh
open L2 Pu Mx
section
variable{v:Nat}
def oc(v:Nat)(M:List Tx)(y:Tx):Nat:=(M.map λx=>if x.take v=y then 1 else 0).sum
def ic(M:List Tx)(y:Tx):Nat:=(M.map λx=>if x.tail=y then 1 else 0).sum
theorem yn(M N:List Tx)(y:Tx):oc v (M++N) y=oc v M y+oc v N y:=by simp[oc]
theorem yW(M N:List Tx)(y:Tx):ic (M++N) y=ic M y+ic N y:=by simp[ic]
theorem uC{M N:List Tx}(h:M.Perm N)(y:Tx):oc v M y=oc v N y:=(h.map _).sum_nat
theorem uF{M N:List Tx}(h:M.Perm N)(y:Tx):ic M y=ic N y:=(h.map _).sum_nat
theorem Vc{M:List Tx}{y:Tx}:0<oc v M y↔∃x∈M,x.take v=y:=by
 unfold oc
 induction M with
 |nil=>simp
 |cons a M f=>
  rw[cn,jg];by_cases c:a.take v=y
  .rw[if_pos c];exact⟨λ_=>⟨a,by simp,c⟩,λ_=>∅⟩
  .rw[if_neg c,ud,f];exact⟨λ⟨x,d,b⟩=>⟨x,by simp[d],b⟩,λ⟨x,d,b⟩=>⟨x,(bI.mp d).resolve_left λe=>c (e ▸ b),b⟩⟩
theorem Vy{M:List Tx}{y:Tx}:0<ic M y↔∃x∈M,x.tail=y:=by
 unfold ic
 induction M with
 |nil=>simp
 |cons a M f=>
  rw[cn,jg];by_cases c:a.tail=y
  .rw[if_pos c];exact⟨λ_=>⟨a,by simp,c⟩,λ_=>∅⟩
  .rw[if_neg c,ud,f];exact⟨λ⟨x,d,b⟩=>⟨x,by simp[d],b⟩,λ⟨x,d,b⟩=>⟨x,(bI.mp d).resolve_left λe=>c (e ▸ b),b⟩⟩
abbrev en(v:Nat)(t:Tx):Tx:=t.drop (t.length-v)
abbrev b2(p:Prop)[Decidable p]:Nat:=if p then 1 else 0
theorem L8{t:Tx}:gr t v (t.length-v)=en v t:=by unfold gr en;exact pB (by simp;lia)
theorem vm{t:Tx}(h:v<=t.length)(y:Tx):oc v (aT t (v+1)) y+b2 (en v t=y)=ic (aT t (v+1)) y+b2 (t.take v=y):=by
 have:=IF (v:=v) (y:=y) (t.length-v) t 0;rw[ud,L8]at this;unfold oc ic b2;rw[qE _ _ ∅,et,et,show t.length+1-(v+1)=t.length-v by lia,List.range_eq_range'];have b:∀j,((λx:Tx=>if x.take v=y then 1 else 0) ∘ λi=>(t.drop i).take (v+1)) j=if gr t v j=y then 1 else 0:=λj=>by show(if(gr t (v+1) j).take v=_ then 1 else 0)=_;rw[u5]
 have a:∀j,((λx:Tx=>if x.tail=y then 1 else 0) ∘ λi=>(t.drop i).take (v+1)) j=if gr t v (j+1)=y then 1 else 0:=λj=>by show(if(gr t (v+1) j).tail=_ then 1 else 0)=_;rw[A6]
 rw[j2 λj _=>b j,j2 λj _=>a j];simpa[gr]using this
theorem Ef{t:Tx}(h:v<=t.length)(c:Nat):aT (t++[c]) (v+1)=aT t (v+1)++[en v t++[c]]:=by rw[Sq ∅,if_pos ∅];congr 2;rw[show t.length+1-(v+1)=t.length-v by lia,CS ∅];exact pB (by simp;lia)
theorem Ah{M:List Tx}(h:∀x∈M,x.length=v+1):∀(n:Nat) (t:Tx) (R:List Tx),R.length=n->v<=t.length->(aT t (v+1)++R).Perm M -> ∃b d,b.take v=t.take v/\v<=b.length/\(aT b (v+1)++d).Perm M/\∀x∈d,x.take v≠en v b
 |0,t,R,hn,ht,hp=>⟨t,R,rfl,ht,hp,λx a=>by rw[og.mp hn]at a;simp at a⟩
 |n+1,t,R,hn,ht,hp=>by
  by_cases q:∃x∈R,x.take v=en v t
  .obtain⟨x,a,e⟩:=q;have i:x.length=v+1:=h x (hp.mem_iff.mp (jd _ a));have f:x=en v t++[x.getLastD 0]:=by
    have g:x=x.take v++x.drop v:=(pA v x).symm;have m:∃c,x.drop v=[c]:=List.length_eq_one_iff.mp (by rw[mL];lia);obtain⟨c,j⟩:=m;rw[j]at g;have l:x.getLastD 0=c:=by rw[g];simp
    rw[l,<-e];exact g
   have o:(aT (t++[x.getLastD 0]) (v+1)++R.erase x).Perm M:=by rw[Ef ht,<-f,gH];exact(zJ _ (List.perm_cons_erase a).symm).trans hp
   obtain⟨b,d,u,s,r,p⟩:=Ah h n (t++[x.getLastD 0]) (R.erase x) (by rw[Ds a];lia) (by simp;lia) o;exact⟨b,d,by rw[u,J0 ht],s,r,p⟩
  .exact⟨t,R,rfl,ht,hp,λx a e=>q ⟨x,a,e⟩⟩
theorem TQ{M:List Tx}(i:∀x∈M,x.length=v+1)(a:∀y,oc v M y=ic M y){p:Tx}(s:p.length=v):∃t R,t.take v=p/\v<=t.length/\(aT t (v+1)++R).Perm M/\en v t=p/\(∀x∈R,x.take v≠p)/\∀y,oc v R y=ic R y:=by
 have m:aT p (v+1)=[]:=og.mp (by rw[o4 ∅];lia);obtain⟨t,R,d,g,b,h⟩:=Ah i M.length p M rfl ∅ (by rw[m];exact .refl _);rw[show p.take v=p from pB ∅]at d;have u:oc v R (en v t)=0:=by
  rcases J9 (oc v R (en v t))with q|q
  .exact q
  .obtain⟨x,l,j⟩:=Vc.mp q;exact absurd j (h x l)
 have c:=vm g (en v t);have r:=uC (v:=v) b (en v t);have o:=uF b (en v t);have w:=a (en v t);rw[yn]at r;rw[yW]at o;rw[d]at c;unfold b2 at c;rw[if_pos rfl]at c;have f:p=en v t:=by
  by_cases q:p=en v t
  .exact q
  .rw[if_neg q]at c;lia
 refine⟨t,R,d,g,b,f.symm,by rw[f];exact h,λy=>?_⟩;have d1:=vm g y;have d2:=uC (v:=v) b y;have n:=uF b y;rw[yn]at d2;rw[yW]at n;rw[d,<-f]at d1;have:=a y;lia
theorem PQ{t c:Tx}{i:Nat}(G:i+v<=t.length)(H:v<=c.length)(D:c.take v=gr t v i)(C:en v c=gr t v i):∃j,j.take v=t.take v/\v<=j.length/\en v j=en v t/\(aT j (v+1)).Perm (aT t (v+1)++aT c (v+1)):=by
 let T1:=t.take (i+v)
 let T2:=t.drop (i+v)
 have r:t=T1++T2:=(pA _ _).symm;have A:T1.length=i+v:=by simp[T1];lia
 have l:T1=t.take i++gr t v i:=by show t.take (i+v)=_;rw[List.take_add]
 have d:(gr t v i).length=v:=by unfold gr;simp;lia
 let s:=c.drop v
 have p:c=gr t v i++s:=by rw[<-D];exact(pA _ _).symm
 have m:∀(a b:Tx),(a++gr t v i).length=a.length+v->aT (a++gr t v i++b) (v+1)=aT (a++gr t v i) (v+1)++nw (v+1) (gr t v i) b:=by
  intro a b _;have o:∀(n:Nat) (b:Tx),b.length=n->aT (a++gr t v i++b) (v+1)=aT (a++gr t v i) (v+1)++nw (v+1) (gr t v i) b:=by
   intro n
   induction n with
   |zero=>intro b g;rw[og.mp g];simp[nw]
   |succ n B=>
    intro b g;obtain⟨h,x,rfl⟩:∃h x,b=h++[x]:=⟨b.dropLast,b.getLast (by intro e;rw[e]at g;simp at g),(List.dropLast_concat_getLast _).symm⟩
    rw[<-gH,Ef (by simp[d];lia),B h (by simp at g;lia),Fe,gH];congr 2;simp only[nw];congr 2;have e:(a++gr t v i++h).length-v=a.length+((gr t v i++h).length+1-(v+1)):=by simp[d];lia
    unfold en;rw[e,gH,List.drop_append];simp
  exact o b.length b rfl
 have z:aT t (v+1)=aT T1 (v+1)++nw (v+1) (gr t v i) T2:=by have:=m (t.take i) T2 (by simp[d]);rw[<-l]at this;rw[<-this,<-r]
 have y:aT (T1++s) (v+1)=aT T1 (v+1)++nw (v+1) (gr t v i) s:=by have:=m (t.take i) s (by simp[d]);rw[<-l]at this;exact this
 have w:aT c (v+1)=nw (v+1) (gr t v i) s:=by
  conv=>lhs;rw[p]
  exact Aw ∅ (by rw[d];lia)
 have q:T1++s=t.take i++c.take (c.length-v)++gr t v i:=by rw[l,gH,<-p,gH,<-C];congr 1;exact(pA _ _).symm
 have u:aT (T1++s++T2) (v+1)=aT (T1++s) (v+1)++nw (v+1) (gr t v i) T2:=by have:=m (t.take i++c.take (c.length-v)) T2 (by simp[d];lia);rw[<-q]at this;exact this
 refine⟨T1++s++T2,?_,by simp[A];lia,?_,?_⟩
 .rw[gH,J0 ∅];show(t.take (i+v)).take v=_;rw[List.take_take,Nat.min_eq_left ∅]
 .have f:∀a:Tx,en v (a++(gr t v i++T2))=en v (gr t v i++T2):=λa=>by
   unfold en;rw[List.drop_append,J4 (by simp[d];lia),gI];congr 1;simp[d];lia
  have F:T1++s++T2=(t.take i++c.take (c.length-v))++(gr t v i++T2):=by rw[q];simp only[gH]
  have E:t.take i++(gr t v i++T2)=t:=by rw[<-gH,<-l];exact r.symm
  have:=f (t.take i);rw[E]at this;rw[F,f,this]
 .rw[u,y,z,w,gH,gH];exact zJ _ List.perm_append_comm
def qf(v:Nat)(M:List Tx):Prop:=∀V:Tx->Prop,(∃x∈M,V (x.take v))->(∀x∈M,V (x.take v)\/V x.tail->V (x.take v)/\V x.tail)->∀x∈M,V (x.take v)
theorem QI{M:List Tx}(J:∀x∈M,x.length=v+1)(s:qf v M):∀(n:Nat) (t:Tx) (R:List Tx),R.length<=n->v<t.length->(aT t (v+1)++R).Perm M->(∀y,oc v R y=ic R y)->∃g,g.take v=t.take v/\v<g.length/\(aT g (v+1)).Perm M:=by
 intro n
 induction n with
 |zero=>intro t R H o b _;rw[og.mp (show R.length=0 by lia),fN]at b;exact⟨t,rfl,o,b⟩
 |succ n E=>
  intro t R H o b l;by_cases A:R=[]
  .rw[A,fN]at b;exact⟨t,rfl,o,b⟩
  .obtain⟨u,w⟩:=List.exists_mem_of_ne_nil R A;have f:∃i,i+v<=t.length/\∃x∈R,x.take v=gr t v i\/x.tail=gr t v i:=by
    refine J_ λno=>?_;have h:∀i,i+v<=t.length->∀x∈R,¬(x.take v=gr t v i\/x.tail=gr t v i):=λi d x a q=>no ⟨i,d,x,a,q⟩;have:=s (λy=>∃i,i+v<=t.length/\gr t v i=y)
     ⟨gr t (v+1) 0,b.mem_iff.mp (pc _ (Vf.mpr ⟨0,∅,rfl⟩)),0,∅,by rw[u5]⟩
     (λx a q=>by
      rcases kB.mp (b.mem_iff.mpr a)with a|a
      .obtain⟨j,W,rfl⟩:=Vf.mp a;exact⟨⟨j,∅,by rw[u5]⟩,⟨j+1,∅,by rw[A6]⟩⟩
      .rcases q with⟨i,d,e⟩|⟨i,d,e⟩
       .exact absurd (.inl e.symm) (h i d x a)
       .exact absurd (.inr e.symm) (h i d x a))
     u (b.mem_iff.mp (jd _ w))
    obtain⟨i,d,e⟩:=this;exact h i d u w (.inl e.symm)
   obtain⟨i,d,x,a,G⟩:=f;have D:0<oc v R (gr t v i):=by
    rcases G with q|q
    .exact Vc.mpr ⟨x,a,q⟩
    .rw[l];exact Vy.mpr ⟨x,a,q⟩
   have r:∀x∈R,x.length=v+1:=λx a=>J x (b.mem_iff.mp (jd _ a));obtain⟨c,R2,S,Q,m,P,O,N⟩:=TQ r l (p:=gr t v i) (by unfold gr;simp;lia);have Y:R2.length<R.length:=by
    have I:=m.length_eq;rw[dS]at I;rcases J9 (aT c (v+1)).length with z|z
    .rw[og.mp z,gI]at m;obtain⟨y,F,e⟩:=Vc.mp D;exact absurd e (O y (m.mem_iff.mpr F))
    .lia
   obtain⟨g,d1,d2,X,B⟩:=PQ d Q S P;have L:(aT g (v+1)++R2).Perm M:=by refine(B.append_right R2).trans ?_;rw[gH];exact(m.append_left _).trans b
   have T:v<g.length:=by have:=B.length_eq;rw[dS,o4 ∅,o4 ∅]at this;lia
   obtain⟨C,K,f2,f3⟩:=E g R2 ∅ T L N;exact⟨C,by rw[K,d1],f2,f3⟩
theorem Eu{M:List Tx}(d:∀x∈M,x.length=v+1)(f:qf v M){s0 e:Tx}(w:∃x∈M,x.take v=s0)(b:∀y,oc v M y+b2 (e=y)=ic M y+b2 (s0=y)):∃t,t.take v=s0/\v<t.length/\(aT t (v+1)).Perm M:=by
 obtain⟨i,j,m⟩:=w;have H:s0.length=v:=by rw[<-m,pi,d i j];lia
 have l:aT s0 (v+1)=[]:=og.mp (by rw[o4 ∅];lia);obtain⟨t,R,c,p,a,o⟩:=Ah d M.length s0 M rfl ∅ (by rw[l];exact .refl _);rw[show s0.take v=s0 from pB ∅]at c;have G:oc v R (en v t)=0:=by
  rcases J9 (oc v R (en v t))with q|q
  .exact q
  .obtain⟨x,A,z⟩:=Vc.mp q;exact absurd z (o x A)
 have g:=vm p (en v t);have E:=uC (v:=v) a (en v t);have D:=uF a (en v t);have n:=b (en v t);rw[yn]at E;rw[yW]at D;rw[c]at g;unfold b2 at g n;rw[if_pos rfl]at g;have r:e=en v t:=by
  by_cases q:e=en v t
  .exact q
  .rw[if_neg q]at n;lia
 have h:∀y,oc v R y=ic R y:=λy=>by have d1:=vm p y;have d2:=uC (v:=v) a y;have C:=uF a y;have I:=b y;rw[yn]at d2;rw[yW]at C;rw[c,<-r]at d1;lia
 have F:v<t.length:=by
  rcases Nat.lt_or_ge v t.length with q|q
  .exact q
  .have u:t=s0:=by rw[<-c];exact(pB ∅).symm
   subst u;rw[l,gI]at a;have:en v t=t:=by unfold en;rw[show t.length-v=0 by lia];rfl
   exact absurd (by rw[this];exact m) (o i (a.mem_iff.mpr j))
 obtain⟨s,B,f2,f3⟩:=QI d f R.length t R (bd _) F a h;exact⟨s,by rw[B,c],f2,f3⟩
theorem SL{t:Tx}{M:List Tx}(a:(aT t (v+1)).Perm M):qf v M:=by
 intro V ⟨x,g,b⟩ m z f;obtain⟨i,l,rfl⟩:=Vf.mp (a.mem_iff.mpr g);obtain⟨j,h,rfl⟩:=Vf.mp (a.mem_iff.mpr f);rw[u5]at b ⊢;have step:∀k,k+v<t.length->(V (gr t v k)↔V (gr t v (k+1))):=λk c=>by have:=m (gr t (v+1) k) (a.mem_iff.mp (Vf.mpr ⟨k,c,rfl⟩));rw[u5,A6]at this;exact⟨λq=>(this (.inl q)).2,λq=>(this (.inr q)).1⟩
 have all:∀k,k+v<t.length->(V (gr t v 0)↔V (gr t v k)):=λk=>by
  induction k with
  |zero=>intro _;exact l6
  |succ k d=>intro c;exact(d ∅).trans (step k ∅)
 exact(all j h).mp ((all i l).mpr b)
end
inductive WN(w:Nat):Nat->Tx->Tx->Prop
 |here (n:Nat) (t:Tx):WN w n t t
 |on {n:Nat}{t u z:Tx}:WN w n t u->z∈ME u w->WN w (n+1) t z
def Full(w:Nat)(t:Tx)(k:Nat):Prop:=∀z∈RP t w,WN w k t z
theorem BK{i:Nat}{db:ak->R aO}{c g:Type}(b:c->g->ak)(f:c->Tx->c)(P:c->Prop):∀(xs:List Tx) (a:c) (s:g),P a -> (∀x∈xs,∀a s,P a->P (f a x)/\∃d,db ((b a s).set i (↥x))=.ok .next (b (f a x) d))->∃d,fX i db (ao xs) (b a s)=.ok .next (b (xs.foldl f a) d)/\P (xs.foldl f a)
 |[],a,s,h,_=>⟨s,rfl,h⟩
 |x::xs,a,s,h,step=>by obtain⟨o,l,q⟩:=step x (by simp) a s h;obtain⟨j,p,n⟩:=BK b f P xs (f a x) l o λy m=>step y (by simp[m]);refine⟨j,?_,n⟩;show fX i db (.str x::ao xs) _=_;rw[fX,q];exact p
abbrev ks(m:List (Tx×Int)):List Tx:=m.map (·.1)
theorem Pd(m:List (Tx×Int))(z:Tx):(m.any λp=>decide (p.1=z))=decide (z∈ks m):=by rw[lQ,l_,decide_eq_true_eq,cS];exact⟨λ⟨p,b,a⟩=>⟨p,b,of_decide_eq_true a⟩,λ⟨p,b,a⟩=>⟨p,b,decide_eq_true a⟩⟩
theorem tf(m:List (Tx×Int))(z:Tx):(bE m z).isSome=decide (z∈ks m):=by
 rw[<-Pd];cases h:m.any λp=>decide (p.1=z)with
 |false=>rw[xv h];rfl
 |true=>obtain⟨n,e⟩:=IP h;rw[e];rfl
theorem Qe(m:List (Tx×Int)):(dk m).length=m.length:=by simp[dk]
theorem ES{i:Nat}{db de:ak->R PV}{c b a:ak}{z:Tx}{n:Int}{m:List (Tx×Int)}(j:de c=.ok (.int n) b)(l:db b=.ok (.str z) a)(d:∃x,dm b i=aa x)(g:dm a i=aa (dk m))(h:m.length<bo):fQ i db de c=.ok .next (a.set i (.own (.dK (dk (df m z n))))):=by unfold fQ;obtain⟨x,f⟩:=d;rw[j,R.bind_ok,f];simp only[b7,R.bind_ok];rw[l,R.bind_ok,g];simp only[b7,R.bind_ok];show(aQ (aa (Sum.inr (tS z))) a).bind _=_;simp only[b7,R.bind_ok];rw[Qe,if_pos h,xI]
theorem Hk{i:Nat}{db:ak->R PV}{ε ε1:ak}{z:Tx}{n:Int}{m:List (Tx×Int)}(a:∃x,dm ε i=aa x)(f:db ε=.ok (.str z) ε1)(c:dm ε1 i=aa (dk m))(d:bE m z=aa n):iO i db ε=.ok (.int n) ε1:=by unfold iO;obtain⟨x,b⟩:=a;rw[b];simp only[b7,R.bind_ok];rw[f,R.bind_ok,c];simp only[b7,R.bind_ok];show aQ (jl (dk m) (.inr (tS z))) ε1=_;rw[r_,d];rfl
def cJ(ks:List Tx):List (aF×PV):=ks.map λx=>(Sum.inr (tS x),PV.bl ah)
def fJ(ks:List Tx)(x:Tx):List Tx:=if x∈ks then ks else ks++[x]
theorem Vs{ks:List Tx}{x z:Tx}:z∈fJ ks x↔z∈ks\/z=x:=by
 unfold fJ;by_cases c:x∈ks
 .rw[if_pos c];exact⟨.inl,λh=>h.elim id λe=>e ▸ c⟩
 .rw[if_neg c];simp
theorem Fm{ks:List Tx}{x:Tx}(h:ks.Nodup):(fJ ks x).Nodup:=by
 unfold fJ;by_cases c:x∈ks
 .rw[if_pos c];exact h
 .rw[if_neg c];exact C4.mpr ⟨h,by simp,λa f b d e=>by simp at d;subst d;subst e;exact c f⟩
theorem yO{ks:List Tx}{x:Tx}:ks.length<=(fJ ks x).length/\(x∉ks->ks.length<(fJ ks x).length):=by
 unfold fJ;by_cases c:x∈ks
 .rw[if_pos c];exact⟨bd _,λq=>absurd c q⟩
 .rw[if_neg c];simp
theorem Fp(ks:List Tx)(x:Tx):((cJ ks).any λa=>decide (a.1=(Sum.inr (tS x):aF)))=decide (x∈ks):=by
 unfold cJ;rw[Dd,lQ,l_,decide_eq_true_eq];constructor
 .rintro⟨z,c,b⟩;have:=of_decide_eq_true b;rw[<-sB (Sum.inr.inj this)];exact c
 .intro h;exact⟨x,h,by simp⟩
theorem Sx(ks:List Tx)(x:Tx):oG (cJ ks) (Sum.inr (tS x)) (.bl ah)=cJ (fJ ks x):=by
 unfold oG fJ;rw[Fp];by_cases c:x∈ks
 .rw[decide_eq_true c,if_pos rfl,if_pos c];unfold cJ;rw[et];refine j2 λz _=>?_;simp only[rf];split
  .rfl
  .rfl
 .rw[decide_eq_false c,if_neg (by simp),if_neg c];unfold cJ;simp
theorem OV(ks:List Tx)(x:Tx):(jl (cJ ks) (Sum.inr (tS x))).isSome=decide (x∈ks):=by rw[<-Fp];unfold jl;rw[Ju,List.isSome_find?]
theorem xN(ks:List Tx):(cJ ks).length=ks.length:=by simp[cJ]
theorem A7{neg:Bool}{i:Nat}{db:ak->R PV}{ε ε1:ak}{z:Tx}{ks:List Tx}(b:db ε=.ok (.str z) ε1)(a:dm ε1 i=aa (cJ ks)):jm neg i db ε=.ok (.bl (neg^^decide (z∈ks))) ε1:=by unfold jm;rw[b,R.bind_ok,a];simp only[b7,R.bind_ok];show aQ (aa (PV.bl (neg^^(jl (cJ ks) (.inr (tS z))).isSome))) ε1=_;rw[OV];rfl
theorem Ek{i:Nat}{db de:ak->R PV}{ε b a:ak}{z:Tx}{ks:List Tx}(h:de ε=.ok (.bl ah) b)(j:db b=.ok (.str z) a)(c:∃x,dm b i=aa x)(f:dm a i=aa (cJ ks))(g:ks.length<bo):fQ i db de ε=.ok .next (a.set i (.own (.dK (cJ (fJ ks z))))):=by unfold fQ;obtain⟨x,d⟩:=c;rw[h,R.bind_ok,d];simp only[b7,R.bind_ok];rw[j,R.bind_ok,f];simp only[b7,R.bind_ok];show(aQ (aa (Sum.inr (tS z))) a).bind _=_;simp only[b7,R.bind_ok];rw[xN,if_pos g,Sx]
def rS(ks:List Tx)(x:Tx):List Tx:=if x.dropLast∈ks\/x.tail∈ks then fJ (fJ ks x.dropLast) x.tail else ks
theorem OJ{ks:List Tx}{x z:Tx}(h:z∈ks):z∈rS ks x:=by
 unfold rS;split
 .exact Vs.mpr (.inl (Vs.mpr (.inl h)))
 .exact h
theorem Ha:∀(a:List Tx) {ks:List Tx}{z:Tx},z∈ks->z∈a.foldl rS ks
 |[],_,_,h=>h
 |x::a,_,_,h=>Ha a (OJ h)
theorem Ea{ks:List Tx}{x:Tx}(h:ks.Nodup):(rS ks x).Nodup:=by
 unfold rS;split
 .exact Fm (Fm h)
 .exact h
theorem D5:∀(a:List Tx) {ks:List Tx},ks.Nodup->(a.foldl rS ks).Nodup
 |[],_,h=>h
 |x::a,_,h=>D5 a (Ea h)
theorem Bp(ks:List Tx)(x:Tx):ks.length<=(rS ks x).length:=by
 unfold rS;split
 .exact c0 yO.1 yO.1
 .exact bd _
theorem uG:∀(a ks:List Tx),ks.length<=(a.foldl rS ks).length
 |[],ks=>bd _
 |x::a,ks=>c0 (Bp ks x) (uG a (rS ks x))
theorem y_:∀(a ks:List Tx),(a.foldl rS ks).length=ks.length->∀x∈a,x.dropLast∈ks\/x.tail∈ks->x.dropLast∈ks/\x.tail∈ks
 |[],_,_,x,b=>by simp at b
 |y::a,ks,h,x,b=>by
  rw[jf]at h;have n:=Bp ks y;have m:=uG a (rS ks y);have d:(rS ks y).length=ks.length:=∅
  have same:rS ks y=ks/\(y.dropLast∈ks\/y.tail∈ks->y.dropLast∈ks/\y.tail∈ks):=by
   unfold rS at d ⊢;by_cases c:y.dropLast∈ks\/y.tail∈ks
   .rw[if_pos c]at d ⊢;have l:=yO (ks:=ks) (x:=y.dropLast);have i:=yO (ks:=fJ ks y.dropLast) (x:=y.tail);have g:y.dropLast∈ks:=J_ λq=>by have:=l.2 q;lia
    have j:fJ ks y.dropLast=ks:=by unfold fJ;rw[if_pos g]
    rw[j]at i d ⊢;have f:y.tail∈ks:=J_ λq=>by have:=i.2 q;lia
    exact⟨by unfold fJ;rw[if_pos f],λ_=>⟨g,f⟩⟩
   .rw[if_neg c];exact⟨rfl,λq=>absurd q c⟩
  rcases bI.mp b with rfl|b
  .exact same.2
  .rw[same.1]at h;exact y_ a ks h x b
theorem EG{V:Tx->Prop}:∀(b ks:List Tx),(∀x∈b,V x.dropLast\/V x.tail->V x.dropLast/\V x.tail)->(∀z∈ks,V z)->∀z∈b.foldl rS ks,V z
 |[],_,_,h,z,d=>h z d
 |x::b,ks,g,h,z,d=>by
  refine EG b (rS ks x) (λy a=>g y (by simp[a])) (λy a=>?_) z d;unfold rS at a;split at a
  .rename_i c;have f:=g x (by simp) (c.imp (h _) (h _));rcases Vs.mp a with a|rfl
   .rcases Vs.mp a with a|rfl
    .exact h y a
    .exact f.1
   .exact f.2
  .exact h y a
theorem An:∀(a ks:List Tx),(a.foldl rS ks).length=ks.length->a.foldl rS ks=ks
 |[],_,_=>rfl
 |y::a,ks,h=>by
  rw[jf]at h ⊢;have l:=Bp ks y;have j:=uG a (rS ks y);have e:rS ks y=ks:=by
   have i:(rS ks y).length=ks.length:=∅
   have b:=y_ [y] ks i y (by simp);unfold rS;by_cases c:y.dropLast∈ks\/y.tail∈ks
   .obtain⟨g,f⟩:=b c;have d:fJ ks y.dropLast=ks:=by unfold fJ;rw[if_pos g]
    rw[if_pos c,d];unfold fJ;rw[if_pos f]
   .rw[if_neg c]
  rw[e]at h ⊢;exact An a ks h
def fo(a:List Tx):List Tx:=a.map pG++a.map List.tail
theorem I_{b ks:List Tx}(h:∀z∈ks,z∈fo b){x:Tx}(c:x∈b):∀z∈rS ks x,z∈fo b:=λz a=>by
 unfold rS at a;split at a
 .rcases Vs.mp a with a|rfl
  .rcases Vs.mp a with a|rfl
   .exact h z a
   .exact pc _ (cS.mpr ⟨x,c,rfl⟩)
  .exact jd _ (cS.mpr ⟨x,c,rfl⟩)
 .exact h z a
structure Rch(ls ks:List Tx):Prop where
 nd:ks.Nodup
 sub:∀z∈ks,z∈fo ls
 start:∀x r,ls=x::r->x.dropLast∈ks
 least:∀V:Tx->Prop,(∀x∈ls,V x.dropLast\/V x.tail->V x.dropLast/\V x.tail)->(∀x r,ls=x::r->V x.dropLast)->∀z∈ks,V z
theorem Rch.few{ls ks:List Tx}(h:Rch ls ks):ks.length<=2*ls.length:=by have:=len_sub h.nd h.sub;unfold fo at this;simp at this;lia
theorem Rch.next{ls ks:List Tx}(h:Rch ls ks):Rch ls (ls.foldl rS ks):=by
 refine⟨D5 ls h.nd,?_,λx r e=>Ha ls (h.start x r e),λV c g=>EG ls ks c (h.least V c g)⟩;have a:∀(l:List Tx) (ks:List Tx),(∀x∈l,x∈ls)->(∀z∈ks,z∈fo ls)->∀z∈l.foldl rS ks,z∈fo ls:=by
  intro l
  induction l with
  |nil=>exact λks _ h=>h
  |cons x l d=>exact λks b h=>d (rS ks x) (λy f=>b y (by simp[f])) (I_ h (b x (by simp)))
 exact a ls ks (λ_ h=>h) h.sub
section
variable{a:Ad}
theorem zg(x:Tx):c_ (.str x) ae (aa (-1))=aa (.str x.dropLast):=by show aa (PV.str (gh x ae (aa (-1))))=_;rw[GT]
theorem Er(x:Tx):c_ (.str x) (aa 1) ae=aa (.str x.tail):=by show aa (PV.str (gh x (aa ((1:Nat):Int)) ae))=_;rw[Bl,List.drop_one]
def vi:ak->R PV:=cO c_ (dV 3) (dv) (cI (d1 fV (dC (.int 1))))
def uO:ak->R PV:=cO c_ (dV 3) (cI (dC (.int 1))) (dv)
def rI:ak->R aO:=cc (j_ (dB (jm aj 1 vi)) (dB (jm aj 1 uO))) (aK (fQ 1 vi (dC (.bl ah))) (fQ 1 uO (dC (.bl ah)))) (dX)
def rC:ak->R Bool:=dB (d2 (dD λi j=>decide (i<j)) (dV 2) (nD 1))
def rB:ak->R aO:=aK (bW 2 (nD 1)) (dj 3 (bJ (dV 0)) rI)
theorem SY:yaQ a=aK (dy 1 (uK (cO c_ (d2 bn (dV 0) (dC (.int 0))) (dv) (cI (d1 fV (dC (.int 1))))) (dC (.bl ah)))) (aK (bW 2 (dC (.int 0))) (aK (λb=>e_ (i8 rC rB 1000 b)) (k7 1))):=rfl
def dP(W:PV)(ks:List Tx)(n:Nat)(b:Slot):ak:=[.val W,.own (.dK (cJ ks)),⇑n,b]
theorem Il(W:PV)(ks:List Tx)(n:Nat)(x:Tx):vi (dP W ks n (↥x))=.ok (.str x.dropLast) (dP W ks n (↥x)):=by have h:=zg x;have b:fV (.int 1)=aa (.int (-1)):=rfl;simp[vi,dP,cO,dv,cI,dV,d1,dC,R.bind,aQ,b,lG,h]
theorem GH(W:PV)(ks:List Tx)(n:Nat)(x:Tx):uO (dP W ks n (↥x))=.ok (.str x.tail) (dP W ks n (↥x)):=by have h:=Er x;simp[uO,dP,cO,dv,cI,dV,dC,R.bind,aQ,lG,h]
theorem Je(W:PV)(d:List Tx)(u:d.length<=100)(q:fu W=aa (ao d))(ks:List Tx)(h:Rch d ks)(n:Nat)(f:Slot):∃j,dj 3 (bJ (dV 0)) rI (dP W ks n f)=.ok .next (dP W (d.foldl rS ks) n j):=by
 obtain⟨j,e,_⟩:=BK (i:=3) (db:=rI) (λks f=>dP W ks n f) rS (λks=>ks.Nodup/\∀z∈ks,z∈fo d) d ks f ⟨h.nd,h.sub⟩
  (by
   rintro x p ks f ⟨g,l⟩;refine⟨⟨Ea g,I_ l p⟩,↥x,?_⟩;have r:ks.length<=200:=by have:=len_sub g l;unfold fo at this;simp at this;lia
   have o:=qc (A7 (neg:=aj) (i:=1) (Il W ks n x) rfl);have m:=qc (A7 (neg:=aj) (i:=1) (GH W ks n x) rfl);rw[Dk]at o m;have b:j_ (dB (jm aj 1 vi)) (dB (jm aj 1 uO)) (dP W ks n (↥x))=.ok (decide (x.dropLast∈ks\/x.tail∈ks)) (dP W ks n (↥x)):=by
    unfold j_;rw[o,R.bind_ok];by_cases c:x.dropLast∈ks
    .rw[decide_eq_true c,decide_eq_true (.inl c)]
    .rw[decide_eq_false c];simp only;rw[m];congr 1;simp[c]
   show rI (dP W ks n (↥x))=_;unfold rI rS;by_cases c:x.dropLast∈ks\/x.tail∈ks
   .rw[decide_eq_true c]at b;rw[if_pos c];refine(PH b).trans ?_;have g:=Ek (i:=1) (de:=dC (.bl ah)) (ε:=dP W ks n (↥x)) rfl (Il W ks n x) ⟨_,rfl⟩ rfl (by unfold bo;lia);refine(cT g).trans ?_;have s:(fJ ks x.dropLast).length<=ks.length+1:=by unfold fJ;split <;> simp
    exact Ek (i:=1) (de:=dC (.bl ah)) (ε:=dP W (fJ ks x.dropLast) n (↥x)) rfl (GH W (fJ ks x.dropLast) n x) ⟨_,rfl⟩ rfl (by unfold bo;lia)
   .rw[decide_eq_false c]at b;rw[if_neg c];exact(P0 b).trans rfl)
 refine⟨j,Qf ?_ e⟩;unfold bJ;rw[AG (v:=W) rfl,R.bind_ok,q];rfl
theorem xx(W:PV)(ks:List Tx)(n:Nat)(b:Slot):rC (dP W ks n b)=.ok (decide (n<ks.length)) (dP W ks n b):=by
 have d:nD 1 (dP W ks n b)=.ok (.int (ks.length:Nat)) (dP W ks n b):=by show R.ok (PV.int ((cJ ks).length:Nat)) _=_;rw[xN]
 have c:decide ((n:Int)<(ks.length:Nat))=decide (n<ks.length):=by
  by_cases q:n<ks.length
  .rw[decide_eq_true q,decide_eq_true ∅]
  .rw[decide_eq_false q,decide_eq_false ∅]
 refine qc (yC (x:=.int n) (AG rfl) d ?_);show aa (PV.bl (decide ((n:Int)<(ks.length:Nat))))=_;rw[c]
theorem Rj(W:PV)(b:List Tx)(v:b.length<=100)(w:fu W=aa (ao b)):∀(j:Nat) (ks:List Tx) (n l:Nat) (g:Slot),2*b.length<=ks.length+j->j+2<=l->n<ks.length->Rch b ks -> ∃d r i,Rch b d/\(∀x∈b,x.dropLast∈d\/x.tail∈d->x.dropLast∈d/\x.tail∈d)/\i8 rC rB l (dP W ks n g)=.ok .next (dP W d r i):=by
 intro j
 induction j with
 |zero=>
  intro ks n l g G F s h;obtain⟨f,rfl⟩:∃f,l=f+1+1:=⟨l-2,∅⟩
  obtain⟨i,e⟩:=Je W b v w ks h ks.length g;have I:=h.few;have H:=h.next.few;have D:=uG b ks;have p:=An b ks ∅;have u:=y_ b ks (by rw[p]);rw[p]at e;have c:=xx W ks n g;rw[decide_eq_true s]at c;have m:rB (dP W ks n g)=.ok .next (dP W ks ks.length i):=by
   unfold rB;have k:bW 2 (nD 1) (dP W ks n g)=.ok .next (dP W ks ks.length g):=by refine tm (x:=.int (ks.length:Nat)) (ε1:=dP W ks n g) ?_;show R.ok (PV.int ((cJ ks).length:Nat)) _=_;rw[xN]
   exact(cT k).trans e
  have o:=xx W ks ks.length i;rw[decide_eq_false (fL _)]at o;exact⟨ks,ks.length,i,h,u,(Bj c m).trans (HV o)⟩
 |succ j E=>
  intro ks n l g G F s h;obtain⟨f,rfl⟩:∃f,l=f+1:=⟨l-1,∅⟩
  obtain⟨i,e⟩:=Je W b v w ks h ks.length g;have D:=uG b ks;have c:=xx W ks n g;rw[decide_eq_true s]at c;have m:rB (dP W ks n g)=.ok .next (dP W (b.foldl rS ks) ks.length i):=by
   unfold rB;have k:bW 2 (nD 1) (dP W ks n g)=.ok .next (dP W ks ks.length g):=by refine tm (x:=.int (ks.length:Nat)) (ε1:=dP W ks n g) ?_;show R.ok (PV.int ((cJ ks).length:Nat)) _=_;rw[xN]
   exact(cT k).trans e
  by_cases q:(b.foldl rS ks).length=ks.length
  .have p:=An b ks q;have u:=y_ b ks q;rw[p]at m;obtain⟨y,rfl⟩:∃y,f=y+1:=⟨f-1,∅⟩
   have o:=xx W ks ks.length i;rw[decide_eq_false (fL _)]at o;exact⟨ks,ks.length,i,h,u,(Bj c m).trans (HV o)⟩
  .obtain⟨d,r,z,C,B,A⟩:=E (b.foldl rS ks) ks.length f i ∅ ∅ ∅ h.next;exact⟨d,r,z,C,B,(Bj c m).trans A⟩
theorem Tg(W:PV)(x:Tx)(r:List Tx)(v:r.length<=50)(s:fu W=aa (ao (x::r)))(d:bn W (.int 0)=aa (.str x)):∃ks,Rch (x::r) ks/\(∀y∈x::r,y.dropLast∈ks\/y.tail∈ks->y.dropLast∈ks/\y.tail∈ks)/\oW a [.val W]=.ok (.own (.dK (cJ ks))) [.val W]:=by
 have u:Rch (x::r) [x.dropLast]:=⟨by simp,λz b=>by simp at b;rw[b];simp[fo],λy q e=>by cases e;simp,λV _ o z b=>by simp at b;rw[b];exact o x r rfl⟩
 obtain⟨ks,n,f,i,h,m⟩:=Rj W (x::r) (by simp;lia) s (2*(x::r).length) [x.dropLast] 0 1000 .none ∅ (by simp;lia) (by simp) u;refine⟨ks,i,h,?_⟩;have g:=zg x;have p:fV (.int 1)=aa (.int (-1)):=rfl;have l:dy 1 (uK (cO c_ (d2 bn (dV 0) (dC (.int 0))) (dv) (cI (d1 fV (dC (.int 1))))) (dC (.bl ah))) [.val W,.none,.none,.none]=.ok .next [.val W,.own (.dK (cJ [x.dropLast])),.none,.none]:=by simp[dy,uK,cO,dv,cI,d2,d1,dV,dC,R.bind,aQ,d,p,lG,g,ij,cJ]
 have j:bW 2 (dC (.int 0)) [.val W,.own (.dK (cJ [x.dropLast])),.none,.none]=.ok .next (dP W [x.dropLast] 0 .none):=rfl;have c:yaQ a [.val W,.none,.none,.none]=.ok (.ret (.own (.dK (cJ ks)))) [.val W,.none,⇑n,f]:=by rw[SY];refine(cT l).trans ?_;refine(cT j).trans ?_;refine(cT (d1:=λε=>e_ (i8 rC rB 1000 ε)) (by show e_ _=_;rw[m];rfl)).trans ?_;exact FL rfl
 unfold oW;generalize yaQ a=D at c;generalize cJ ks=A at c;simp[bH,fk,bG,bu,c,back,aQ,R.bind,ge]
theorem Q4{v:Nat}{x:Tx}{r ks:List Tx}(o:∀y∈x::r,y.length=v+1)(h:Rch (x::r) ks)(p:∀y∈x::r,y.dropLast∈ks\/y.tail∈ks->y.dropLast∈ks/\y.tail∈ks):(∀y∈x::r,y.dropLast∈ks)↔qf v (x::r):=by
 have d:∀y∈x::r,y.take v=y.dropLast:=λy b=>by rw[J8,o y b];rfl
 constructor
 .intro j V ⟨y,b,i⟩ m z g;have l:∀y∈x::r,V y.dropLast\/V y.tail->V y.dropLast/\V y.tail:=λy b q=>by have:=m y b;rw[d y b]at this;exact this q
  rw[d y b]at i;rw[d z g];by_cases c:V x.dropLast
  .exact h.least V l (λ_ _ e=>by cases e;exact c) _ (j z g)
  .have:=h.least (λq=>¬V q) (λy b q=>by
     have:=l y b;refine⟨λn=>?_,λn=>?_⟩
     .rcases q with q|q
      .exact q n
      .exact q (this (.inl n)).2
     .rcases q with q|q
      .exact q (this (.inr n)).1
      .exact q n) (λ_ _ e=>by cases e;exact c) _ (j y b)
   exact absurd i this
 .intro f y b;have:=f (λq=>q∈ks) ⟨x,by simp,by rw[d x (by simp)];exact h.start x r rfl⟩ (λy b q=>by rw[d y b]at q ⊢;exact p y b q) y b;rwa[d y b]at this
end
def lF(m:List (Tx×Int))(x:Tx):List (Tx×Int):=df (df m x.dropLast ((bE m x.dropLast).getD 0+1)) x.tail ((bE (df m x.dropLast ((bE m x.dropLast).getD 0+1)) x.tail).getD 0-1)
def b1(p:Prop)[Decidable p]:Int:=if p then 1 else 0
theorem QG(m:List (Tx×Int))(x y:Tx):(bE (lF m x) y).getD 0=(bE m y).getD 0+b1 (x.dropLast=y)-b1 (x.tail=y):=by
 unfold lF b1;rw[mX,mX,mX];by_cases b:y=x.tail
 .subst b;by_cases a:x.tail=x.dropLast
  .rw[if_pos rfl,if_pos a,if_pos a.symm,if_pos rfl,a];simp
  .rw[if_pos rfl,if_neg a,if_neg (dN a),if_pos rfl];simp
 .rw[if_neg b,if_neg (dN b)];by_cases a:y=x.dropLast
  .subst a;rw[if_pos rfl,if_pos rfl];simp
  .rw[if_neg a,if_neg (dN a)];simp
theorem FM(m:List (Tx×Int))(x y:Tx):y∈ks (lF m x)↔y∈ks m\/y=x.dropLast\/y=x.tail:=by
 have k:∀(m:List (Tx×Int)) (z:Tx),z∈ks m↔(bE m z).isSome=ah:=λm z=>by rw[tf,decide_eq_true_eq]
 rw[k,k];unfold lF;generalize (bE (df m x.dropLast ((bE m x.dropLast).getD 0+1)) x.tail).getD 0-1=n1;generalize (bE m x.dropLast).getD 0+1=n2;rw[mX,mX];by_cases b:y=x.tail
 .rw[if_pos b];simp[b]
 .rw[if_neg b];by_cases a:y=x.dropLast
  .rw[if_pos a];simp[a]
  .rw[if_neg a];simp[b,a]
def bw(a:List Tx):List (Tx×Int):=a.foldl lF []
def exc(ls:List Tx)(y:Tx):Int:=(ls.map λx=>b1 (x.dropLast=y)-b1 (x.tail=y)).sum
theorem Gs:∀(a:List Tx) (m:List (Tx×Int)) (y:Tx),(bE (a.foldl lF m) y).getD 0=(bE m y).getD 0+exc a y
 |[],m,y=>by simp[exc]
 |x::a,m,y=>by rw[jf,Gs a,QG];simp only[exc,cn,jg];lia
theorem Ca(a:List Tx)(y:Tx):(bE (bw a) y).getD 0=exc a y:=by unfold bw;rw[Gs];show 0+_=_;lia
theorem HN:∀(a:List Tx) (m:List (Tx×Int)) (y:Tx),y∈ks (a.foldl lF m)↔y∈ks m\/y∈fo a
 |[],m,y=>by simp[fo]
 |x::a,m,y=>by
  rw[jf,HN a,FM];simp only[fo,cn,kB,bI];constructor
  .rintro((h|h|h)|h|h)
   .exact .inl h
   .exact .inr (.inl (.inl h))
   .exact .inr (.inr (.inl h))
   .exact .inr (.inl (.inr h))
   .exact .inr (.inr (.inr h))
  .rintro(h | (h|h)|h|h)
   .exact .inl (.inl h)
   .exact .inl (.inr (.inl h))
   .exact .inr (.inl h)
   .exact .inl (.inr (.inr h))
   .exact .inr (.inr h)
theorem xo(a:List Tx)(y:Tx):y∈ks (bw a)↔y∈fo a:=by unfold bw;rw[HN];simp
theorem FX:∀(a:List Tx) (m:List (Tx×Int)),(ks m).Nodup->(ks (a.foldl lF m)).Nodup
 |[],_,h=>h
 |x::a,m,h=>FX a _ (qj (qj h))
theorem Ia(a:List Tx):(ks (bw a)).Nodup:=FX a [] (by simp)
section
variable{a:Ad}
def vN:ak->R PV:=cO c_ (dV 2) (dv) (cI (d1 fV (dC (.int 1))))
def tK:ak->R PV:=cO c_ (dV 2) (cI (dC (.int 1))) (dv)
def xB:ak->R aO:=aK (fQ 1 vN (d2 bi (iN 1 vN (dC (.int 0))) (dC (.int 1)))) (fQ 1 tK (d2 jT (iN 1 tK (dC (.int 0))) (dC (.int 1))))
theorem Pm:yav a=aK (dy 1 (sF)) (aK (λb=>e_ (dj 2 (bJ (dV 0)) xB b)) (k7 1)):=rfl
def iD(W:PV)(m:List (Tx×Int))(s:Slot):ak:=[.val W,.own (.dK (dk m)),s]
theorem EY(W:PV)(m:List (Tx×Int))(x:Tx):vN (iD W m (↥x))=.ok (.str x.dropLast) (iD W m (↥x)):=by have h:=zg x;have b:fV (.int 1)=aa (.int (-1)):=rfl;simp[vN,iD,cO,dv,cI,dV,d1,dC,R.bind,aQ,b,lG,h]
theorem II(W:PV)(m:List (Tx×Int))(x:Tx):tK (iD W m (↥x))=.ok (.str x.tail) (iD W m (↥x)):=by have h:=Er x;simp[tK,iD,cO,dv,cI,dV,dC,R.bind,aQ,lG,h]
theorem D7{i:Nat}{db:ak->R PV}{b:ak}{z:Tx}{m:List (Tx×Int)}{n:Int}(d:db b=.ok (.str z) b)(c:dm b i=aa (dk m)):iN i db (dC (.int n)) b=.ok (.int ((bE m z).getD n)) b:=by
 unfold iN;rw[c];simp only[b7,R.bind_ok];rw[d,R.bind_ok];show((R.ok (PV.int n) b).bind _)=_;rw[R.bind_ok,c];simp only[b7,R.bind_ok];show aQ (aa ((jl (dk m) (.inr (tS z))).getD (.int n))) b=_;rw[r_];cases bE m z <;> rfl
theorem S_(W:PV)(b:List Tx)(L:b.length<=100)(E:fu W=aa (ao b)):r9 a [.val W]=.ok (.own (.dK (dk (bw b)))) [.val W]:=by
 obtain⟨f,e,_⟩:=BK (i:=2) (db:=xB) (λm s=>iD W m s) lF (λm=>(ks m).Nodup/\∀z∈ks m,z∈fo b) b [] .none ⟨by simp,by simp⟩
  (by
   rintro x r m s ⟨j,g⟩;have y:(ks (lF m x)).Nodup:=qj (qj j);have u:x.dropLast∈fo b:=by unfold fo;exact pc _ (Dw r)
   have B:x.tail∈fo b:=by unfold fo;exact jd _ (Dw r)
   refine⟨⟨y,λz l=>?_⟩,↥x,?_⟩
   .rcases(FM m x z).mp l with h|h|h
    .exact g z h
    .rw[h];exact u
    .rw[h];exact B
   .have few:∀{q:List (Tx×Int)},(ks q).Nodup->(∀z∈ks q,z∈fo b)->q.length<=200:=λ{q} n s=>by
     have:=len_sub n s;unfold fo at this;simp at this;lia
    have K:=few j g;have M:(1000:Nat)<=bo:=by decide
    have G:=D7 (i:=1) (n:=0) (EY W m x) rfl;have I:d2 bi (iN 1 vN (dC (.int 0))) (dC (.int 1)) (iD W m (↥x))=.ok (.int ((bE m x.dropLast).getD 0+1)) (iD W m (↥x)):=by unfold d2;rw[G,R.bind_ok];rfl
    have p:=ES (i:=1) I (EY W m x) ⟨_,rfl⟩ rfl (m:=m) ∅;generalize d:df m x.dropLast ((bE m x.dropLast).getD 0+1)=q at p;have w:(ks q).Nodup:=by rw[<-d];exact qj j
    have v:∀z∈ks q,z∈fo b:=λz l=>by
     have:(bE q z).isSome=ah:=by rw[tf];exact decide_eq_true l
     rw[<-d,mX]at this;by_cases c:z=x.dropLast
     .rw[c];exact u
     .rw[if_neg c,tf,decide_eq_true_eq]at this;exact g z this
    have J:=few w v;have F:=D7 (i:=1) (n:=0) (II W q x) rfl;have H:d2 jT (iN 1 tK (dC (.int 0))) (dC (.int 1)) (iD W q (↥x))=.ok (.int ((bE q x.tail).getD 0-1)) (iD W q (↥x)):=by unfold d2;rw[F,R.bind_ok];rfl
    have f:=ES (i:=1) H (II W q x) ⟨_,rfl⟩ rfl (m:=q) ∅;show xB (iD W m (↥x))=_;unfold xB;refine(cT p).trans ?_;refine Eq.trans (show fQ 1 tK _ _=_ from f) ?_;unfold lF;rw[d];rfl)
 have o:yav a [.val W,.none,.none]=.ok (.ret (.own (.dK (dk (bw b))))) [.val W,.none,f]:=by
  rw[Pm];refine(cT (show dy 1 sF [.val W,.none,.none]=.ok .next (iD W [] .none)from rfl)).trans ?_;have C:dj 2 (bJ (dV 0)) xB (iD W [] .none)=.ok .next (iD W (bw b) f):=by
   unfold dj;have:bJ (dV 0) (iD W [] .none)=.ok (ao b) (iD W [] .none):=by unfold bJ;show(R.ok W _).bind _=_;rw[R.bind_ok,E];rfl
   rw[this,R.bind_ok];exact e
  refine(cT (d1:=λε=>e_ (dj 2 (bJ (dV 0)) xB ε)) (by show e_ _=_;rw[C];rfl)).trans ?_;exact FL rfl
 unfold r9;generalize yav a=D at o;generalize dk (bw b)=A at o;simp[bH,fk,bG,bu,o,back,aQ,R.bind,ge]
end
theorem GG{a:ak}{i:Nat}{s:Slot}(h:a[i]?=aa s):a.set i s=a:=by
 apply q8;intro j;by_cases b:i=j
 .subst b;rw[fM (cM.mp h).1,h]
 .rw[d8 b]
theorem IM{b:Type}{d:ak->R b}{x:PV}{ε:ak}{i:Nat}{a:PO}{r:b}(c:ε[i]?=aa (.own a))(f:d [.val x,.own a]=.ok r [.val x,.own a]):bz (dw [i] d x ε)=.ok r ε:=by simp[dw,cP,c,bz,R.bind,aQ,cm,dR,f,d9,f_,eP,GG c]
theorem Fi{b:Type}{d:ak->R b}{x y:PV}{ε:ak}{i:Nat}{a:PO}{r:b}(c:ε[i]?=aa (.own a))(f:d [.val x,.val y,.own a]=.ok r [.val x,.val y,.own a]):bz (mH [i] d x y ε)=.ok r ε:=by simp[mH,cP,c,bz,R.bind,aQ,cm,dR,f,d9,f_,eP,GG c]
theorem FW{cap:List Nat}{dt:ak->R Bool}{de:ak->R PV}{ε:ak}(p:PV×PV->Bool)(f:PV×PV->PV):∀(xs:List (PV×PV)),(∀x∈xs,bz (mH cap dt x.1 x.2 ε)=.ok (p x) ε/\(p x=ah->bz (mH cap de x.1 x.2 ε)=.ok (f x) ε))->∀a,oN cap dt de xs a ε=.ok (a++(xs.filter p).map f) ε
 |[],_,a=>by simp[oN]
 |x::xs,h,a=>by
  have d:=h x (by simp);have c:=FW p f xs (λy g=>h y (by simp[g]));unfold oN;rw[d.1,R.bind_ok];cases b:p x
  .rw[c a,oh,b];rfl
  .show(bz (mH cap de x.1 x.2 ε)).bind _=_;rw[d.2 b,R.bind_ok,c,oh,b];simp
theorem Hz:∀m:List (Tx×Int),qA (dk m)=aa (ks m)
 |[]=>rfl
 |p::m=>by show(qA (dk m)).map _=_;rw[Hz m];simp[tS]
def iq(a:List Tx):List Tx:=(aH (ks (bw a))).filter λy=>decide (0<exc a y)
def IX(a:List Tx):PV->Bool
 |.str y=>decide (0<exc a y)
 |_=>aj
theorem OZ(b:List Tx)(a:List Tx):((ao a).filter (IX b)).map (λx=>x)=ao (a.filter λy=>decide (0<exc b y)):=by rw[List.map_id'];unfold ao;rw[zR];rfl
def vy(ks:List Tx):PV×PV->Bool
 | (_,.str y)=>decide (y.dropLast∈ks)
 |_=>aj
theorem IH(ks:List Tx):∀(n:Nat) (a:List Tx),((jO (λi=>PV.int (i:Nat)) n (ao a)).filter (vy ks)).length=(a.filter λy=>decide (y.dropLast∈ks)).length
 |n,[]=>rfl
 |n,y::a=>by
  have b:=IH ks (n+1) a;show(((PV.int n,PV.str y)::jO _ (n+1) (ao a)).filter (vy ks)).length=_;have e:vy ks (PV.int n,PV.str y)=decide (y.dropLast∈ks):=rfl;rw[oh,oh,e];by_cases c:y.dropLast∈ks
  .rw[decide_eq_true c,if_pos rfl,if_pos rfl,eG,eG,b]
  .rw[decide_eq_false c,if_neg (by decide),if_neg (by decide)];exact b
theorem F6(f:Nat->PV):∀(n:Nat) (a:List Tx),∀q∈jO f n (ao a),∃k y,q=(f k,.str y)
 |n,[],q,h=>by cases h
 |n,y::a,q,h=>by
  rcases bI.mp h with h|h
  .exact⟨n,y,h⟩
  .exact F6 f (n+1) a q h
section
variable{a:Ad}
def uN:ak->R PV:=cO c_ (dV 1) (dv) (cI (d1 fV (dC (.int 1))))
def f2(a:Ad):ak->R aO:=bW 2 (dF (cV [1] (bJ (dF (o9 1))) (dB (d2 (dD λi j=>decide (j<i)) (iO 1 (dV 0)) (dC (.int 0)))) (dV 0)))
def f3:ak->R aO:=cc (dB (d2 (dD λi j=>decide (j<i)) (dL bP (ap (dV 2) (aC))) (dC (.int 1)))) (cq (dL br (ap (dC (.str [116,119,111])) (ap (d2 bn (dV 2) (dC (.int 0))) (ap (d2 bn (dV 2) (dC (.int 1))) (aC)))))) (dX)
def f4:ak->R aO:=cc (mZ (dB (d2 (eqT aj) (dL bP (ap (dV 2) (aC))) (dC (.int 1)))) (dB (d2 (dD λi j=>decide (j<i)) (iO 1 (d2 bn (dV 2) (dC (.int 0)))) (dC (.int 1))))) (cq (dL br (ap (dC (.str [109,111,114,101])) (ap (d2 bn (dV 2) (dC (.int 0))) (aC))))) (dX)
def f6:ak->R aO:=bW 4 (dF (qx [3] (vg (ap (dV 0) (aC))) (dB (jm aj 2 uN)) (dV 0)))
def f7:ak->R aO:=cc (dB (d2 (dD λi j=>decide (i<j)) (dL bP (ap (dV 4) (aC))) (dL bP (ap (dV 0) (aC))))) (cq (dL br (ap (dC (.str [97,112,97,114,116])) (ap (dL kl (ap (dV 4) (aC))) (aC))))) (dX)
theorem Uf:yaw a=aK (dy 1 (iG (a9 (r9 a) (gV (dV 0) (Pu.bL))))) (aK (f2 a) (aK f3 (aK f4 (aK (dy 3 (iG (a9 (oW a) (gV (dV 0) (Pu.bL))))) (aK f6 (aK f7 (cq (dC .non)))))))):=rfl
theorem D3{G:ak->R Slot}{W:PV}{ε:ak}{i:Nat}{b:PO}(f:ε[0]?=aa (.val W))(d:G [.val W]=.ok (.own b) [.val W])(c:i<ε.length):dy i (iG (a9 G (gV (dV 0) (Pu.bL)))) ε=.ok .next (ε.set i (.own b)):=by simp[dy,iG,a9,gV,Pu.bL,dV,f,R.bind,aQ,cm,dR,d,d9,f_,eP,sT,c]
theorem OK(W:PV)(b:List Tx)(A:b.length<=20)(l:∀y∈b,y.length<=100)(f d c:Slot):f2 a [.val W,.own (.dK (dk (bw b))),f,d,c]=.ok .next [.val W,.own (.dK (dk (bw b))),.val (.lst (ao (iq b))),d,c]:=by
 unfold f2;have few:(ks (bw b)).length<64:=by have:=len_sub (Ia b) (λz m=>(xo b z).mp m);unfold fo at this;simp at this ⊢;lia
 have r:∀z∈ks (bw b),z.length<=bo:=λz m=>by
  have:=(xo b z).mp m;have B:(1000:Nat)<=bo:=by decide
  unfold fo at this;simp only[kB,cS]at this;rcases this with⟨y,g,rfl⟩|⟨y,g,rfl⟩
  .have:=l y g;simp;lia
  .have:=l y g;simp;lia
 have s:o9 1 [.val W,.own (.dK (dk (bw b))),f,d,c]=.ok (.lst (ao (aH (ks (bw b))))) [.val W,.own (.dK (dk (bw b))),f,d,c]:=by unfold o9;show aQ (xX (dk (bw b))) _=_;unfold xX;rw[Hz];show aQ (if _ then _ else _) _=_;rw[if_pos ⟨few,r⟩];rfl
 have u:bJ (dF (o9 1)) [.val W,.own (.dK (dk (bw b))),f,d,c]=.ok (ao (aH (ks (bw b)))) [.val W,.own (.dK (dk (bw b))),f,d,c]:=by unfold bJ dF;rw[s];rfl
 have w:=kf (cap:=[1]) (dt:=dB (d2 (dD λi j=>decide (j<i)) (iO 1 (dV 0)) (dC (.int 0)))) (de:=dV 0) (ε:=[.val W,.own (.dK (dk (bw b))),f,d,c]) (IX b) (λx=>x) (ao (aH (ks (bw b)))) (λx l=>by
  obtain⟨y,g,rfl⟩:=cS.mp l;have o:y∈ks (bw b):=(eM _).mem_iff.mp g;have v:bE (bw b) y=aa (exc b y):=by
   have q:(bE (bw b) y).isSome=ah:=by rw[tf];exact decide_eq_true o
   have p:=Ca b y;cases h:bE (bw b) y with
   |none=>rw[h]at q;cases q
   |some n=>rw[h]at p;rw[<-p];rfl
  refine⟨IM rfl ?_,λ_=>IM rfl rfl⟩;refine qc ?_;unfold d2;rw[Hk (i:=1) (db:=dV 0) (ε:=[↥y,.own (.dK (dk (bw b)))]) ⟨_,rfl⟩ rfl rfl v,R.bind_ok];rfl) []
 refine(tm (x:=.lst (ao (iq b))) (ε1:=[.val W,.own (.dK (dk (bw b))),f,d,c]) ?_).trans rfl;have o:cV [1] (bJ (dF (o9 1))) (dB (d2 (dD λi j=>decide (j<i)) (iO 1 (dV 0)) (dC (.int 0)))) (dV 0) [.val W,.own (.dK (dk (bw b))),f,d,c]=.ok (.lst (ao (iq b))) [.val W,.own (.dK (dk (bw b))),f,d,c]:=by unfold cV;rw[u,R.bind_ok,w,R.bind_ok,gI,OZ];rfl
 show(cV _ _ _ _ _).bind _=_;rw[o];rfl
def jw(ks b:List Tx):List PV:=((vx (ao b)).filter (vy ks)).map (·.1)
theorem By(y:Tx)(r:List Tx):bn (.lst (ao (y::r))) (.int 0)=aa (.str y):=by show fj (.str y::ao r) 0=_;rw[yP (by decide) (by simp)];rfl
theorem RK(y z:Tx)(r:List Tx):bn (.lst (ao (y::z::r))) (.int 1)=aa (.str z):=by show fj (.str y::.str z::ao r) 1=_;rw[yP (by decide) (by simp)];rfl
theorem Ld{W:PV}(f ks:List Tx)(p:W=.tup (ao f))(c b d:Slot):f6 [.val W,c,b,.own (.dK (cJ ks)),d]=.ok .next [.val W,c,b,.own (.dK (cJ ks)),.val (.lst (jw ks f))]:=by
 unfold f6;have m:vg (ap (dV 0) (aC)) [.val W,c,b,.own (.dK (cJ ks)),d]=.ok (vx (ao f)) [.val W,c,b,.own (.dK (cJ ks)),d]:=by subst p;rfl
 have n:=FW (cap:=[3]) (dt:=dB (jm aj 2 uN)) (de:=dV 0) (ε:=[.val W,c,b,.own (.dK (cJ ks)),d]) (vy ks) (·.1) (vx (ao f)) (λx g=>by
  obtain⟨k,y,rfl⟩:=F6 _ 0 f x g;refine⟨Fi rfl ?_,λ_=>Fi rfl rfl⟩;have o:uN [.val (PV.int k),↥y,.own (.dK (cJ ks))]=.ok (.str y.dropLast) [.val (PV.int k),↥y,.own (.dK (cJ ks))]:=by have h:=zg y;have j:fV (.int 1)=aa (.int (-1)):=rfl;simp[uN,cO,dv,cI,dV,d1,dC,R.bind,aQ,j,lG,h]
  have:=qc (A7 (neg:=aj) (i:=2) o rfl);rw[Dk]at this;exact this) []
 refine(tm (x:=.lst (jw ks f)) (ε1:=[.val W,c,b,.own (.dK (cJ ks)),d]) ?_).trans rfl;have l:qx [3] (vg (ap (dV 0) (aC))) (dB (jm aj 2 uN)) (dV 0) [.val W,c,b,.own (.dK (cJ ks)),d]=.ok (.lst (jw ks f)) [.val W,c,b,.own (.dK (cJ ks)),d]:=by unfold qx;rw[m,R.bind_ok,n,R.bind_ok,gI];rfl
 show(qx _ _ _ _ _).bind _=_;rw[l];rfl
theorem D6(ks b:List Tx):(jw ks b).length<b.length↔¬∀y∈b,y.dropLast∈ks:=by
 have e:(jw ks b).length=(b.filter λy=>decide (y.dropLast∈ks)).length:=by unfold jw;rw[cz];exact IH ks 0 b
 rw[e];constructor
 .intro h d;rw[oj.mpr (λy c=>decide_eq_true (d y c))]at h;lia
 .intro h;refine Decidable.byContradiction λq=>h λy c=>?_;have f:=Dt (λy:Tx=>decide (y.dropLast∈ks)) b;have:=List.length_filter_eq_length_iff.mp (show(b.filter λy=>decide (y.dropLast∈ks)).length=b.length by lia) y c;exact of_decide_eq_true this
theorem zi{W pv:PV}{ε:ak}(h:yaw a [.val W,.none,.none,.none,.none]=.ok (.ret (.val pv)) (.val W::ε)):uY a [.val W]=.ok (.val pv) [.val W]:=by unfold uY;generalize yaw a=D at h;simp[bH,fk,bG,bu,h,back,aQ,R.bind,ge]
theorem Tj{W:PV}{v:Nat}{x:Tx}{r:List Tx}(q:W=.tup (ao (x::r)))(F:∀y∈x::r,y.length=v+1)(hv:v<=20)(hr:r.length<=15):∃pv,uY a [.val W]=.ok (.val pv) [.val W]/\(pv=.non\/∃A,pv=.tup A) /\ (pv=.non↔(iq (x::r)).length<=1/\(∀s∈iq (x::r),exc (x::r) s<=1)/\qf v (x::r)):=by
 have H:fu W=aa (ao (x::r)):=by subst q;rfl
 have T:bn W (.int 0)=aa (.str x):=by subst q;exact By x r
 have X:bP [W]=aa (.int ((ao (x::r)).length:Nat)):=by subst q;rfl
 have w:=D3 (G:=r9 a) (W:=W) (ε:=[.val W,.none,.none,.none,.none]) (i:=1) rfl (S_ _ (x::r) (by simp;lia) H) (by simp);have u:=OK (a:=a) W (x::r) (by simp;lia) (λy N=>by have:=F y N;lia) .none .none .none;obtain⟨ks,J,I,P⟩:=Tg (a:=a) W x r ∅ H T;have f:=Q4 F J I;have o:∀s∈iq (x::r),bE (bw (x::r)) s=aa (exc (x::r) s):=λs D=>by
  have O:s∈Sh.ks (bw (x::r)):=(eM _).mem_iff.mp (jb.mp D).1;have w:(bE (bw (x::r)) s).isSome=ah:=by rw[tf];exact decide_eq_true O
  have u:=Ca (x::r) s;cases h:bE (bw (x::r)) s with
  |none=>rw[h]at w;cases w
  |some n=>rw[h]at u;rw[<-u];rfl
 have d:∀S:List Tx,∃pv ε,aK (dy 3 (iG (a9 (oW a) (gV (dV 0) (Pu.bL))))) (aK f6 (aK f7 (cq (dC .non)))) [.val W,.own (.dK (dk (bw (x::r)))),.val (.lst (ao S)),.none,.none]=.ok (.ret (.val pv)) (.val W::ε)/\(pv=.non\/∃A,pv=.tup A)/\(pv=.non↔qf v (x::r)):=by
  intro S;have Z:=D3 (G:=oW a) (W:=W) (ε:=[.val W,.own (.dK (dk (bw (x::r)))),.val (.lst (ao S)),.none,.none]) (i:=3) rfl P (by simp);have Y:=Ld (x::r) ks q (.own (.dK (dk (bw (x::r))))) (.val (.lst (ao S))) .none;rw[cT Z,cT (show f6 ([Slot.val W,.own (.dK (dk (bw (x::r)))),.val (.lst (ao S)),.none,.none].set 3 (.own (.dK (cJ ks))))=_ from Y)];have m:dB (d2 (dD λi j=>decide (i<j)) (dL bP (ap (dV 4) (aC))) (dL bP (ap (dV 0) (aC)))) [.val W,.own (.dK (dk (bw (x::r)))),.val (.lst (ao S)),.own (.dK (cJ ks)),.val (.lst (jw ks (x::r)))]=.ok (decide (((jw ks (x::r)).length:Int)<((ao (x::r)).length:Int))) [.val W,.own (.dK (dk (bw (x::r)))),.val (.lst (ao S)),.own (.dK (cJ ks)),.val (.lst (jw ks (x::r)))]:=by refine qc (yC (x:=.int ((jw ks (x::r)).length:Nat)) (y:=.int ((ao (x::r)).length:Nat)) rfl ?_ rfl);exact RW (Oq (AG rfl) MB) X
  have p:(ao (x::r)).length=(x::r).length:=by unfold ao;rw[cz]
  by_cases c:∀y∈x::r,y.dropLast∈ks
  .have E:¬(((jw ks (x::r)).length:Int)<((ao (x::r)).length:Int)):=by
    rw[p];have:=mt (D6 ks (x::r)).mp (λh=>h c);lia
   rw[decide_eq_false E]at m;refine⟨.non,[.own (.dK (dk (bw (x::r)))),.val (.lst (ao S)),.own (.dK (cJ ks)),.val (.lst (jw ks (x::r)))],?_,.inl rfl,⟨λ_=>f.mp c,λ_=>rfl⟩⟩;rw[cT (show f7 _=.ok .next _ by unfold f7 cc;rw[m];rfl)];rfl
  .have E:((jw ks (x::r)).length:Int)<((ao (x::r)).length:Int):=by
    rw[p];have:=(D6 ks (x::r)).mpr c;lia
   rw[decide_eq_true E]at m;refine⟨.tup [.str [97,112,97,114,116],.tup (jw ks (x::r))],[.own (.dK (dk (bw (x::r)))),.val (.lst (ao S)),.own (.dK (cJ ks)),.val (.lst (jw ks (x::r)))],?_,.inr ⟨_,rfl⟩,⟨(λh=>by cases h),λh=>absurd (f.mpr h) c⟩⟩;unfold aK f7 cc;rw[m];rfl
 have b:∀(l:R aO),aK f3 (aK f4 (aK (dy 3 (iG (a9 (oW a) (gV (dV 0) (Pu.bL))))) (aK f6 (aK f7 (cq (dC .non)))))) [.val W,.own (.dK (dk (bw (x::r)))),.val (.lst (ao (iq (x::r)))),.none,.none]=l->yaw a [.val W,.none,.none,.none,.none]=l:=by intro l h;rw[Uf,cT w];exact(cT u).trans h
 generalize hS:iq (x::r)=S at o b ⊢
 match S,o,b with
 |[],_,b=>
  obtain⟨pv,ε,e,C,B⟩:=d [];refine⟨pv,zi (ε:=ε) (b _ ?_),C,?_⟩
  .rw[cT (show f3 _=.ok .next _ from rfl),cT (show f4 _=.ok .next _ from rfl)];exact e
  .rw[B];simp
 |[s],o,b=>
  have D:=o s (by simp);have Q:dB (d2 (dD λi j=>decide (j<i)) (iO 1 (d2 bn (dV 2) (dC (.int 0)))) (dC (.int 1))) [.val W,.own (.dK (dk (bw (x::r)))),.val (.lst (ao [s])),.none,.none]=.ok (decide (1<exc (x::r) s)) [.val W,.own (.dK (dk (bw (x::r)))),.val (.lst (ao [s])),.none,.none]:=by refine qc (yC (Hk (i:=1) (db:=d2 bn (dV 2) (dC (.int 0))) ⟨_,rfl⟩ (yC (x:=.lst (ao [s])) rfl rfl (By s [])) rfl D) rfl rfl)
  have hand:mZ (dB (d2 (eqT aj) (dL bP (ap (dV 2) (aC))) (dC (.int 1)))) (dB (d2 (dD λi j=>decide (j<i)) (iO 1 (d2 bn (dV 2) (dC (.int 0)))) (dC (.int 1)))) [.val W,.own (.dK (dk (bw (x::r)))),.val (.lst (ao [s])),.none,.none]=.ok (decide (1<exc (x::r) s)) [.val W,.own (.dK (dk (bw (x::r)))),.val (.lst (ao [s])),.none,.none]:=by unfold mZ;rw[show dB (d2 (eqT aj) (dL bP (ap (dV 2) (aC))) (dC (.int 1))) [.val W,.own (.dK (dk (bw (x::r)))),.val (.lst (ao [s])),.none,.none]=.ok ah [.val W,.own (.dK (dk (bw (x::r)))),.val (.lst (ao [s])),.none,.none] from rfl,R.bind_ok];exact Q
  by_cases c:1<exc (x::r) s
  .rw[decide_eq_true c]at hand;refine⟨.tup [.str [109,111,114,101],.str s],zi (ε:=[.own (.dK (dk (bw (x::r)))),.val (.lst (ao [s])),.none,.none]) (b _ ?_),.inr ⟨_,rfl⟩,⟨(λh=>by cases h),λh=>?_⟩⟩
   .rw[cT (show f3 _=.ok .next _ from rfl)];unfold aK f4 cc;rw[hand];rfl
   .have:=h.2.1 s (by simp);lia
  .rw[decide_eq_false c]at hand;obtain⟨pv,ε,e,C,B⟩:=d [s];refine⟨pv,zi (ε:=ε) (b _ ?_),C,?_⟩
   .rw[cT (show f3 _=.ok .next _ from rfl),cT (show f4 _=.ok .next _ by unfold f4 cc;rw[hand];rfl)];exact e
   .rw[B];refine⟨λh=>⟨by simp,λz M=>?_,h⟩,λh=>h.2.2⟩;have:z=s:=by simpa using M
    subst this;lia
 |s::g::S,o,b=>
  refine⟨.tup [.str [116,119,111],.str s,.str g],zi (ε:=[.own (.dK (dk (bw (x::r)))),.val (.lst (ao (s::g::S))),.none,.none]) (b _ ?_),.inr ⟨_,rfl⟩,⟨λh=>(by cases h),λh=>?_⟩⟩
  .have L:=By s (g::S);have K:=RK s g S;unfold aK f3 cc;have m:dB (d2 (dD λi j=>decide (j<i)) (dL bP (ap (dV 2) (aC))) (dC (.int 1))) [.val W,.own (.dK (dk (bw (x::r)))),.val (.lst (ao (s::g::S))),.none,.none]=.ok (decide ((1:Int)<((ao (s::g::S)).length:Int))) [.val W,.own (.dK (dk (bw (x::r)))),.val (.lst (ao (s::g::S))),.none,.none]:=rfl;rw[decide_eq_true (by unfold ao;simp;lia)]at m;rw[m];simp[R.bind,cq,dL,ap,aC,dC,dV,d2,aQ,L,K,br]
  .have:=h.1;simp at this
end
theorem Fo{v:Nat}:∀{ls:List Tx},(∀y∈ls,y.length=v+1)->∀y,exc ls y=(oc v ls y:Int)-(ic ls y:Int)
 |[],_,y=>rfl
 |x::ls,h,y=>by
  have a:=Fo (λz b=>h z (by simp[b])) (ls:=ls) y;have c:x.take v=x.dropLast:=by rw[J8,h x (by simp)];rfl
  have e:exc (x::ls) y=b1 (x.dropLast=y)-b1 (x.tail=y)+exc ls y:=by simp[exc]
  rw[e,a];unfold oc ic b1;simp only[cn,jg,c];split <;> split <;> lia
theorem AK{K:List Tx}(f:K.Nodup){s:Tx}(d:s∈K):(K.map λy=>b1 (s=y)).sum=1:=by
 have ae:∀{K:List Tx},s∉K->(K.map λy=>b1 (s=y)).sum=0:=by
  intro K
  induction K with
  |nil=>intro _;rfl
  |cons y K b=>intro h;simp only[bI,not_or]at h;rw[cn,jg,b h.2];unfold b1;rw[if_neg h.1];rfl
 induction K with
 |nil=>cases d
 |cons y K b=>
  rw[cn,jg];have a:=lj.mp f;by_cases c:s=y
  .subst c;rw[ae a.1];unfold b1;rw[if_pos rfl];rfl
  .rw[b a.2 (by rcases bI.mp d with h|h;exact absurd h c;exact h)];unfold b1;rw[if_neg c];rfl
theorem B9(f g:Tx->Int):∀K:List Tx,(K.map λy=>f y-g y).sum=(K.map f).sum-(K.map g).sum
 |[]=>rfl
 |y::K=>by simp only[cn,jg,B9 f g K];lia
theorem G2(f g:Tx->Int):∀K:List Tx,(K.map λy=>f y+g y).sum=(K.map f).sum+(K.map g).sum
 |[]=>rfl
 |y::K=>by simp only[cn,jg,G2 f g K];lia
theorem E3{K:List Tx}(a:K.Nodup):∀{ls:List Tx},(∀x∈ls,x.dropLast∈K/\x.tail∈K)->(K.map (exc ls)).sum=0
 |[],_=>by
  show(K.map λ_=>(0:Int)).sum=0;clear a;have c:∀K:List Tx,(K.map λ_=>(0:Int)).sum=0:=λK=>by
   induction K with
   |nil=>rfl
   |cons y K b=>rw[cn,jg,b];rfl
  exact c K
 |x::ls,h=>by
  have b:=E3 a (ls:=ls) λz d=>h z (by simp[d]);have e:exc (x::ls)=λy=>(b1 (x.dropLast=y)-b1 (x.tail=y))+exc ls y:=by funext y;simp[exc]
  rw[e,G2,b,B9,AK a (h x (by simp)).1,AK a (h x (by simp)).2];rfl
theorem BM(f:Tx->Int):∀{K:List Tx},(∀y∈K,f y<=0)->(K.map f).sum<=0/\((K.map f).sum=0->∀y∈K,f y=0)
 |[],_=>⟨by simp,λ_ y h=>by cases h⟩
 |y::K,h=>by
  have b:=BM f (K:=K) λz a=>h z (by simp[a]);have c:=h y (by simp);rw[cn,jg];refine⟨∅,λe z a=>?_⟩;rcases bI.mp a with rfl|a
  .lia
  .exact b.2 ∅ z a
theorem Iz(f:Tx->Int):∀{K:List Tx},(∀y∈K,f y<=0)->(K.map f).sum=-1->K.Nodup->∃e∈K,f e=-1/\∀y∈K,y≠e->f y=0
 |[],_,h,_=>by simp at h
 |y::K,h,j,i=>by
  have g:∀z∈K,f z<=0:=λz a=>h z (by simp[a]);have o:=BM f g;have p:=h y (by simp);have d:=lj.mp i;rw[cn,jg]at j;by_cases c:f y=0
  .obtain⟨e,l,n,m⟩:=Iz f g ∅ d.2;refine⟨e,by simp[l],n,λz a b=>?_⟩;rcases bI.mp a with rfl|a
   .exact c
   .exact m z a b
  .refine⟨y,by simp,∅,λz a b=>?_⟩;rcases bI.mp a with rfl|a
   .exact absurd rfl b
   .exact o.2 ∅ z a
theorem Ge{a:List Tx}{y:Tx}(h:y∉ks (bw a)):exc a y=0:=by
 have c:(bE (bw a) y).isSome=aj:=by rw[tf];exact decide_eq_false h
 have b:=Ca a y;cases e:bE (bw a) y with
 |none=>rw[e]at b;exact b.symm
 |some n=>rw[e]at c;cases c
theorem Vu{a:List Tx}{s:Tx}:s∈iq a↔s∈ks (bw a)/\0<exc a s:=by unfold iq;rw[jb,decide_eq_true_eq,(eM _).mem_iff]
theorem Ov{v:Nat}{x:Tx}{r:List Tx}(u:∀y∈x::r,y.length=v+1):((iq (x::r)).length<=1/\(∀s∈iq (x::r),exc (x::r) s<=1)/\qf v (x::r))↔∃t,(aT t (v+1)).Perm (x::r):=by
 have j:=Fo u;have i:=Ia (x::r);have F:∀y∈x::r,y.dropLast∈ks (bw (x::r))/\y.tail∈ks (bw (x::r)):=λy a=>by rw[xo,xo];unfold fo;exact⟨pc _ (Dw a),jd _ (Dw a)⟩
 have D:=E3 i F;constructor
 .rintro⟨f,I,g⟩;have C:∀y∈ks (bw (x::r)),y∉iq (x::r)->exc (x::r) y<=0:=λy a n=>by have:=mt (λh=>Vu.mpr ⟨a,h⟩) n;lia
  cases l:iq (x::r)with
  |nil=>
   have p:=(BM _ (λy a=>C y a (by rw[l];simp))).2 D;obtain⟨t,_,_,b⟩:=Eu u g (s0:=x.take v) (e:=x.take v) ⟨x,by simp,rfl⟩ (λy=>by
    have:exc (x::r) y=0:=by
     by_cases c:y∈ks (bw (x::r))
     .exact p y c
     .exact Ge c
    rw[j]at this;lia)
   exact⟨t,b⟩
  |cons s S=>
   rw[l]at f;have E:S=[]:=by cases S with|nil=>rfl|cons _ _=>simp at f
   subst E;have d:s∈iq (x::r):=by rw[l];simp
   obtain⟨A,s0⟩:=Vu.mp d;have N:=I s d;have H:∀y∈ks (bw (x::r)),exc (x::r) y-b1 (s=y)<=0:=λy a=>by
    unfold b1;by_cases c:s=y
    .rw[if_pos c,<-c];lia
    .rw[if_neg c];have:=C y a (by rw[l];simp;exact dN c);lia
   obtain⟨e,J,O,K⟩:=Iz (λy=>exc (x::r) y-b1 (s=y)) H (by rw[B9,D,AK i A];rfl) i;have hall:∀y,exc (x::r) y=b1 (s=y)-b1 (e=y):=λy=>by
    by_cases c:y∈ks (bw (x::r))
    .by_cases w:e=y
     .subst w;have:b1 (e=e)=1:=by unfold b1;rw[if_pos rfl]
      lia
     .have:=K y c (dN w);have:b1 (e=y)=0:=by unfold b1;rw[if_neg w]
      lia
    .have M:s≠y:=λz=>c (z ▸ A);have L:e≠y:=λz=>c (z ▸ J);rw[Ge c];unfold b1;rw[if_neg M,if_neg L];rfl
   obtain⟨t,_,_,b⟩:=Eu u g (s0:=s) (e:=e) (Vc.mp (by have:=j s;lia)) (λy=>by have f:=hall y;rw[j]at f;unfold b1 at f;unfold b2;split <;> split <;> simp_all <;> lia);exact⟨t,b⟩
 .rintro⟨t,b⟩;have q:v<=t.length:=by have:=b.length_eq;rw[o4 ∅]at this;simp at this;lia
  have B:∀y,exc (x::r) y=b1 (t.take v=y)-b1 (en v t=y):=λy=>by have:=vm q y;rw[uC b,uF b]at this;rw[j];unfold b1;unfold b2 at this;split <;> split <;> simp_all <;> lia
  have G:∀s∈iq (x::r),s=t.take v:=λs d=>by
   have:=(Vu.mp d).2;rw[B]at this;unfold b1 at this;by_cases c:t.take v=s
   .exact c.symm
   .rw[if_neg c]at this;split at this <;> lia
  refine⟨?_,λs d=>?_,SL b⟩
  .have o:(iq (x::r)).Nodup:=by
    unfold iq;exact((eM _).nodup_iff.mpr i).filter _
   have:=len_sub o (m:=[t.take v]) (λz p=>by rw[G z p];simp);simpa using this
  .rw[B];unfold b1;split <;> split <;> lia
end Sh
namespace Mx
open L2 Pu
theorem Q3{w:Nat}{a:List Tx}(b:1<=w)(d:1<=a.length)(f:∀x∈a,x.length=w/\∀c∈x,c∈bC):(dU w a).Nodup:=by rw[y6 b d f];exact(Be _).filter _
theorem pX{w:Nat}{ls:List Tx}(d:1<=w)(h:1<=ls.length)(i:∀x∈ls,x.length=w/\∀c∈x,c∈bC)(g:ls.Pairwise (λa b=>cX a b=ah)){z:Tx}(f:∀c∈z,c∈bC):z∈dU w ls↔aH (aT z w)=ls:=by
 rw[y6 d h i,jb,mG,List.isPerm_iff];constructor
 .rintro⟨_,p⟩;rw[uQ p,s_ g]
 .intro e;have p:(aT z w).Perm ls:=by rw[<-e];exact(eM _).symm
  have j:=p.length_eq;rw[o4 d]at j;exact⟨⟨∅,f⟩,p⟩
theorem Af{w:Nat}{a:List Tx}(b:1<=w)(d:1<=a.length)(f:∀x∈a,x.length=w/\∀c∈x,c∈bC){z:Tx}(h:z∈dU w a):z.length=w-1+a.length/\∀c∈z,c∈bC:=by rw[y6 b d f,jb,mG]at h;exact h.1
end Mx
namespace Sh
open L2 Pu Mx
theorem abc_of{t:Tx}{w:Nat}(a:1<=w)(f:w<=t.length)(h:∀x∈aT t w,∀c∈x,c∈bC):∀c∈t,c∈bC:=by
 intro c d;obtain⟨i,g,rfl⟩:=List.mem_iff_getElem.mp d;have b:min i (t.length-w)<t.length+1-w:=∅
 refine h ((t.drop (min i (t.length-w))).take w) ?_ _ ?_
 .rw[qE t w a];exact cS.mpr ⟨_,zv.mpr b,rfl⟩
 .refine List.mem_iff_getElem.mpr ⟨i-min i (t.length-w),by simp;lia,?_⟩;rw[Dg,Df];congr 1;lia
def hasT(w:Nat)(k:List Tx):Bool:=decide (dU w k≠[])
theorem has_iff{w:Nat}{d:List Tx}(g:Good bC w d)(f:1<=w)(m:d.Pairwise (λa b=>cX a b=ah)):(∃t,(aT t w).Perm d)↔hasT w d=ah:=by
 have j:∀x∈d,x.length=w/\∀c∈x,c∈bC:=λx i=>⟨g.len x i,g.abc x i⟩
 unfold hasT;rw[decide_eq_true_iff];constructor
 .rintro⟨t,l⟩ e;have p:=l.length_eq;rw[o4 f]at p;have q:=g.some;have n:=abc_of (t:=t) f ∅ (λx i=>g.abc x (l.mem_iff.mp i));have:=(pX f g.some j m n).mpr (by rw[uQ l];exact(s_ m));rw[e]at this;cases this
 .intro h;obtain⟨z,r,e⟩:=zU h;have o:z∈dU w d:=by rw[e];simp
  have n:=(Af f g.some j o).2;have:=(pX f g.some j m n).mp o;exact⟨z,by rw[<-this];exact(eM _).symm⟩
section
variable{a:Ad}
theorem bar_eq{w:Nat}{c:List Tx}(g:Good bC w c)(h:1<=w)(p:w<=4)(j:c.Pairwise (λa b=>cX a b=ah)):∃pv,uL a [.val (a8 w c)]=.ok (.val pv) [.val (a8 w c)]/\sv aj pv .non=aa (.bl (hasT w c)):=by
 have m:=g.few;have z:=g.some;obtain⟨v,rfl⟩:∃v,w=v+1:=⟨w-1,∅⟩
 obtain⟨x,r,e⟩:∃x r,c=x::r:=zU (by rintro rfl;simp at z);have o:=has_iff g h j;rw[e]at o m;have l:∀y∈x::r,y.length=v+1:=λy s=>g.len y (by rw[e];exact s);obtain⟨pv,i,q,d⟩:=Tj (a:=a) (W:=.tup (ao (x::r))) rfl l ∅ (by simp at m;lia);rw[Ov l,o]at d;refine⟨pv,?_,?_⟩
 .have n:mD a [.val (a8 (v+1) c)]=.ok (.val .non) [.val (a8 (v+1) c)]:=HR (a:=a) (g.vw h p j);have f:bn (a8 (v+1) c) (.int 1)=aa (.tup (ao (x::r))):=by rw[e];rfl
  generalize ao (x::r)=B at i f;generalize a8 (v+1) c=V at n f;simp![uL,yao,n,f,i]
 .rw[e];rcases q with rfl|⟨A,rfl⟩
  .rw[d.mp rfl];rfl
  .cases u:hasT (v+1) (x::r)with
   |true=>exact nomatch d.mpr u
   |false=>rfl
structure Blur(w:Nat)(ms:List Tx):Prop where
 g:Good gM w ms
 w1:1<=w
 w4:w<=4
 d6:ef ms<=6
 rises:ms.Pairwise (λa b=>cX a b=ah)
theorem Good.vwB{w:Nat}{d:List Tx}(g:Good gM w d)(o:1<=w)(n:w<=4)(h:d.Pairwise (λa b=>cX a b=ah)):fR gM w d=ah:=by
 have m:d.all (gw w gM)=ah:=by rw[lZ];intro x f;unfold gw;rw[g.len x f,decide_eq_true rfl,zG,lZ];intro c i;simpa using g.abc x f c i
 have l:=g.some;have j:=g.few;unfold fR;rw[m,decide_eq_true (show(1:Int)<=(w:Nat)/\((w:Nat):Int)<=4 by lia),decide_eq_true ⟨l,j⟩,decide_eq_true (s_ h).symm];rfl
theorem wt_small{w:Nat}:∀{ls:List Tx},(∀x∈ls,x.length=w)->i9 [] ls<=ls.length*w
 |[],_=>by simp[i9]
 |[x],h=>by have:=h x (by simp);simp[i9,this]
 |x::y::r,h=>by
  have d:=h x (by simp);have c:=wt_small (ls:=y::r) λz b=>h z (by simp[b]);simp only[eG]at c ⊢;have e:i9 [] (x::y::r)=x.length+0+i9 [] (y::r):=by simp[i9]
  rw[e,d,Nat.succ_mul];lia
theorem blur_yes{w:Nat}{c:List Tx}(b:Blur w c):oX a [.val (a8 w c)]=.ok (.val .non) [.val (a8 w c)]:=by
 have h:=wt_small b.g.len;have g:=b.g.few;have d:=b.w4;have f:i9 [] c<=bo:=by have:c.length*w<=9*4:=qY g d;unfold bo;lia
 have:=Ib (a:=a) w c f;rw[b.g.vwB b.w1 b.w4 b.rises,decide_eq_true b.d6]at this;exact QZ this
theorem ways_good{w:Nat}{i k:List Tx}(b:Blur w i)(h:k∈waysF i):Good bC w k/\k.Pairwise (λa b=>cX a b=ah):=by
 obtain⟨l,m,j⟩:=ways_shape h;refine⟨⟨λx d=>?_,λx d=>?_,by rw[l];exact b.g.some,by rw[l];exact b.g.few⟩,m⟩
 .obtain⟨c,g,f⟩:=j x d;rw[f.len,b.g.len c g]
 .obtain⟨c,g,f⟩:=j x d;exact f.abc (b.g.abc c g)
def viewsC(w:Nat)(b:List Tx):List (List Tx):=(fq (waysF b)).filter (hasT w)
def vwsP(w:Nat)(ks:List (List Tx)):List PV:=ks.map λk=>a8 w k
theorem ok_filter{w:Nat}(ks:List (List Tx))(p:List Tx->Bool)(f:PV->Bool)(b:∀k,f (a8 w k)=p k):((vwsP w ks).filter f).map (λx=>x)=vwsP w (ks.filter p):=by rw[List.map_id'];unfold vwsP;rw[zR];congr 1;exact Dx λk _=>b k
def unVw:PV->List Tx
 |.tup [_,.tup xs]=>xs.filterMap λx=>match x with
  |.str t=>aa t
  |_=>ae
 |_=>[]
theorem unVw_vw(w:Nat)(k:List Tx):unVw (a8 w k)=k:=by show(ao k).filterMap _=k;unfold ao;rw[List.filterMap_map];simp[t7]
theorem cleared_eq{w:Nat}{c:List Tx}(b:Blur w c):oJ a [.val (a8 w c)]=.ok (.own (.lst (vwsP w (viewsC w c)))) [.val (a8 w c)]:=by
 have i:=blur_yes (a:=a) b;have f:=clearing_eq (a:=a) b.g b.w4 b.d6;have d:=kf (cap:=[]) (dt:=(dB (d2 (sv aj) (bF (a9 (uL a) (gV (dV 0) (Pu.bL)))) (dC .non)))) (de:=dV 0) (ε:=[.val (a8 w c)]) (λx=>hasT w (unVw x)) (λx=>x) (vwsP w (fq (waysF c)))
  (by
   intro x m;obtain⟨k,n,rfl⟩:=cS.mp m;obtain⟨o,l⟩:=ways_good b ((oV _).mem_iff.mp n);obtain⟨pv,h,g⟩:=bar_eq (a:=a) o b.w1 b.w4 l;rw[unVw_vw];generalize a8 w c=V;generalize hasT w k=B at g;generalize a8 w k=W at h;refine⟨?_,λ_=>?_⟩
   .simp![dw,cP,bz,h,g]
   .simp![dw,cP,bz]) []
 rw[gI,ok_filter _ (hasT w) _ (λk=>by rw[unVw_vw])]at d;have j:fu (.lst (vwsP w (fq (waysF c))))=aa (vwsP w (fq (waysF c))):=rfl;have p:((fq (waysF c)).map λk=>prV ((w:Int),k))=vwsP w (fq (waysF c)):=rfl;rw[p]at f;unfold viewsC;generalize vwsP w ((fq (waysF c)).filter (hasT w))=R1 at d;generalize vwsP w (fq (waysF c))=R0 at d j f;generalize a8 w c=V at i f d;simp![oJ,yar,i,f,pY,cV,bJ,j,d]
end
theorem paired_perm{f d:Type}{i:f->d->Prop}{m g:List d}(p:m.Perm g):∀{l:List f},fY i l m->∃a,l.Perm a/\fY i a g:=by
 induction p with
 |nil=>intro l h;cases h;exact⟨[],.nil,.nil⟩
 |cons x _ v=>
  intro l h;cases h with
  |cons r h=>obtain⟨a,s,A⟩:=v h;exact⟨_::a,s.cons _,.cons r A⟩
 |swap x y r=>
  intro l h;cases h with
  |cons n h=>cases h with
   |cons j h=>exact⟨_,List.Perm.swap ..,.cons j (.cons n h)⟩
 |trans _ _ c b=>intro l h;obtain⟨B,q,z⟩:=c h;obtain⟨u,o,w⟩:=b z;exact⟨u,q.trans o,w⟩
theorem fit_self:∀{x:Tx},(∀c∈x,c∈bC)->Fit x x
 |[],_=>.nil
 |c::x,h=>.cons (opts_mem.mpr (.inr ⟨by rintro rfl;have:=h 46 (by simp);simp[bC]at this,rfl⟩)) (fit_self λd a=>h d (by simp[a]))
theorem fit_dot:∀{x b:Tx} (u:Nat),(∀c∈x,c∈bC)->Fit x b->Fit x (b.set u 46)
 |_,_,_,_,.nil=>.nil
 |_,_,0,h,.cons r t=>.cons (opts_mem.mpr (.inl ⟨rfl,h _ (by simp)⟩)) t
 |_,_,u+1,h,.cons r t=>.cons r (fit_dot u (λc a=>h c (by simp[a])) t)
section
variable{d f:Type}(a:d->f->Bool)
def Nb(b:List d)(s:List f):List d:=b.filter λx=>s.any (a x)
def HC(c:List d)(b:List f):Prop:=∀s t,b.Perm (s++t)->s.length<=(Nb a c s).length
variable{a}
theorem paired_app{Q:d->f->Prop}:∀{c b:List d}{i g:List f},fY Q c i->fY Q b g->fY Q (c++b) (i++g)
 |_,_,_,_,.nil,h=>h
 |_,_,_,_,.cons r t,h=>.cons r (paired_app t h)
theorem filter_split(p:d->Bool)(b:List d):b.Perm (b.filter p++b.filter λx=>!p x):=by
 induction b with
 |nil=>exact .nil
 |cons x b c=>
  cases h:p x with
  |true=>simp only[oh,h,if_true,wx,l0,if_false,wu];exact c.cons x
  |false=>simp only[oh,h,l0,if_false,zT,if_true];exact(c.cons x).trans Ka.symm
theorem hall:∀(n:Nat) (r:List f) (g:List d),r.length=n->HC a g r->∃xs rest,fY (λx b=>a x b=ah) xs r/\g.Perm (xs++rest):=by
 intro n
 induction n using Nat.strongRecOn with
 |_ n E=>
  intro r g hn w;cases r with
  |nil=>exact⟨[],g,.nil,qX _⟩
  |cons b m=>
   by_cases c:∃s t,(b::m).Perm (s++t)/\s≠[]/\t≠[]/\(Nb a g s).length=s.length
   .obtain⟨s,t,p,v,X,he⟩:=c;have bD:s.length+t.length=n:=by have:=p.length_eq;rw[dS]at this;lia
    have Y:0<s.length:=List.length_pos_iff.mpr v;have W:0<t.length:=List.length_pos_iff.mpr X;obtain⟨O,Q,A,D⟩:=E s.length ∅ s (Nb a g s) rfl λu j L=>by
     have H:=w u (j++t) (p.trans (by rw[<-gH];exact L.append_right t));have e:Nb a (Nb a g s) u=Nb a g u:=by
      unfold Nb;rw[Dy];refine Dx λx _=>?_;cases h:u.any (a x)with
      |false=>rfl
      |true=>rw[zG,l_];obtain⟨y,T,Z⟩:=l_.mp h;exact⟨y,L.mem_iff.mpr (pc _ T),Z⟩
     rw[e];exact H
    have fh:Q=[]:=by have e1:=D.length_eq;have e2:=qK A;rw[dS]at e1;exact og.mp ∅
    subst fh;rw[fN]at D;obtain⟨N,I,G,C⟩:=E t.length ∅ t (g.filter λx=>!s.any (a x)) rfl λj P f9=>by
     have H:=w (s++j) P (p.trans (by rw[gH];exact f9.append_left s));have e:(Nb a g (s++j)).length=(Nb a g s).length+(Nb a (g.filter λx=>!s.any (a x)) j).length:=by
      have q:=(filter_split (λx=>s.any (a x)) (Nb a g (s++j))).length_eq;rw[q,dS];congr 1
      .unfold Nb;rw[Dy];congr 1;refine Dx λx _=>?_;rw[List.any_append];cases s.any (a x) <;> simp
      .unfold Nb;rw[Dy,Dy];congr 1;refine Dx λx _=>?_;rw[List.any_append];cases s.any (a x) <;> simp
     rw[dS,e,he]at H;lia
    obtain⟨B,S,h'⟩:=paired_perm p.symm (paired_app A G);refine⟨B,I,h',?_⟩;refine(filter_split (λx=>s.any (a x)) g).trans ?_;refine(D.append C).trans ?_;rw[<-gH];exact S.append_right I
   .have A:=w [b] m (qX _);obtain⟨x,K⟩:∃x,x∈Nb a g [b]:=List.exists_mem_of_length_pos (by have:1<=(Nb a g [b]).length:=A;lia);unfold Nb at K;obtain⟨F,i⟩:=jb.mp K;have i:a x b=ah:=by simpa using i
    obtain⟨o,l,rfl⟩:=List.append_of_mem F;have J:(o++x::l).Perm (x::(o++l)):=Ka;obtain⟨xs,rest,G,C⟩:=E m.length (by simp at hn;lia) m (o++l) rfl λs t p=>by
     by_cases v:s=[]
     .subst v;simp
     .have M:(b::m).Perm (s++(b::t)):=(p.cons b).trans Ka.symm;have h3:=w s (b::t) M;have h4:(Nb a (o++x::l) s).length≠s.length:=λz=>c ⟨s,b::t,M,v,by simp,z⟩;have h5:(Nb a (o++x::l) s).length<=(Nb a (o++l) s).length+1:=by unfold Nb;rw[(J.filter _).length_eq,oh];split <;> simp
      lia
    exact⟨x::xs,rest,.cons i G,J.trans (C.cons x)⟩
end
section
variable{a:Ad}
def thrT(w:Nat)(b:List Tx):List Tx:=(eN (w-1+b.length)).filter λt=>decide (aH (aT t w)∈waysF b)
theorem thr_perm{w:Nat}{i:List Tx}(b:Blur w i):((viewsC w i).flatMap (dU w)).Perm (thrT w i):=by
 have f:∀k∈viewsC w i,Good bC w k/\k.Pairwise (λa b=>cX a b=ah)/\k∈waysF i:=λk d=>by have h:=(oV _).mem_iff.mp (jb.mp d).1;exact⟨(ways_good b h).1,(ways_good b h).2,h⟩
 have l:∀{k:List Tx},Good bC w k->∀x∈k,x.length=w/\∀c∈x,c∈bC:=λg x n=>⟨g.len x n,g.abc x n⟩
 have v:((viewsC w i).flatMap (dU w)).Nodup:=by refine List.pairwise_flatMap.mpr ⟨λk d=>Q3 b.w1 (f k d).1.some (l (f k d).1),?_⟩;have r:(viewsC w i).Nodup:=(((oV _).nodup_iff).mpr (waysF_nodup i)).filter _;refine r.imp_of_mem λ{k j} d u B x n y A e=>B ?_;subst e;have q:=(Af b.w1 (f k d).1.some (l (f k d).1) n).2;rw[<-(pX b.w1 (f k d).1.some (l (f k d).1) (f k d).2.1 q).mp n,<-(pX b.w1 (f j u).1.some (l (f j u).1) (f j u).2.1 q).mp A]
 refine(List.perm_ext_iff_of_nodup v ((Be _).filter _)).mpr λt=>?_;rw[ww,jb,mG,decide_eq_true_iff];constructor
 .rintro⟨k,d,m⟩;obtain⟨q,p⟩:=Af b.w1 (f k d).1.some (l (f k d).1) m;have o:=(pX b.w1 (f k d).1.some (l (f k d).1) (f k d).2.1 p).mp m;exact⟨⟨by rw[q,(ways_shape (f k d).2.2).1],p⟩,by rw[o];exact(f k d).2.2⟩
 .rintro⟨⟨_,p⟩,o⟩;obtain⟨g,s⟩:=ways_good b o;have m:=(pX b.w1 g.some (l g) s p).mpr rfl;refine⟨_,jb.mpr ⟨(oV _).mem_iff.mpr o,?_⟩,m⟩;unfold hasT;rw[decide_eq_true_iff];intro z;rw[z]at m;cases m
theorem thr_sort{w:Nat}{c:List Tx}(b:Blur w c):aH ((viewsC w c).flatMap (dU w))=thrT w c:=(sZ (thr_perm b).symm ((Ev _).filter _)).symm
theorem thr_len{w:Nat}{c:List Tx}(b:Blur w c):(thrT w c).length<=531441:=by have f:=b.w4;have d:=b.g.few;refine c0 (Dt _ _) ?_;rw[Cf];exact S8 ∅
theorem th_loop{w:Nat}{c:List Tx}(b:Blur w c)(f:Slot):∃d,fX 2 (kr 1 (bF (a9 (nG a) (gV (dV 2) (Pu.bL))))) (vwsP w (viewsC w c)) [.val (a8 w c),.own (.lst []),f]=.ok .next [.val (a8 w c),.own (.lst (ao ((viewsC w c).flatMap (dU w)))),d]:=by
 have B:((viewsC w c).flatMap (dU w)).length<=531441:=by rw[(thr_perm b).length_eq];exact thr_len b
 obtain⟨u,q,d,p,rest,h,v,rfl⟩:=nK (i:=2) (db:=(kr 1 (bF (a9 (nG a) (gV (dV 2) (Pu.bL))))))
  (I:=λr m=>∃(f:Slot) (p rest:List (List Tx)),viewsC w c=p++rest/\r=vwsP w rest/\m=[.val (a8 w c),.own (.lst (ao (p.flatMap (dU w)))),f])
  (by
   rintro x r m ⟨f,p,rest,h,o,rfl⟩;cases rest with
   |nil=>cases o
   |cons k rest=>
    have n:x::r=a8 w k::vwsP w rest:=o;simp only[n_]at n;obtain⟨rfl,rfl⟩:=n;have y:k∈viewsC w c:=by rw[h];simp
    obtain⟨g,s⟩:=ways_good b ((oV _).mem_iff.mp (jb.mp y).1);have l:=Ts (a:=a) g b.w1 b.w4 s;have j:(ao (p.flatMap (dU w))).length+(ao (dU w k)).length<=bo:=by rw[mF,mF];rw[h,zS,re,dS,dS]at B;unfold bo;lia
    refine⟨[.val (a8 w c),.own (.lst (ao ((p++[k]).flatMap (dU w)))),.val (a8 w k)],?_,.val (a8 w k),p++[k],rest,by rw[h];simp,rfl,rfl⟩;have A:ao ((p++[k]).flatMap (dU w))=ao (p.flatMap (dU w))++ao (dU w k):=by simp[ao]
    rw[A];generalize ao (dU w k)=Y at l j;generalize ao (p.flatMap (dU w))=L at j;generalize a8 w k=K at l;generalize a8 w c=V;simp![kr,l,j])
  (vwsP w (viewsC w c)) [.val (a8 w c),.own (.lst (ao (([]:List (List Tx)).flatMap (dU w)))),f] ⟨f,[],viewsC w c,rfl,rfl,rfl⟩
 have z:rest=[]:=by cases rest with|nil=>rfl|cons=>cases v
 subst z;rw[fN]at h;rw[<-h]at q;exact⟨d,q⟩
theorem through_eq{w:Nat}{c:List Tx}(b:Blur w c):tq a [.val (a8 w c)]=.ok (.val (.lst (ao (thrT w c)))) [.val (a8 w c)]:=by have g:=cleared_eq (a:=a) b;obtain⟨j,f⟩:=th_loop (a:=a) b .none;have d:=yf (ls:=(viewsC w c).flatMap (dU w)) (by rw[(thr_perm b).length_eq];have:=thr_len b;lia);rw[thr_sort b]at d;have i:fu (.lst (vwsP w (viewsC w c)))=aa (vwsP w (viewsC w c)):=rfl;have h:B2 (.lst (ao (thrT w c)))=ah:=F_ _;generalize ao (thrT w c)=RT at d h;generalize ao ((viewsC w c).flatMap (dU w))=RF at f d;generalize vwsP w (viewsC w c)=VS at f g i;generalize a8 w c=V at f g;simp[tq,yaU,aK,cc,dB,d2,d1,dV,dC,dL,dF,ap,aC,cq,lC,bW,dy,a9,gV,gO,Pu.bL,d9,eP,cm,dR,f_,R.bind,aQ,bH,fk,bG,back,ge,mw,lG,uW,tF,sT,bF,iG,dE,br,dX,tJ,jA,zb,kb,tw,mZ,j_,lB,yG,nr,dD,eC,oQ,jv,oZ,bu,lU,dj,bJ,g,i,f,d,h]
end
structure Vd where
 w:Nat
 ls:List Tx
def tx(v:Vd):List Tx:=dU v.w v.ls
section
variable{a:Ad}
theorem N0{x:PV}(h:jt a [.val x]=.ok (.val (.bl aj)) [.val x]):nG a [.val x]=.er (.ref a.NoView) [.val x]:=by have b:=Eh h;simp![nG,yaT,b]
end
end Sh
namespace K11
open L2 Pu Mx Sh
section
variable{a:Ad}
def jR:PV:=.tup [.str [114,101,102,117,115,101,100],.int 2]
def Wh(a:Ad):Prop:=sV a [.val (.exc (.ref a.NoView))]=.ok (.val jR) [.val (.exc (.ref a.NoView))]
theorem Vq(h:sV a [.val (.exc (.ref a.NoView))]=.ok (.val jR) [.val (.exc (.ref a.NoView))]):Wh a:=h
theorem Ct{x:PV}(h:iZ a [.val x]=.ok (.val (.bl aj)) [.val x]):oJ a [.val x]=.er (.ref a.NoView) [.val x]:=by have b:=HY h;simp![oJ,yar,b]
theorem KC{x:PV}(h:iZ a [.val x]=.ok (.val (.bl aj)) [.val x]):tq a [.val x]=.er (.ref a.NoView) [.val x]:=by have b:=Ct h;simp![tq,yaU,dj,bJ,b]
theorem MU{x:PV}(h:iZ a [.val x]=.ok (.val (.bl aj)) [.val x]):zm a [.val x]=.er (.ref a.NoView) [.val x]:=by have b:=Ct h;simp![zm,yaR,b]
theorem Lh{x y:PV}(h:iZ a [.val x]=.ok (.val (.bl aj)) [.val x]):u7 a [.val x,.val y]=.er (.ref a.NoView) [.val x,.val y]:=by have b:=HY h;simp![u7,yat,b]
theorem N9{x:PV}(h:jt a [.val x]=.ok (.val (.bl aj)) [.val x]):yj a [.val x]=.er (.ref a.NoView) [.val x]:=by have b:=N0 h;simp![yj,yay,b]
theorem SM{x:PV}(h:jt a [.val x]=.ok (.val (.bl aj)) [.val x]):yL a [.val x]=.er (.ref a.NoView) [.val x]:=by have b:=Eh h;simp![yL,yaS,b]
theorem Nc(d:Wh a){x:PV}(h:iZ a [.val x]=.ok (.val (.bl aj)) [.val x])(i:Int)(m:0<=i/\i<4):fK a [⇑i,.val x]=.ok (.val jR) [⇑i,.val x]:=by
 have b:sV a _=_:=d;have c:oD a (.ref a.NoView)=ah:=by simp[oD,iL]
 have l:=Ct h;have j:=KC h;have g:=MU h;have f:=Lh (y:=.tup [.int 1,.tup [.str [97]]]) h;rcases(show i=0\/i=1\/i=2\/i=3 by lia)with rfl|rfl|rfl|rfl
 .have e:Pu.eqT aj (.int 0) (.int 3)=aa (.bl aj):=rfl;simp![fK,yaG,lE,lI,lN,eO,bz,e,l,c,b]
 .have e:Pu.eqT aj (.int 1) (.int 3)=aa (.bl aj):=rfl;simp![fK,yaG,lE,lI,lN,eO,bz,e,j,c,b]
 .have e:Pu.eqT aj (.int 2) (.int 3)=aa (.bl aj):=rfl;simp![fK,yaG,lE,lI,lN,eO,bz,e,g,c,b]
 .have e:Pu.eqT aj (.int 3) (.int 3)=aa (.bl ah):=rfl;simp![fK,yaG,lE,lI,lN,eO,bz,e,f,c,b]
theorem GX(d:Wh a){x:PV}(h:jt a [.val x]=.ok (.val (.bl aj)) [.val x])(i:Int)(f:i=4\/i=5):fK a [⇑i,.val x]=.ok (.val jR) [⇑i,.val x]:=by
 have b:sV a _=_:=d;have c:oD a (.ref a.NoView)=ah:=by simp[oD,iL]
 have j:=N9 h;have g:=SM h;rcases f with rfl|rfl
 .have e:Pu.eqT aj (.int 4) (.int 3)=aa (.bl aj):=rfl;simp![fK,yaG,lE,lI,lN,eO,bz,e,j,c,b]
 .have e:Pu.eqT aj (.int 5) (.int 3)=aa (.bl aj):=rfl;simp![fK,yaG,lE,lI,lN,eO,bz,e,g,c,b]
def nI(a:Ad)(x:PV):Prop:=jt a [.val x]=.ok (.val (.bl aj)) [.val x]/\iZ a [.val x]=.ok (.val (.bl aj)) [.val x]
theorem Qr(c:Nat)(b:c=97\/c=98\/c=99):nI a (.tup [.int 4,.tup [.str [46,46,46,46],.str [46,46,46,c]]]):=by
 constructor
 .have h:=AQ (a:=a) 4 [[46,46,46,46],[46,46,46,c]];have e:vw 4 [[46,46,46,46],[46,46,46,c]]=aj:=by simp[fR,gw,bC]
  rw[e]at h;exact h
 .have h:=Ib (a:=a) 4 [[46,46,46,46],[46,46,46,c]] (by rcases b with rfl|rfl|rfl <;> decide);have e:decide (ef [[46,46,46,46],[46,46,46,c]]<=6)=aj:=by rcases b with rfl|rfl|rfl <;> decide
  rw[e,Bool.and_false]at h;exact h
theorem Ph(c:Nat)(d:c=97\/c=98\/c=99):nI a (.tup [.int 2,.tup [.str [97,c],.str [46,98]]]):=by
 have b:¬[[97,c],[46,98]]=aH [[97,c],[46,98]]:=λh=>by have r:=o5 [[97,c],[46,98]];rw[<-h]at r;simp[cX]at r;rcases d with rfl|rfl|rfl <;> exact absurd r (by decide)
 constructor
 .exact GA (mC bC (w:=2) (ls:=[[97,c],[46,98]]) (by simp[fR,b]))
 .exact A_ _ (mC gM (w:=2) (ls:=[[97,c],[46,98]]) (by simp[fR,b]))
theorem Tk{x:PV}(h:x∈oY):nI a x:=⟨TW x h,QM x h⟩
theorem Tl(b:Wh a){x:PV}(h:nI a x)(i:Int)(c:0<=i/\i<6):fK a [⇑i,.val x]=.ok (.val jR) [⇑i,.val x]:=by
 by_cases d:i<4
 .exact Nc b h.2 i ⟨c.1,d⟩
 .exact GX b h.1 i ∅
theorem L_(n:Wh a){x:PV}(h:nI a x)(g f d c b:Slot):ju [3] cF (bF (a9 (fK a) (gV (dV 0) (gV (dV 1) (Pu.bL))))) [.int 0,.int 1,.int 2,.int 3,.int 4,.int 5] [] [g,f,d,.val x,c,b]=.ok (bu 6 jR) [g,f,d,.val x,c,b]:=by
 have l:=kf (cap:=[3]) (dt:=cF) (de:=bF (a9 (fK a) (gV (dV 0) (gV (dV 1) (Pu.bL))))) (ε:=[g,f,d,.val x,c,b]) (λ_=>ah) (λ_=>jR) [.int 0,.int 1,.int 2,.int 3,.int 4,.int 5]
  (by
   intro y j;obtain⟨i,o,rfl⟩:∃i:Int,(0<=i/\i<6)/\y=.int i:=by
    simp only[bI,gX,or_false]at j;rcases j with rfl|rfl|rfl|rfl|rfl|rfl
    .exact⟨0,by decide,rfl⟩
    .exact⟨1,by decide,rfl⟩
    .exact⟨2,by decide,rfl⟩
    .exact⟨3,by decide,rfl⟩
    .exact⟨4,by decide,rfl⟩
    .exact⟨5,by decide,rfl⟩
   have m:=Tl n h i o;generalize jR=RF at m;refine⟨by simp![dw,cP,bz,cF],λ_=>?_⟩;simp![dw,cP,bz,m]) []
 rw[gI,oj.mpr (by simp)]at l;exact l
theorem SX(n:Wh a){x:PV}(h:jt a [.val x]=.ok (.val (.bl aj)) [.val x])(g f d c b:Slot):ju [5] cF (bF (a9 (fK a) (gV (dV 0) (gV (dV 1) (Pu.bL))))) [.int 4,.int 5] [] [g,f,d,c,b,.val x]=.ok (bu 2 jR) [g,f,d,c,b,.val x]:=by
 have l:=kf (cap:=[5]) (dt:=cF) (de:=bF (a9 (fK a) (gV (dV 0) (gV (dV 1) (Pu.bL))))) (ε:=[g,f,d,c,b,.val x]) (λ_=>ah) (λ_=>jR) [.int 4,.int 5]
  (by
   intro y j;obtain⟨i,o,rfl⟩:∃i:Int,(i=4\/i=5)/\y=.int i:=by
    simp only[bI,gX,or_false]at j;rcases j with rfl|rfl
    .exact⟨4,.inl rfl,rfl⟩
    .exact⟨5,.inr rfl,rfl⟩
   have m:=GX n h i o;generalize jR=RF at m;refine⟨by simp![dw,cP,bz,cF],λ_=>?_⟩;simp![dw,cP,bz,m]) []
 rw[gI,oj.mpr (by simp)]at l;exact l
def dr(x:Tx):Tx:=46::x.drop 1
theorem Qw{x:Tx}(d:1<=x.length)(b:∀c∈x,c∈bC):Fit x (dr x):=by
 have:=fit_dot 0 b (fit_self b);cases x with
 |nil=>simp at d
 |cons c x=>exact this
theorem Hm{w:Nat}(f:1<=w):∀{b:List Tx},(∀x∈b,x.length=w)->(∀x∈b,∀c∈x,c∈bC)->fY Fit b (b.map dr)
 |[],_,_=>.nil
 |x::b,h,g=>.cons (Qw (by rw[h x (by simp)];exact f) (g x (by simp))) (Hm f (λy d=>h y (by simp[d])) λy d=>g y (by simp[d]))
theorem Nu{x:Tx}(b:∀c∈x,c∈bC):(dr x).count 46=1:=by unfold dr;rw[List.count_cons_self,List.count_eq_zero.mpr];intro h;have:=b 46 (J3 h);simp[bC]at this
theorem F7:∀{ls:List Tx},(∀x∈ls,∀c∈x,c∈bC)->ef (ls.map dr)=ls.length
 |[],_=>rfl
 |x::ls,d=>by have b:=F7 (ls:=ls) λy f=>d y (by simp[f]);unfold ef at b ⊢;rw[cn,cn,jg,b,Nu (d x (by simp)),eG,zC]
theorem MX{w:Nat}{ls:List Tx}(g:Good bC w ls)(i:1<=w)(h:w<=4)(j:ls.length<=6):Blur w (aH (ls.map dr)):=by
 have l:Good gM w (ls.map dr):=by
  refine⟨λx d=>?_,λx d c f=>?_,by rw[cz];exact g.some,by rw[cz];exact g.few⟩
  .obtain⟨y,b,rfl⟩:=cS.mp d;have:=g.len y b;simp[dr];lia
  .obtain⟨y,b,rfl⟩:=cS.mp d;rcases bI.mp f with rfl|f
   .simp[gM]
   .have:=g.abc y b c (J3 f);simp[bC]at this;simp[gM];lia
 exact⟨l.perm (eM _),i,h,by rw[Td (eM _),F7 g.abc];exact j,o5 _⟩
theorem SG{w:Nat}{ls:List Tx}(g:Good bC w ls)(c:1<=w)(h:ls.Pairwise (λa b=>cX a b=ah)):ls∈waysF (aH (ls.map dr)):=by obtain⟨f,d,i⟩:=paired_perm (eM (ls.map dr)).symm (Hm c g.len g.abc);exact waysF_mem.mpr ⟨f,by rw[<-uQ d,s_ h],i⟩
theorem T3{w:Nat}{ls:List Tx}(g:Good bC w ls):jt a [.val (a8 w (aH (ls.map dr)))]=.ok (.val (.bl aj)) [.val (a8 w (aH (ls.map dr)))]:=by
 have h:=AQ (a:=a) w (aH (ls.map dr));have e:vw w (aH (ls.map dr))=aj:=by
  cases b:vw w (aH (ls.map dr))with
  |false=>rfl
  |true=>have f:=g.some;obtain⟨x,r,e⟩:∃x r,ls=x::r:=zU (by rintro rfl;simp at f);have d:dr x∈aH (ls.map dr):=(eM _).mem_iff.mpr (by rw[e];simp);unfold vw fR at b;simp only[gG,lZ]at b;have c:=b.2.2.1 _ d;unfold gw at c;simp[dr,bC]at c
 rw[e]at h;exact h
theorem TH(ls:List Tx)(h:∀x∈ls,x.length<=10)(ε:ak):ju [] cF (d2 bi (dC (.str [46])) (cO c_ (dV 0) (cI (dC (.int 1))) dv)) (ao ls) [] ε=.ok (ao (ls.map dr)) ε:=by
 have d:=kf (cap:=[]) (dt:=cF) (de:=d2 bi (dC (.str [46])) (cO c_ (dV 0) (cI (dC (.int 1))) dv)) (ε:=ε) (λ_=>ah) (λx=>match x with|.str t=>.str (dr t)|_=>.non) (ao ls)
  (by
   intro x f;obtain⟨t,g,rfl⟩:=cS.mp f;have i:=h t g;have c:c_ (.str t) (aa 1) ae=aa (.str (t.drop 1)):=by show aa (PV.str (gh t (aa ((1:Nat):Int)) _))=_;rw[Bl]
   have b:bi (.str [46]) (.str (t.drop 1))=aa (.str (dr t)):=nu (by simp[bo];lia);generalize t.drop 1=D at c b;dsimp only;generalize dr t=D1 at b;refine⟨by simp![dw,cP,bz,cF],λ_=>?_⟩;simp![dw,cP,bz,cO,cI,dv,c,b]) []
 rw[gI,oj.mpr (by simp)]at d;rw[d];congr 1;simp[ao,et,t7]
theorem LI{w:Nat}{c:List Tx}(b:Blur w c):fK a [⇑0,.val (a8 w c)]=.ok (.own (.lst (vwsP w (viewsC w c)))) [⇑0,.val (a8 w c)]:=by have h:=cleared_eq (a:=a) b;have e:Pu.eqT aj (.int 0) (.int 3)=aa (.bl aj):=rfl;generalize vwsP w (viewsC w c)=VS at h;generalize a8 w c=V at h;simp![fK,yaG,lE,lI,lN,eO,bz,e,h]
theorem QC{w:Nat}{c:List Tx}(b:Blur w c):fK a [⇑1,.val (a8 w c)]=.ok (.val (.lst (ao (thrT w c)))) [⇑1,.val (a8 w c)]:=by have h:=through_eq (a:=a) b;have e:Pu.eqT aj (.int 1) (.int 3)=aa (.bl aj):=rfl;generalize ao (thrT w c)=VS at h;generalize a8 w c=V at h;simp![fK,yaG,lE,lI,lN,eO,bz,e,h]
theorem EK{x:PV}{xs:List PV}:fj (x::xs) 0=aa x:=by unfold fj;rw[Iw (by decide) (by simp)];rfl
theorem NN{w:Nat}{c:List Tx}(b:Blur w c){k:List Tx}{t:Tx}{ks:List (List Tx)}{d:List Tx}(u:viewsC w c=k::ks)(s:thrT w c=t::d)(m l j i h:Slot):ju [5] cF (d2 bn (bF (a9 (fK a) (gV (dV 0) (gV (dV 1) (Pu.bL))))) (dC (.int 0))) [.int 0,.int 1] [] [m,l,j,i,h,.val (a8 w c)]=.ok [a8 w k,.str t] [m,l,j,i,h,.val (a8 w c)]:=by
 have g:=LI (a:=a) b;have f:=QC (a:=a) b;rw[u]at g;rw[s]at f;have r:tF (.own (.lst (vwsP w (k::ks))))=aa (.lst (vwsP w (k::ks))):=rfl;have n:bn (.lst (vwsP w (k::ks))) (.int 0)=aa (a8 w k):=by show fj (a8 w k::vwsP w ks) 0=_;exact EK
 have o:bn (.lst (ao (t::d))) (.int 0)=aa (.str t):=by show fj (.str t::ao d) 0=_;exact EK
 have q:=kf (cap:=[5]) (dt:=cF) (de:=d2 bn (bF (a9 (fK a) (gV (dV 0) (gV (dV 1) (Pu.bL))))) (dC (.int 0))) (ε:=[m,l,j,i,h,.val (a8 w c)]) (λ_=>ah) (λx=>match x with|.int 0=>a8 w k|_=>.str t) [.int 0,.int 1]
  (by
   intro y p;simp only[bI,gX,or_false]at p;generalize a8 w c=V at g f;generalize ao (t::d)=TS at f o;generalize vwsP w (k::ks)=VS at g n r;rcases p with rfl|rfl
   .generalize a8 w k=K at n;refine⟨by simp![dw,cP,bz,cF],λ_=>?_⟩;simp![dw,cP,bz,g,n,r]
   .refine⟨by simp![dw,cP,bz,cF],λ_=>?_⟩;simp![dw,cP,bz,f,o]) []
 rw[gI,oj.mpr (by simp)]at q;exact q
end
section
variable{a:Ad}
theorem EL(b:Bool)(n:Nat)(c:n=6\/n=2):Pu.eqT b (.lst (bu n jR)) (.lst (bu n (.tup [.str [114,101,102,117,115,101,100],.int 2])))=aa (.bl b.not):=by
 rcases c with rfl|rfl <;> cases b <;> rfl
theorem IU(n:Nat)(b:n=6\/n=2):qp (.lst [.tup [.str [114,101,102,117,115,101,100],.int 2]]) (.int n)=aa (.lst (bu n (.tup [.str [114,101,102,117,115,101,100],.int 2]))):=by rcases b with rfl|rfl <;> rfl
def sG:List PV:=[.str [97],.str [98],.str [99]]
def W1(a:Ad):ak->R aO:=cc (dB (d2 (Pu.eqT aj) (dV 2) (dC (.int 0)))) (bW 3 (dL br (ap (dC (.int 4)) (ap (dL br (ap (dC (.str [46,46,46,46])) (ap (d2 bi (dC (.str [46,46,46])) (bF (a9 (nt a) (gV (dV 0) (gO 1 (gV (dF (dL dE (ap (dC (.str [97])) (ap (dC (.str [98])) (ap (dC (.str [99])) (aC)))))) (Pu.bL))))))) (aC)))) (aC))))) (dX)
def W2(a:Ad):ak->R aO:=cc (dB (d2 (Pu.eqT aj) (dV 2) (dC (.int 1)))) (bW 3 (dL br (ap (dC (.int 2)) (ap (dL br (ap (d2 bi (dC (.str [97])) (bF (a9 (nt a) (gV (dV 0) (gO 1 (gV (dF (dL dE (ap (dC (.str [97])) (ap (dC (.str [98])) (ap (dC (.str [99])) (aC)))))) (Pu.bL))))))) (ap (dC (.str [46,98])) (aC)))) (aC))))) (dX)
theorem kZ(m n:Int):Pu.eqT aj (.int m) (.int n)=aa (.bl (decide (m=n))):=by show(if nB (.int m) (.int n)then aa (PV.bl (aj^^decide (V.int m=V.int n)))else ae)=_;have:nB (.int m) (.int n)=ah:=rfl;rw[if_pos this];simp
theorem Gq{x:PV}(h:x∈sG):∃c,(c=97\/c=98\/c=99)/\x=.str [c]:=by
 simp only[sG,bI,gX,or_false]at h;rcases h with rfl|rfl|rfl
 .exact⟨97,.inl rfl,rfl⟩
 .exact⟨98,.inr (.inl rfl),rfl⟩
 .exact⟨99,.inr (.inr rfl),rfl⟩
theorem Ob(d:List Int)(b:List PV)(r:b.length<=500)(m:Int){x:PV}(l:nI a x)(i h:Slot):∃(f:List PV) (y:PV),f.length<=b.length+1/\nI a y /\ W1 a [cg d,.own (.lst b),⇑m,.val x,i,h]=.ok .next [cg d,.own (.lst f),⇑m,.val y,i,h]:=by
 by_cases j:m=0
 .subst j;obtain⟨p,n,g⟩:=yY (a:=a) d b sG ∅ (by decide);obtain⟨c,o,rfl⟩:=Gq n;unfold sG at g;have e:=kZ 0 0;refine⟨b++[.int 0],_,by simp,Qr c o,?_⟩
  .have q:bi (.str [46,46,46]) (.str [c])=aa (.str [46,46,46,c]):=nu (by simp[bo]);simp![W1,e,g,q]
 .have e:=kZ m 0;rw[decide_eq_false j]at e;exact⟨b,x,∅,l,by simp![W1,e]⟩
theorem MV(d:List Int)(b:List PV)(r:b.length<=500)(m:Int){x:PV}(l:nI a x)(i h:Slot):∃(f:List PV) (y:PV),f.length<=b.length+1/\nI a y /\ W2 a [cg d,.own (.lst b),⇑m,.val x,i,h]=.ok .next [cg d,.own (.lst f),⇑m,.val y,i,h]:=by
 by_cases j:m=1
 .subst j;obtain⟨p,n,g⟩:=yY (a:=a) d b sG ∅ (by decide);obtain⟨c,o,rfl⟩:=Gq n;unfold sG at g;have e:=kZ 1 1;refine⟨b++[.int 0],_,by simp,Ph c o,?_⟩
  .have q:bi (.str [97]) (.str [c])=aa (.str [97,c]):=nu (by simp[bo]);simp![W2,e,g,q]
 .have e:=kZ m 1;rw[decide_eq_false j]at e;exact⟨b,x,∅,l,by simp![W2,e]⟩
theorem Pf(Y:Wh a)(d:List Int):uU a [cg d]=.ok (.val (.bl ah)) [cg d]:=by
 obtain⟨m,_,_,hd⟩:=qG (a:=a) d [] 4 (by decide) (by simp);obtain⟨x,n,W,H,ho⟩:=KB (a:=a) d ([]++[.int 0]) (by simp);simp only[gI,eG,pt]at hd ho H;obtain⟨y2,x2,hy2,mj,T⟩:=Ob (a:=a) d W ∅ m (Tk n) .none .none;obtain⟨s,j,hy3,I,S⟩:=MV (a:=a) d y2 ∅ m mj .none .none;have h6:=L_ Y I (cg d) (.own (.lst s)) (⇑m) .none .none;obtain⟨w,ls,i,u,w4,_,g,hs,P,hz,hys,hv⟩:=P3 (a:=a) d s 0 6 (by decide) (by decide) (by decide) ∅;obtain⟨z,rfl,hz1,hz2,p⟩:=hz rfl;have b:=MX g u w4 P;have hw:=SG g u hs;have O:=T3 (a:=a) g;have l:=TH (aH (aT z w)) (λx n=>by rw[g.len x n];lia);have A:=yf (ls:=(aH (aT z w)).map dr) (by rw[cz];lia);have jj:∀x∈aH (aT z w),x.length=w/\∀c∈x,c∈bC:=λx n=>⟨g.len x n,g.abc x n⟩
 have o:z∈dU w (aH (aT z w)):=(pX u g.some jj hs p).mpr rfl;have G:z∈thrT w (aH ((aH (aT z w)).map dr)):=by refine jb.mpr ⟨(mG _ _).mpr ⟨?_,p⟩,decide_eq_true hw⟩;rw[(eM _).length_eq,cz,(eM _).length_eq,o4 u];lia
 have J:aH (aT z w)∈viewsC w (aH ((aH (aT z w)).map dr)):=by
  refine jb.mpr ⟨(oV _).mem_iff.mpr hw,?_⟩;unfold hasT;rw[decide_eq_true_iff];intro e;rw[e]at o;cases o
 obtain⟨k,ks,hk⟩:=zU (List.ne_nil_of_mem J);obtain⟨t,ts,ht⟩:=zU (List.ne_nil_of_mem G);have M:t.length≠7\/t≠[114,101,102,117,115,101,100]:=by
  have L:t∈thrT w (aH ((aH (aT z w)).map dr)):=by rw[ht];simp
  have:=((mG _ _).mp (jb.mp L).1).2;right;rintro rfl;have:=this 114 (by simp);simp[bC]at this
 have K:t≠[114,101,102,117,115,101,100]:=by
  rcases M with h|h
  .rintro rfl;exact h rfl
  .exact h
 have Q:=NN (a:=a) b hk ht (cg d) (.own (.lst i)) (⇑m) (.val j) (.val (a8 w (aH (aT z w))));have y:=SX Y O (cg d) (.own (.lst i)) (⇑m) (.val j) (.val (a8 w (aH (aT z w))));have jK:yS (.str [114,101,102,117,115,101,100]) (.lst [a8 w k,.str t])=aa (.bl aj):=by show aa (PV.bl (aj||(eX (tV t) (tV [114,101,102,117,115,101,100])||aj)))=_;rw[T7];simp[K]
 have N:kn [.int 6]=aa [.int 0,.int 1,.int 2,.int 3,.int 4,.int 5]:=rfl;have pN:kn [.int 2]=aa [.int 0,.int 1]:=rfl;have D:=EL ah 6 (.inl rfl);have E:=EL aj 2 (.inr rfl);have Z:qp (.lst [.tup [.str [114,101,102,117,115,101,100],.int 2]]) (.int 6)=_:=IU 6 (.inl rfl);have m2:qp (.lst [.tup [.str [114,101,102,117,115,101,100],.int 2]]) (.int 2)=_:=IU 2 (.inr rfl);have r:¬(6:Int)<((aH (aT z w)).length:Nat):=∅
 have F:bn (a8 w (aH (aT z w))) (.int 0)=aa (.int w):=rfl;have v:bn (a8 w (aH (aT z w))) (.int 1)=aa (.tup (ao (aH (aT z w)))):=rfl;have eT:fu (.tup (ao (aH (aT z w))))=aa (ao (aH (aT z w))):=rfl;have zZ:fu (.tup [.int 4,.int 5])=aa [.int 4,.int 5]:=rfl;have f:PV.tup [.int w,.tup (ao (aH ((aH (aT z w)).map dr)))]=a8 w (aH ((aH (aT z w)).map dr)):=rfl;have q:kl [.lst (ao (aH ((aH (aT z w)).map dr)))]=aa (.tup (ao (aH ((aH (aT z w)).map dr)))):=rfl;have C:bP [.tup (ao (aH (aT z w)))]=aa (.int ((aH (aT z w)).length:Nat)):=by simp[bP,ao]
 have X:uw a [cg d,.own (.lst s),⇑0,⇑6]=.ok (.val (a8 w (aH (aT z w)))) [cg d,.own (.lst i),⇑0,⇑6]:=hv;have ug:yaF a [cg d,.none,.none,.none,.none,.none]=.ok (.ret (.val (.bl ah))) [cg d,.own (.lst i),⇑m,.val j,.val (a8 w (aH (aT z w))),.val (a8 w (aH ((aH (aT z w)).map dr)))]:=by unfold yaF;refine(cT (ε1:=[cg d,.own (.lst []),.none,.none,.none,.none]) (by simp![])).trans ?_;refine(cT (ε1:=[cg d,.own (.lst [.int 0]),⇑m,.none,.none,.none]) (by simp![hd])).trans ?_;refine(cT (ε1:=[cg d,.own (.lst W),⇑m,.val x,.none,.none]) (by simp![ho])).trans ?_;refine(cT T).trans ?_;refine(cT S).trans ?_;generalize ao (aH ((aH (aT z w)).map dr))=B1 at A f q;generalize a8 w (aH ((aH (aT z w)).map dr))=B at f Q y ⊢;generalize ao ((aH (aT z w)).map dr)=B0 at l A;generalize a8 w (aH (aT z w))=V at X Q y F v ⊢;generalize ao (aH (aT z w))=V1 at v eT l C;generalize (((aH (aT z w)).length:Nat):Int)=VL at C r;generalize ((w:Nat):Int)=WI at F f;refine(cT (ε1:=[cg d,.own (.lst s),⇑m,.val j,.none,.none]) (by generalize bu 6 jR=RR at h6 D;generalize bu 6 (PV.tup [.str [114,101,102,117,115,101,100],.int 2])=RQ at D Z;simp![cV,N,h6,Z,D])).trans ?_;refine(cT (ε1:=[cg d,.own (.lst i),⇑m,.val j,.val V,.none]) (by simp![X])).trans ?_;refine(cT (ε1:=[cg d,.own (.lst i),⇑m,.val j,.val V,.val B]) (by simp![cV,bJ,F,v,eT,l,A,q,f])).trans ?_;refine(cT (ε1:=[cg d,.own (.lst i),⇑m,.val j,.val V,.val B]) (by simp![cV,pN,v,C,r,Q,jK])).trans ?_;generalize bu 2 jR=RR at y E;generalize bu 2 (PV.tup [.str [114,101,102,117,115,101,100],.int 2])=RQ at E m2;simp![cV,bJ,zZ,y,m2,E]
 simp[uU,bH,fk,bG,bu,ug,back,ge,aQ,R.bind]
end
open L2 Pu Sh
def vE(K:ay)(a:Ad):Bool:=pF K a.SlitError vk "ValueError.__new__" && (iL a).all (λx=>pF K x vk "ValueError.__new__" && subB K a.SlitError x&&yw K x&&(iL a).all (λd=>eQ K (.ref x) (.ref d) == aa (x == d))&&eQ K (.ref x) (.type "ValueError") == aa ah)&&z_ K&&decide (iL a).Nodup
section
variable{K:ay}{h g:aD}{i:Str->Option ai}{a:Ad}
theorem uZ(h:vE K a=ah):pF K a.SlitError vk "ValueError.__new__"=ah/\(∀x∈iL a,pF K x vk "ValueError.__new__"=ah/\subB K a.SlitError x=ah/\yw K x=ah/\(∀d∈iL a,eQ K (.ref x) (.ref d)=aa (x == d))/\eQ K (.ref x) (.type "ValueError")=aa ah)/\z_ K=ah/\(iL a).Nodup:=by unfold vE at h;simp only[gG,lZ,beq_iff_eq,decide_eq_true_eq]at h;obtain⟨⟨⟨l,c⟩,j⟩,f⟩:=h;exact⟨l,λx b=>⟨(c x b).1.1.1.1,(c x b).1.1.1.2,(c x b).1.1.2,(c x b).1.2,(c x b).2⟩,j,f⟩
theorem Qv(h:vE K a=ah):AS K (js a):=by
 obtain⟨_,l,_,_⟩:=uZ h;intro c D b e;unfold js at e;split at e
 .rename_i x d;split at e
  .rename_i f;rw[gG]at f;cases e;have j:x∈iL a:=by simpa using f.1
   have m:d∈iL a:=by simpa using f.2
   exact⟨x,.ref d,rfl,FA (l x j).2.2.1,rfl,(l x j).2.2.2.1 d m⟩
  .cases e
 .rename_i x T;split at e
  .rename_i f;rw[gG]at f;cases e;have j:x∈iL a:=by simpa using f.1
   have n:T = "ValueError":=by simpa using f.2
   subst n;exact⟨x,.type "ValueError",rfl,FA (l x j).2.2.1,rfl,(l x j).2.2.2.2⟩
  .cases e
 .cases e
theorem Rk(X:K.In g)(h:vE K a=ah):∀c,oD a c=ah->Under g a.SlitError c:=by
 obtain⟨_,d,_,_⟩:=uZ h;intro c e;unfold oD at e;split at e
 .rename_i x;have b:x∈iL a:=by simpa using e
  exact MY X (d x b).1 (d x b).2.1
 .cases e
structure Top(K:ay)(a:Ad):Prop where
 yaH:cK K "_law_cell_at" Ar
 yaJ:cK K "_law_mixed" Ag
 yaI:cK K "_law_draw" Bf
 yaL:cK K "_law_pick" Cj
 yaK:cK K "_law_odd" Cy
 yaC:cK K "is_whole_number" AI
 yaD:cK K "is_width" Cz
 yax:cK K "has_only" xP
 yaE:cK K "is_window" B4
 yan:cK K "are_windows" xU
 yaB:cK K "is_view_with" BU
 yaz:cK K "is_blurred_view" BE
 yap:cK K "check_blurred_view" Co
 yaA:cK K "is_view" Bu
 yaq:cK K "check_view" CA
 yaV:cK K "windows_that_fit" xT
 yas:cK K "clearing_views" xq
 yat:cK K "clears" A5
 yaP:cK K "_law_which" AX
 yav:cK K "excesses" Ak
 yaQ:cK K "reached_pieces" Av
 yaw:cK K "find_bar" vf
 yao:cK K "bar" Cw
 yar:cK K "cleared" ym
 yam:cK K "add_endings" AV
 yau:cK K "counted" Ay
 yaT:cK K "texts" zl
 yaU:cK K "through" Bo
 yaR:cK K "seen" Bg
 yay:cK K "how_many" A8
 yaS:cK K "shortest" BQ
 yaG:cK K "_law_ask" AF
 yaM:cK K "_law_seen" xk
 yaN:cK K "_law_text" A2
 yaO:cK K "_law_view" AB
 yaF:cK K "law" oB
 yaW:c8 K b8 "ValueError"=aa ae
 yaX:c8 K b8 "all"=aa ae
 yaY:c8 K b8 "any"=aa ae
 yaZ:c8 K b8 "bool"=aa ae
 ya0:c8 K b8 "enumerate"=aa ae
 ya1:c8 K b8 "int"=aa ae
 ya2:c8 K b8 "isinstance"=aa ae
 ya3:c8 K b8 "len"=aa ae
 ya4:c8 K b8 "list"=aa ae
 ya5:c8 K b8 "range"=aa ae
 ya6:c8 K b8 "set"=aa ae
 ya7:c8 K b8 "sorted"=aa ae
 ya8:c8 K b8 "str"=aa ae
 ya9:c8 K b8 "tuple"=aa ae
 ybb:∃t,c8 K b8 "LETTERS"=aa (aa (.str (tS [97,98,99]) t))
 ybc:∃t,c8 K b8 "MOST_POINTS"=aa (aa (.int 6 t))
 ybd:∃t,c8 K b8 "MOST_WINDOWS"=aa (aa (.int 9 t))
 ybe:∃t,c8 K b8 "POINT"=aa (aa (.str (tS [46]) t))
 ybf:∃t,c8 K b8 "WIDEST"=aa (aa (.int 4 t))
 yak:c8 K b8 "SlitError"=aa (aa (.ref a.SlitError))
 yaf:c8 K b8 "NoText"=aa (aa (.ref a.NoText))
 yah:c8 K b8 "NoWidth"=aa (aa (.ref a.NoWidth))
 yag:c8 K b8 "NoView"=aa (aa (.ref a.NoView))
 yai:c8 K b8 "NoWindow"=aa (aa (.ref a.NoWindow))
 yac:c8 K b8 "Never"=aa (aa (.ref a.Never))
 yab:c8 K b8 "Full"=aa (aa (.ref a.Full))
 yaj:c8 K b8 "Nothing"=aa (aa (.ref a.Nothing))
 yal:c8 K b8 "Unlike"=aa (aa (.ref a.Unlike))
 yae:c8 K b8 "NoPlace"=aa (aa (.ref a.NoPlace))
 yad:c8 K b8 "NoLetters"=aa (aa (.ref a.NoLetters))
 yaa:c8 K b8 "BadText"=aa (aa (.ref a.BadText))
 ck:vE K a=ah
 z0:qM K "road"=ae
 wh:Wh a
theorem M9(T:Top K a)(X:K.In g)(G:g.Ns b8 i):cR K i g a where
 yaH:=T.yaH.at X G
 yaJ:=T.yaJ.at X G
 yaI:=T.yaI.at X G
 yaL:=T.yaL.at X G
 yaK:=T.yaK.at X G
 yaC:=T.yaC.at X G
 yaD:=T.yaD.at X G
 yax:=T.yax.at X G
 yaE:=T.yaE.at X G
 yan:=T.yan.at X G
 yaB:=T.yaB.at X G
 yaz:=T.yaz.at X G
 yap:=T.yap.at X G
 yaA:=T.yaA.at X G
 yaq:=T.yaq.at X G
 yaV:=T.yaV.at X G
 yas:=T.yas.at X G
 yat:=T.yat.at X G
 yaP:=T.yaP.at X G
 yav:=T.yav.at X G
 yaQ:=T.yaQ.at X G
 yaw:=T.yaw.at X G
 yao:=T.yao.at X G
 yar:=T.yar.at X G
 yam:=T.yam.at X G
 yau:=T.yau.at X G
 yaT:=T.yaT.at X G
 yaU:=T.yaU.at X G
 yaR:=T.yaR.at X G
 yay:=T.yay.at X G
 yaS:=T.yaS.at X G
 yaG:=T.yaG.at X G
 yaM:=T.yaM.at X G
 yaN:=T.yaN.at X G
 yaO:=T.yaO.at X G
 yaF:=T.yaF.at X G
 yaW:=kG X G T.yaW
 yaX:=kG X G T.yaX
 yaY:=kG X G T.yaY
 yaZ:=kG X G T.yaZ
 ya0:=kG X G T.ya0
 ya1:=kG X G T.ya1
 ya2:=kG X G T.ya2
 ya3:=kG X G T.ya3
 ya4:=kG X G T.ya4
 ya5:=kG X G T.ya5
 ya6:=kG X G T.ya6
 ya7:=kG X G T.ya7
 ya8:=kG X G T.ya8
 ya9:=kG X G T.ya9
 ybb:=T.ybb.imp λ_ e=>gY X G e
 ybc:=T.ybc.imp λ_ e=>gY X G e
 ybd:=T.ybd.imp λ_ e=>gY X G e
 ybe:=T.ybe.imp λ_ e=>gY X G e
 ybf:=T.ybf.imp λ_ e=>gY X G e
 yak:=gY X G T.yak
 yaf:=gY X G T.yaf
 yah:=gY X G T.yah
 yag:=gY X G T.yag
 yai:=gY X G T.yai
 yac:=gY X G T.yac
 yab:=gY X G T.yab
 yaj:=gY X G T.yaj
 yal:=gY X G T.yal
 yae:=gY X G T.yae
 yad:=gY X G T.yad
 yaa:=gY X G T.yaa
 yba:=Mj X (gY X G T.yag) ((uZ T.ck).2.1 a.NoView (by simp[iL])).1
 err_SlitError:=SN X (uZ T.ck).1
 und:=Rk X T.ck
 tab:=Qv T.ck
theorem Oj{l:CP}{w:aL}{d:ag}(X:K.In h)(G:h.Ns b8 i)(b:i "law"=aa (.ref d))(T:Top K a):∃c:gi,(∀(s:am) (v:ai),BindsTo s c ⟨[v],[]⟩ [("_law_script",v)])/\∀g:aD,K.In g->g.Ns b8 i->jP l.prog w K i g (bU l.prog w) 17 d c ["_law_script"] (bt K (uU a)):=by
 obtain⟨f,oc,x,kV,y,u,B,A,z,r,o,n,m,j⟩:=T.yaF;have e:=b.symm.trans (gY X G o);cases e;exact⟨_,λs v=>.of_eq rfl,λg p q=>Pq (M9 T p q) (HP n m j)⟩
theorem NK{l:CP}{q:aV}{j:List Str}{XP:(Str->Option ai)->aD->Prop}{o:aL->aD->Prop}{d:DefRec}{K:Params->ay}(y:l.most=aa 63)(u:d.params.defaults=[])(m:d.name = "law")(A:∀(w:aL) (h:aD),o w h->(K w.params).In h) {a:Ad} (T:∀w:aL,Top (K w.params) a):PySem.W.WalkO q j XP o l.row.toRowW d [] (λf r=>PySem.call f r) :=
 L2.Vx (n:=63) (k:=17) (x:="_law_script") (K:=K) (CX:=λw=>bU l.prog w) (sp:=λw=>bt (K w.params) (uU a)) y (by decide) u ⟨rfl,by decide,by decide⟩ (λw h Y=>⟨A w h Y,λc P e=>by rw[(T w).z0]at e;cases e⟩)
  (λw i F h C G p=>Oj C G (by rw[<-m];exact p) (T w))
  (λw H b v E _ B=>Tf (Sm (uZ (T w).ck).2.2.1 B) (Pf (T w).wh v))
  (λw H s e D z=>by obtain⟨_,_,_,_,_,_,_,_,_,_,_,f⟩:=z;exact f)
theorem Vr{l:CP}{q:aV}{b:List Str}{XP:(Str->Option ai)->aD->Prop}{j:aL->aD->Prop}{d:DefRec}{K:Params->ay}{yak yaf yah yag yai yac yab yaj yal yae yad yaa:ag}(o:l.most=aa 63)(n:d.params.defaults=[])(c:d.name = "law")(p:∀(w:aL) (h:aD),j w h->(K w.params).In h) (T:∀w:aL,Top (K w.params) ⟨yak,yaf,yah,yag,yai,yac,yab,yaj,yal,yae,yad,yaa,0,0⟩):PySem.W.WalkO q b XP j l.row.toRowW d [] (λf m=>PySem.call f m):=NK o n c p T
end
end K11
set_option genInjectivity false in
structure PySem.W.Fast:Prop where(tw18240465087229845810 tw7549940003463343299 tw4658528343980975764 tw15486638678124743832 tw131086639349509694 tw9000367034679070643 tw2192104303573950815 tw18087471305794568832 tw17513793996161330769 tw14451816384402884303 tw8566973966727462579 tw12830070921251329865 tw14852359421100338750 tw7390016786442566883 tw16157435027138575928 tw11294995883268674073 tw12126624064338739708 tw18390863718977004901 tw17566903351748827413 tw2678528323615368663 tw3210812255564138126 tw14403402391913336785 tw17170270820960722855 tw13079979751839119300 tw9275590293142856656 tw409544457204992910 tw4377724645728862287 tw13023495095699181267 tw10582081341795416997 tw5754834975391549878 tw6518621904489896859 tw7265862966394902788 tw5289249900766904635 tw3550174198475910857 tw15483692746289836883 tw8751979909482716998 tw11386706549633310247 tw15094566746910899429 tw1584752332352802371 tw15736912639145528846 tw17828467278416475797 tw17064854845696472095 tw13526795568168129761 tw11090097143023341640 tw17457237996135786304 tw4434471512317686484 tw9120950913159758527 tw17764198508989685774 tw12676777573867625500 tw1475748288312606859 tw15500479888441491319 tw263024175563711999 tw16837241684482732485 tw3458570527390056538 tw3295627710073559596 tw10746121234916457439 tw9356667006242175708 tw5733067012094037522 tw218654383834496077 tw10900224443944724481 tw10072112221362032225 tw314632616570340581 tw543978231223412102 tw7864474000462873650 tw16279295549677640284 tw17748501836897405897 tw6950783794771160090 tw15403016200156729754 tw7133360119051333206 tw197300836156124363 tw8305023384968106120 tw9043430114434078637 tw11093796694747547936 tw10627687225346217016 tw16576020084311716353 tw6317645916810059671 tw17054676003963988903 tw9909463462084587847 tw17013637525939834262 tw10596682984127901088 tw18202296906983291042 tw343525127246111759 tw4617321069258301085 tw10258554503612935144 tw8284875267885886523 tw15747807360933920756 tw13871167309642154557 tw3975650804174508959 tw4716729846739954463 tw1893314463453130236 tw16967876924616547419 tw9621476465773543454 tw12930602691456902555 tw6787632894979949512 tw10304618096976064322 tw11130900607040933989 tw13514344929145069381 tw18427131929743537384 tw12051747722092385468 tw9173846849132154467 tw10068902076149417809 tw15689597564205987358 tw5832259016794873009 tw8750446486334806845 tw472308223124991750 tw8165851323931644465 tw5399849046389921102 tw14956859538797396625 tw2891508938980932012 tw15155307538960235994 tw9701631511856323758 tw14235397768031699012 tw12166718673280326993 tw10037301628132769576 tw7540933664965326583 tw10272685351241919702 tw16601232832420140935 tw5926947390609178390 tw5382997601210951339 tw6258831530400248368 tw15574995204092267247 tw12913054610811784486 tw969174082452870271 tw1507491209879687773 tw9257305697329000592 tw1941391261759468716 tw4671192569470982291 tw8743422055563169780 tw14500593815370912228 tw8131488574978890629 tw16781066452818082172 tw9391937376752537075 tw17721802704631473889 tw13196691124897173687 tw6727480132046381460 tw5051973300472058841 tw8469236123501132422 tw13914630924662267609 tw3295755259524007379 tw3845989477778165396 tw8267529143895730089 tw6600299970650117344 tw2597284414603669625 tw4838724691840772759 tw55281041425624919 tw11750788674905259040 tw15065790815138130934 tw6685414006195897489 tw8472609307500477774 tw16186112525705503378 tw14871823670248674096 tw12758133261904169958 tw5313016190541880756 tw16324966080868978464 tw2080029359677834277 tw14927418814004777730 tw12373282989483857394 tw16058645488045987363 tw159137253191329422 tw15493374932314931070 tw3290481789092897111 tw11666092008380551440 tw252747337862485658 tw908812479779199454 tw13967978231804766707 tw2259937209582709386 tw6853743213280266157 tw15144341706530650992 tw16213313637272317518 tw8177887286193500734 tw5916023066544522714 tw9816038542787412218 tw9409805675677512324 tw17431528027394433870 tw10132501269090301292 tw2196281734145447155 tw17784099266958240078 tw4750171142982672105 tw3774833985168366685 tw16867560056999832444 tw7308228733025818650 tw7368903537505972446 tw11401883006138360431 tw5093898120613880942 tw1044838397711264686 tw12976926827377743982 tw3569368107961616823 tw5324993921899149521 tw8721120634372453381 tw15756140703128032645 tw8749132926632494508 tw9953476499592299164 tw10733289515411676258 tw16860403649680977499 tw8064254880553453793 tw4199482574724983651 tw13801034932895607657 tw1722211928997867817 tw948917221828115215 tw15603908900525861417 tw5564827000369023655 tw8859230660190068775 tw15621490135868072052 tw11276139848115663022 tw6195246815065268048 tw17053581116041067297 tw8020038440586290608 tw6035020860556378303 tw3493148657193571743 tw7781292332931148459 tw6684914761410148967 tw1197823813902140479 tw842885834338986010 tw16925510164403686181 tw5890919045390055088 tw13468652431492160141 tw2382144765065083452 tw6797030153335511158 tw9462280163228444220 tw7732068289525967974 tw9257830774784218640 tw12377964008017636428 tw12980640639737894391 tw3982919471996444037 tw714015230791371261 tw13108728612372878419 tw15480186437012870771 tw12943857468758492462 tw6342485078097952253 tw15173205367468852510 tw7303020177121003771 tw3721573502238723079 tw18374298868295993535 tw16988383282750473289 tw14548232597685909197 tw2020346227384956514 tw9634231039347434291 tw11695933079449604349 tw9200666146683533638 tw10591023094833438476 tw14025463422509262143 tw17821975420171916952 tw2186434266216222432 tw15015941640124589275 tw16363152102604432736 tw13506875999452936723 tw6607985502299830130 tw11040172288941285248 tw1092881218451829401 tw13057321596915307654 tw6797485630414469391 tw4981841677914471992 tw12193130125225774891 tw3541857185895493357 tw5488109187789545208 tw1745444703331799625 tw12859707558104620742 tw3650873021360369607 tw3673092239588508424 tw4520486491328264430 tw17963986048754114049 tw6557921554908369688 tw2888391238653610472 tw7639456362766400821 tw3446968104104177155 tw6207556009169222921 tw13741305843941766851 tw13292340019499610937 tw16440619996969361060 tw9187504242522302252 tw10020778181984391493 tw16272536882489950856 tw4863484936078134564 tw6053367709112999552 tw12540968170745034659 tw3984643169702470304 tw13258969696835928063 tw14096296264776261729 tw260970419096076126 tw11945996212370193492 tw2133744800610841999 tw12545255977577812629 tw11593135089094512904 tw9095138436595101988 tw18265386179665669985 tw11872323065868888695 tw8595435644074459262 tw14121267833596524909 tw8285653630170181743 tw3535429671007713909 tw4986698552114583629 tw12807290114353275144 tw17282901014976987785 tw4899423355688874705 tw14136218681722566924 tw4032557909775771715 tw6686242953839074026 tw5007678371010817167 tw13333442411010208818 tw1218534664937787164 tw17340460439499018006 tw5449813034370857998 tw12540209057339416784 tw11800525239487909067 tw13671154930952227053 tw5619978536315917954 tw14624847692104234822 tw8585976128589252879 tw5168549493134670352 tw15442819672988748442 tw5514578418762081174 tw4475631785470168186 tw1684618034147288152 tw14826302695707023768 tw56574547774104683 tw7411423316754254324 tw8041588464458120597 tw15864410351936633499 tw7321967322586048945 tw10287806977064645125 tw17348625341346011570 tw5442187716709764390 tw1201786512723542695 tw8998881966815534104 tw8302021535552261729 tw10826839995295893339 tw17142499930946018277 tw5793139421553485304 tw15164648742387384665 tw2384231679685853797 tw8768542114859266222 tw7103406323001615162 tw5695623064042091867 tw17784598551661402426 tw2786817885670932252 tw11033709012040185966 tw593717597556233610 tw7189499066585141583 tw15198065060789702019 tw15633115441447304858 tw10109719826977346543 tw4771255926963170773 tw10033167400379845792 tw15125897513034073673 tw11748972428469861382 tw5035318390124013500 tw10178865123007913157 tw3592036884880784726 tw15489197723861176382 tw10750818132985214441 tw11827394042742085347 tw987300304631864288 tw17728110571641376035 tw16584156551087531468 tw14949382520983036222 tw13960142075304535963 tw1898883363778955409 tw8545187113931977610 tw17093043056128883758 tw17593459344036541133 tw15785728400697338720 tw12961865766645871427 tw18108818903372494648 tw9831800717441867527 tw16218598213420621581 tw17894663826482008591 tw3535023592407155066 tw8522291457251953238 tw293561969496217472 tw6948176069580895718 tw7530766360648179560 tw18224545979364883366 tw5479696893327809155 tw14115424460034474946 tw6789464362869939354 tw1192738308885192003 tw11019154228927629176 tw16237612623214913554 tw2613699002437644515 tw18210056086846660854 tw6854132619462810903 tw8685045915825038902 tw17454555826868467457 tw17149002345086608455 tw8734082169128655406 tw16163248861136885664 tw18041489271589180001 tw17450961443480461622 tw7836382907506807379 tw2655695049202542751 tw17025813199282246862 tw2965706298700119194 tw10978250669316979669 tw16869353179503197629 tw9674065580916649312 tw3974006740096770579 tw17158302440115434924 tw9444572501602542906 tw10303522433123557971 tw15827806170165295155:True)
open PySem PySem.W PyProof.Rows
set_option maxRecDepth 100000 in
set_option maxHeartbeats 0 in
theorem PySem.Challenge.cw_slitview_k11_blurred_refused_holds : PySem.Challenge.rw_slitview_k11_blurred_refused.Holds := by
 w_on; o_law; k_head; (case hw=>w_witness2)
 k_fill
 refine' K11.Vr (l:=PySem.Challenge.rw_slitview_k11_blurred_refused) rfl rfl rfl (fun w h Y=>PySem.W.km_in_of Y) ?T
 case T =>
  intro w
  refine' { yaH:=?yaH,yaJ:=?yaJ,yaI:=?yaI,yaL:=?yaL,yaK:=?yaK,yaC:=?yaC,yaD:=?yaD,yax:=?yax,yaE:=?yaE,yan:=?yan,yaB:=?yaB,yaz:=?yaz,yap:=?yap,yaA:=?yaA,yaq:=?yaq,yaV:=?yaV,yas:=?yas,yat:=?yat,yaP:=?yaP,yav:=?yav,yaQ:=?yaQ,yaw:=?yaw,yao:=?yao,yar:=?yar,yam:=?yam,yau:=?yau,yaT:=?yaT,yaU:=?yaU,yaR:=?yaR,yay:=?yay,yaS:=?yaS,yaG:=?yaG,yaM:=?yaM,yaN:=?yaN,yaO:=?yaO,yaF:=?yaF,yaW:=?yaW,yaX:=?yaX,yaY:=?yaY,yaZ:=?yaZ,ya0:=?ya0,ya1:=?ya1,ya2:=?ya2,ya3:=?ya3,ya4:=?ya4,ya5:=?ya5,ya6:=?ya6,ya7:=?ya7,ya8:=?ya8,ya9:=?ya9,ybb:=?ybb,ybc:=?ybc,ybd:=?ybd,ybe:=?ybe,ybf:=?ybf,yak:=?yak,yaf:=?yaf,yah:=?yah,yag:=?yag,yai:=?yai,yac:=?yac,yab:=?yab,yaj:=?yaj,yal:=?yal,yae:=?yae,yad:=?yad,yaa:=?yaa,ck:=?ck,z0:=?z0,wh:=?wh }
  (case yak=>k_is)
  (case yaf=>k_is)
  (case yah=>k_is)
  (case yag=>k_is)
  (case yai=>k_is)
  (case yac=>k_is)
  (case yab=>k_is)
  (case yaj=>k_is)
  (case yal=>k_is)
  (case yae=>k_is)
  (case yad=>k_is)
  (case yaa=>k_is)
  (case yaH=>and_intros)
  (case yaJ=>and_intros)
  (case yaI=>and_intros)
  (case yaL=>and_intros)
  (case yaK=>and_intros)
  (case yaC=>and_intros)
  (case yaD=>and_intros)
  (case yax=>and_intros)
  (case yaE=>and_intros)
  (case yan=>and_intros)
  (case yaB=>and_intros)
  (case yaz=>and_intros)
  (case yap=>and_intros)
  (case yaA=>and_intros)
  (case yaq=>and_intros)
  (case yaV=>and_intros)
  (case yas=>and_intros)
  (case yat=>and_intros)
  (case yaP=>and_intros)
  (case yav=>and_intros)
  (case yaQ=>and_intros)
  (case yaw=>and_intros)
  (case yao=>and_intros)
  (case yar=>and_intros)
  (case yam=>and_intros)
  (case yau=>and_intros)
  (case yaT=>and_intros)
  (case yaU=>and_intros)
  (case yaR=>and_intros)
  (case yay=>and_intros)
  (case yaS=>and_intros)
  (case yaG=>and_intros)
  (case yaM=>and_intros)
  (case yaN=>and_intros)
  (case yaO=>and_intros)
  (case yaF=>and_intros)
  (case yaW=>k_is)
  (case yaX=>k_is)
  (case yaY=>k_is)
  (case yaZ=>k_is)
  (case ya0=>k_is)
  (case ya1=>k_is)
  (case ya2=>k_is)
  (case ya3=>k_is)
  (case ya4=>k_is)
  (case ya5=>k_is)
  (case ya6=>k_is)
  (case ya7=>k_is)
  (case ya8=>k_is)
  (case ya9=>k_is)
  (case ybb=>refine' Pu.Vl ?e; (case e=>k_is))
  (case ybc=>refine' Pu.Vp ?e; (case e=>k_is))
  (case ybd=>refine' Pu.Vp ?e; (case e=>k_is))
  (case ybe=>refine' Pu.Vl ?e; (case e=>k_is))
  (case ybf=>refine' Pu.Vp ?e; (case e=>k_is))
  (case ck=>kernel_rfl)
  (case z0=>kernel_rfl)
  (case wh=>refine K11.Vq ?_; kernel_rfl)
