import PyProof.Rows.All
import Wide.All
import OpenK.AllK
import Wide.FinOn
import Lean
import PyProof.EqAt
import PyProof.EqKinds
import PyProof.TupleCall
import KE.KIntText
import KE.KDictList
import KE.KDictSum
import PyProof.Rows.Range3
import PyProof.DictWalks
import KE.KMinKey
import KE.KSortTup
import PyProof.EnumStmt
import PyProof.EnumMake
import PyProof.EnumFor
import PyProof.Draws
import PyProof.Rows.TupDisplay
import PySem.Challenge.RW_slitview_k13_whole_lacking
noncomputable section
set_option compiler.extract_closed false
local macro_rules | `(tactic| eq_refl) => `(tactic| first | exact Or.inl rfl | exact Or.inr (Or.inl rfl) | exact Or.inr (Or.inr rfl))
local macro_rules | `(∅) => `(by first | lia | omega)
set_option Elab.async false
set_option bootstrap.genMatcherCode false
set_option genSizeOf false
set_option linter.all false
set_option maxRecDepth 100000
local macro_rules | `(tactic| ac_nf) => `(tactic| exact ⟨rfl,rfl,rfl,by decide +kernel,rfl,by decide +kernel,by decide +kernel⟩)
open Option renaming some->aa,none->ae,bind_some->iw,map_eq_some_iff->pB,getD_none->B_
open PySem renaming Addr->af,Value->ah,Shared->ao,wpAny_bind->ap,wpAny->aq,model->ar,Heap->ay,Expr->az,wpAny_pure->aC,World->aD,Program->aK,Around->aM,starEach->aN,eval->aP,Stmt->a8,sizeLine->a9,mainGlobals->bV,Scope->cL,backTo->cM,rawInt->cN,bootBuiltins->dm,compareOp->dr,wpAny_mono->dO,cellsFrom->d7,bindArgs->eF,NameKind->eR,binaryOp->gg,FuncData->gh,strKind->g7,wpAny_holding->io,SetTable->iu,Paired->jc,mem_of_lookup->jg,Keyword->jh,hashStr->jK,isTrue->kD,wpAny_truthy_bool->kE,swapsWith->kG,pyIter->kH,IsPart->kK,wpAny_newObj_type->kL,wpAny_rule->kN,setNext->kP,setField->kQ,builtinsNs->lE,holding->lF,codeAny->lH,codeAny_builtin->lM,behindInMarks->mU,sizeLine_eq->mV,attributeBase->mZ,plainId_quiet->ni,reduceHash->oX,sysModules->oY,assignEach->oZ,Arguments->o0,wpAny_field->o4,getItem->o5,sliceBounds->o6,callerA->o9,relayAll->ph,wpAny_setState_of->pi,wpAny_askSetting->pr,codeAmong->qY,wpAny_call_entry->q_,backToKw->rf,keywordEach->rg,pickOrder->rm,wpAny_setField->rq,eqIsQuiet->rD,wpAny_tryCatch->rE,wpAny_Name->uF,foldedSetIterable->uG,wpAny_passesOwn->uH,recursionLimit->uJ,codeAny_mono->uL,wpAny_Call_Name_kw->uN,wpAny_loadPart'->uQ,call_meets->uR,wpAny_specialOf->uS,closureFor->uU,wpAny_of_eq->u6,setsByText->u7,wpAny_seqItems->u9,wpAny_ite_split->u_,letOwnedTupleGo->xK,IsRangeIter->xL,subscripted->xQ,wpAny_forIn_list->yh,wpAny_letGo->yi,wpAny_loadName_local->BZ,noFill_tuple_add->B5,wpAny_pyIter_list->Ch,wpAny_isInstance->Co
open Bool renaming true->ai,false->aj,false_ne_true->d4,and_eq_true->eU,eq_iff_iff->jN,false_eq_true->jS,or_eq_true->u0,not_eq_true'->Cw
open PySem.W renaming Frag->au,nsIn->dP,kitOne->g6,fnOf->ir,tabIn->jd,mg_none_of->jm,kia_one->jO,mg_of->lO,excIn->pt,keepIn->q0,findIn->uI,codeIn->uP,codeHdIn->uT,OpenLaw->xT,kla_obj->yg,methodObj->BY
open PyProof.Rows renaming wpS_bind->aA,wpS_pure->aF,pendingOf->a7,SortSt->bi,StrsAre->c7,seqObj->dv,wpS_mono->eW,wpS_forRange->eX,SortKind->gk,size_push'->g8,envOfC->ip,wpS_get->jk,pairsOf->jW,AllBare->kB,wpS_modify->kT,wpS_lift->pA,get?_update_seq->ve,listUpdate_at->xZ,callWith_type1->B3,callWith_builtin1->KR,slot_tuple_getitem->KS
open Nat renaming le_refl->aY,le_trans->cn,ne_of_lt->cD,lt_of_lt_of_le->eE,lt_irrefl->gf,le_of_eq->jQ,lt_succ_of_lt->jU,le_of_lt->kC,zero_le->kM,ne_of_gt->lG,lt_succ_self->lN,add_assoc->nk,le_succ->rh,zero_add->rz,mul_le_mul->u5,succ_mul->xR,lt_trans->xS,lt_of_le_of_lt->xU,add_right_comm->Cv
open PySem.Heap renaming get?_push_of_some->bd,lt_size->bw,get?_push_size->cg,SameBut->jf,get?_update_self->mX,get?_update_other->mY,get?_none_of_le->uE,size_push->xV,get?_update_ne->Cq,size_update->Cu
open List renaming mem_cons->bF,size_toArray->bM,length_append->ca,range->cm,getElem?_eq_some_iff->cE,replicate->cO,mem_map->cV,getElem?_set_ne->dq,length_cons->d8,getElem?_eq_getElem->eG,length_map->eT,mem_singleton->eV,map_map->eY,getElem?_set_self->fq,nil_append->fQ,length_set->gi,getElem?_append_left->gF,getElem?_map->iq,mem_cons_of_mem->iO,mem_append->iP,append_nil->iQ,lookup_cons->iR,length_nil->iS,not_mem_nil->iT,cons_append->iU,mem_cons_self->je,map_cons->ji,eq_nil_of_length_eq_zero->jj,mem_append_right->jM,take_of_length_le->jR,append_assoc->jT,length->kI,length_take->kJ,all_eq_true->kR,mem_filter->lD,nodup_cons->lI,length_drop->lK,getElem?_append_right->mW,map_congr_left->m8,foldl_cons->m_,mem_reverse->nq,all_cons->o7,length_singleton->o8,take_append_drop->o_,range_succ->pe,filterMap_cons->qZ,find?_cons->rj,filter_map->rG,length_erase_of_mem->rH,mem_of_getElem?->uO,drop_append_of_le_length->uV,range_succ_eq_map->uW,all_map->uX,map_append->uY,drop_zero->uZ,getElem?_eq_none->vd,drop_eq_getElem_cons->vf,getElem_of_mem->vg,lt_irrefl->vh,flatMap_cons->vi,count_cons_self->vj,mem_range->xI,mem_append_left->xJ,lookup->xW,eraseIdx_cons_succ->xX,ext_getElem?->xY,take_zero->x0,getElem_drop->yb,getElem_take->yc,singleton_append->yd,drop_eq_nil_iff->ye,take_append_of_le_length->yj,dropLast->yk,drop_of_length_le->ym,filter_eq_self->yn,count_cons_of_ne->yo,replicate_succ->Cd,lookup_append->Ce,drop_succ_cons->Cf,getElem?_range->Cg,length_range->Ci,toList_toArray->Cj,getElem_mem->Ck,mem_iff_getElem?->Cr,length_dropLast->Cy,pairwise_append->Cz,reverse_append->CA,reverse_perm->CB,pairwise_reverse->CC,take_length->CD,map_eq_nil_iff->CH,mem_of_mem_erase->CI,filter_flatMap->CJ,filter_cons->CK,count_erase_self->CM,count_erase_of_ne->CN,perm_cons_erase->CO,findIdx?_eq_some_iff_getElem->KU,eraseIdxIfInBounds_toArray->KZ
open Option.some renaming inj->dA
open Ne renaming symm->fk
open PySem.Str renaming empty->fu,length->lL,ofString->q8
open PySem.Obj renaming mapSeq->fv,mapFields->nj,data_mapFields->x_,isFreed_of_fields->Ct
open Array renaming toList_append->fP,length_toList->kF,getElem_extract->kU,getElem?_eq_some_iff->pc,toList_push->rk,getElem?_eq_getElem->u8,getElem?_toList->yf,perm_iff_toList_perm->CF
open PyProof.Rows.KeyOrd renaming kle_of_klt->jl,kle_refl->jV,kle_trans->rA
open PySem.Builtin.Tuple renaming tupleHashOf->jL,tupleExact->xP
open False renaming elim->jP
open Int renaming toNat_natCast->lJ,emod_lt_of_pos->CL
open PySem.Heap.SameBut renaming update->ng
open PySem.Around renaming under_plainId->nh
open PySem.Value renaming isStrOf->oW
open List.Perm renaming refl->pf,append_left->Cn
open PySem.SetTable renaming grown->pq,below->KY
open PySem.F renaming plain_min_loop->pC,slot_tuple_add->B6,entry_tuple_add->B7,args_tuple_add_2->B8,plainAttrs_list->Cs,entry_min_loop->CG,slot_tuple_hash->K3
open PySem.PassesOwn renaming never->pD
open PySem.SeqAt renaming EqAt->re
open Function renaming comp->rF
open PySem.Calls renaming spliced_cons->uK,spliced_nil->xN,Name_function_global->B0,evalArgs_plain->Cb
open PySem.Builtin.Range renaming rangeSize->xM
open PySem.Builtin.Slice renaming slicePlaces->xO,sliceAdjust->B9
open Nat.succ renaming inj->ya
open PySem.Builtin.Str renaming occurrences->B4
open PySem.SeqAt.EqAt renaming str_str->Ca
open PySem.Builtin.List renaming listTooLong->Cc
open PyProof.Rows.F renaming plain_set_update_loop->Cm,entry_set_update_loop->KW
open PySem.SetTable.below renaming go->Cp
open Std.Legacy renaming Range->LG
open PySem PySem.Spec PyProof.Rows
namespace L2
abbrev bH:=Sum Int Str
def AL:bH->ah->Bool
 |.inl k,v=>Value.isInt k v
 |.inr x,v=>oW x v
def Kv(w:aD):bH->Int
 |.inl k=>hashInt k
 |.inr x=>jK w x
theorem kx:∀{k:bH}{v:ah},AL k v=ai->(∃i t,k=Sum.inl i/\v=Value.int i t)\/(∃x t,k=Sum.inr x/\v=Value.str x t)
 |.inl i,v,h=>by obtain⟨t,e⟩:=Value.isInt_shape (k:=i) (v:=v) h;exact .inl ⟨i,t,rfl,e⟩
 |.inr x,v,h=>by obtain⟨t,e⟩:=Value.isStrOf_shape (x:=x) (v:=v) h;exact .inr ⟨x,t,rfl,e⟩
theorem JN(a b:Int):decide ((Sum.inl a:bH)=Sum.inl b)=(a == b):=by
 by_cases e:a=b
 .subst e;simp
 .have h:¬(Sum.inl a:bH)=Sum.inl b:=λq=>e (Sum.inl.inj q);rw[decide_eq_false h];exact(beq_eq_false_iff_ne.mpr e).symm
theorem J2(a b:Str):decide ((Sum.inr a:bH)=Sum.inr b)=decide (a=b):=by
 by_cases e:a=b
 .subst e;simp
 .have h:¬(Sum.inr a:bH)=Sum.inr b:=λq=>e (Sum.inr.inj q);rw[decide_eq_false h,decide_eq_false e]
theorem ER(a:Int)(b:Str):decide ((Sum.inl a:bH)=Sum.inr b)=aj:=decide_eq_false (λq=>nomatch q)
theorem E4(a:Str)(b:Int):decide ((Sum.inr a:bH)=Sum.inl b)=aj:=decide_eq_false (λq=>nomatch q)
def Ae(c:aK)(w:aD):PySem.KeyKind c w bH where
 is:=AL
 hash:=Kv w
 inj:=λv a b l f=>by
  rcases kx l with⟨i,t,rfl,rfl⟩|⟨x,t,rfl,rfl⟩
  .rcases kx f with⟨j,u,rfl,e⟩|⟨y,u,rfl,e⟩
   .injection e with e1 _;rw[e1]
   .exact nomatch e
  .rcases kx f with⟨j,u,rfl,e⟩|⟨y,u,rfl,e⟩
   .exact nomatch e
   .injection e with e1 _;rw[e1]
 byValue:=λk v h=>by rcases kx h with⟨i,t,rfl,rfl⟩|⟨x,t,rfl,rfl⟩ <;> rfl
 pyHash:=λd h=>by
  rcases kx d with⟨i,t,rfl,rfl⟩|⟨x,t,rfl,rfl⟩
  .exact wpAny_pyHash_int h
  .exact wpAny_pyHash_str h
 eqBool:=λg d h=>by
  rcases kx g with⟨i,t,rfl,rfl⟩|⟨x,t,rfl,rfl⟩
  .rcases kx d with⟨j,u,rfl,rfl⟩|⟨y,u,rfl,rfl⟩
   .rw[JN]at h;exact wpAny_eqBool_int h
   .rw[ER]at h;exact SeqAt.EqAt.int_str i t y u _ _ _ _ h
  .rcases kx d with⟨j,u,rfl,rfl⟩|⟨y,u,rfl,rfl⟩
   .rw[E4]at h;exact SeqAt.EqAt.str_int x t j u _ _ _ _ h
   .rw[J2]at h;exact wpAny_eqBool_str h
 «strs»:=λk x t v h=>by
  rcases kx h with⟨i,u,rfl,e⟩|⟨y,u,rfl,e⟩
  .exact nomatch e
  .injection e with e1 _;subst e1;cases v <;> rfl
inductive V where
 |non|bl (b:Bool)|int (i:Int)|str (x:Str)|byt (b:Array UInt8)|flt (b:UInt64)|ref (a:af)|ty (n:String)
 deriving DecidableEq
def RelV:V->ah->Prop
 |.non,u=>u=Value.none
 |.bl b,u=>u=Value.bool b
 |.int i,u=>∃t,u=Value.int i t
 |.str x,u=>∃t,u=Value.str x t
 |.byt b,u=>∃t,u=Value.bytes b t
 |.flt b,u=>∃t,u=Value.float b t
 |.ref a,u=>u=Value.ref a
 |.ty n,u=>u=Value.type n
abbrev bh:List V->List ah->Prop:=jc RelV
theorem bh.length{xs:List V}{a:List ah}(r:bh xs a):xs.length=a.length:=Paired.length r
theorem bh.get:∀{a:List V}{b:List ah}{i:Nat}{x:V},bh a b->a[i]?=aa x->∃u,b[i]?=aa u/\RelV x u
 |_,_,_,_,.nil,e=>by simp at e
 |_,_,0,_,.cons r _,e=>by simp at e;subst e;exact⟨_,rfl,r⟩
 |_,_,i+1,x,.cons _ t,e=>by obtain⟨u,d,c⟩:=bh.get (i:=i) (x:=x) t (by simpa using e);exact⟨u,by simpa using d,c⟩
theorem bh.set{x:V}{u:ah}(r:RelV x u):∀{a:List V}{b:List ah} (i:Nat),bh a b->bh (a.set i x) (b.set i u)
 |_,_,_,.nil=>.nil
 |_,_,0,.cons _ t=>.cons r t
 |_,_,i+1,.cons q t=>.cons q (bh.set r i t)
theorem bh.append:∀{b a:List V}{d c:List ah},bh b d->bh a c->bh (b++a) (d++c)
 |_,_,_,_,.nil,s=>s
 |_,_,_,_,.cons r t,s=>.cons r (bh.append t s)
theorem bh.take:∀{a:List V}{b:List ah} (n:Nat),bh a b->bh (a.take n) (b.take n)
 |_,_,0,_=>.nil
 |_,_,_+1,.nil=>.nil
 |_,_,n+1,.cons r t=>.cons r (bh.take n t)
theorem bh.drop:∀{a:List V}{b:List ah} (n:Nat),bh a b->bh (a.drop n) (b.drop n)
 |_,_,0,r=>r
 |_,_,_+1,.nil=>.nil
 |_,_,n+1,.cons _ t=>bh.drop n t
def oU:Option V->Option ah->Prop
 |some v,aa u=>RelV v u
 |none,ae=>True
 |_,_=>False
def KV{a:Type}:List (a×V)->List (a×ah)->Prop:=jc λ(p:a×V) (q:a×ah)=>p.1=q.1/\RelV p.2 q.2
def kV:bH->V
 |.inl i=>.int i
 |.inr x=>.str x
inductive HO where
 |lst (xs:List V)
 |tup (xs:List V)
 |dK (kvs:List (bH×V))|dT (kvs:List (List bH×V))|dN (kvs:List ((Str×List Str)×V))
 |set (S:Int->Bool) (n:Nat)
 |ins (C dx:af) (fs:List (Str×V))
 |own (x:af)
 |xd (fs:List (Str×V))
 |met (f x:af)
 |rng (lo hi:Int)
 |frz (o:Obj) (u:HO)
 |tbl (q:Str)
 |ext (φ:ay->Prop)
abbrev Hp:=af->Option HO
def upd(H:Hp)(a:af)(o:HO):Hp:=λb=>if b=a then aa o else H b
theorem cI{H:Hp}{a:af}{o:HO}:upd H a o a=aa o:=by unfold upd;rw[if_pos rfl]
theorem b7{H:Hp}{a b:af}{o:HO}(h:b≠a):upd H a o b=H b:=by unfold upd;rw[if_neg h]
theorem Dv{H:Hp}{a b:af}{o u:HO}(h:H a=aa o)(c:H b=aa u)(d:o≠u):a≠b:=by intro e;subst e;rw[h]at c;exact d (dA c)
theorem mq{H:Hp}{a b:af}{o:HO}(h:H a=aa o)(c:H b=ae):a≠b:=by
 intro e;subst e;rw[h]at c;cases c
def BW(h:ay)(a:af)(b:Array ah):Prop:=IsTup h a b/\∃o,h.get? a=aa o/\o.dict=ae
theorem BW.new(h:ay)(its:Array ah):BW (h.push {cls:=.type "tuple",data:=.seq its}) h.objs.size its:=⟨IsTup.new _ _,_,cg _ rfl,rfl⟩
section
variable(P:aK)(w:aD)
def zb(k:Str×List Str):Int:=oX (jL [jK w k.1,oX (jL (k.2.map (jK w)))])
def ml(H:Hp)(k:Str×List Str)(a:af):Prop:=∃b,H a=aa (.tup [.str k.1,.ref b])/\H b=aa (.tup (k.2.map .str))
def cW(H:Hp)(h:ay)(a:af):HO->Prop
 |.lst d=>d.length<=a9/\∃(g:List ah) (n:Nat),bh d g/\h.get? a=aa {cls:=.type "list",data:=.seq g.toArray n}
 |.tup d=>d.length<=a9/\∃g:List ah,bh d g/\BW h a g.toArray
 |.dK b=>b.length<=a9/\(a == oY)=aj/\∃A,KV b A/\h.DictOf (Ae P w) a A
 |.dT b=>b.length<=a9/\(a == oY)=aj/\∃d:List (List bH×af×ah),
   jc (λ(p:List bH×V) (q:List bH×af×ah)=>p.1=q.1/\H q.2.1=aa (.tup (p.1.map kV))/\RelV p.2 q.2.2) b d /\
   ∃o j y,h.get? a=aa o/\o.ExactDict/\o.data=.dict j y/\j.toList=d.map (entryOfKey (tupleKind (Ae P w)))/\(d.map (·.1)).Nodup
 |.dN b=>b.length<=a9/\(a == oY)=aj/\∃d:List ((Str×List Str)×af×ah),
   jc (λ(p:(Str×List Str)×V) (q:(Str×List Str)×af×ah)=>p.1=q.1/\ml H p.1 q.2.1/\RelV p.2 q.2.2) b d /\
   ∃o j y,h.get? a=aa o/\o.ExactDict/\o.data=.dict j y/\j.toList=d.map (λx=>⟨zb w x.1,.ref x.2.1,x.2.2⟩)/\(d.map (·.1)).Nodup
 |.set S n=>h.SetOf (intKind P w) a S n
 |.ins C l fs=>H l=aa (.own a)/\fs.length<=1000/\l≠a/\h.get? a=aa (PySem.W.instObj C l) /\
   ∃i,h.Ns1 l i/\(∀f,oU (fs.lookup f) (i f))/\PySem.Within i (fs.map (·.1))
 |.own _=>∃o,h.get? a=aa o
 |.xd fs=>∃i,h.Ns1 a i/\∀f,oU (fs.lookup f) (i f)
 |.rng E F=>∃t u v,h.get? a=aa {cls:=.type "range",data:=.fields #[.int E t,.int F u,.int 1 v]}
 |.frz o u=>h.get? a=aa o/\cW H h a u
 |.tbl q=>∃r:Array ah,h.get? a=aa {cls:=.none,data:=.fields r}/\TriplesOk r.toList/\∀s z,qY s r.toList=aa z->∃c,z=.ref c/\H c=aa (.own a)/\h.CodeRec z q
 |.met f x=>h.get? a=aa (BY (.ref f) (.ref x))
 |.ext m=>m h/\(∃o,h.get? a=aa o)/\∀D B:ay,m D->(∀o,D.get? a=aa o->B.get? a=aa o)->m B
def cT(H:Hp)(h:ay):Prop:=∀a o,H a=aa o->cW P w H h a o
end
section
variable{P:aK}{w:aD}{H j:Hp}{h i:ay}{a:af}{o:HO}
theorem cW.lt(x:cW P w H h a o):a<h.objs.size:=by
 cases o with
 |lst c=>obtain⟨_,_,_,_,e⟩:=x;exact bw e
 |tup c=>obtain⟨_,_,_,p,_⟩:=x;exact p.lt
 |dK b=>obtain⟨_,_,_,_,o,_,_,e,_⟩:=x;exact bw e
 |dT b=>obtain⟨_,_,_,_,o,_,_,e,_⟩:=x;exact bw e
 |dN b=>obtain⟨_,_,_,_,o,_,_,e,_⟩:=x;exact bw e
 |set S n=>obtain⟨o,_,_,_,e,_⟩:=x;exact bw e
 |ins C r fs=>obtain⟨_,_,_,e,_⟩:=x;exact bw e
 |own y=>obtain⟨_,e⟩:=x;exact bw e
 |xd fs=>obtain⟨_,⟨_,_,_,e,_⟩,_⟩:=x;exact bw e
 |rng l m=>obtain⟨_,_,_,e⟩:=x;exact bw e
 |frz g u=>obtain⟨e,_⟩:=x;exact bw e
 |tbl q=>obtain⟨_,e,_⟩:=x;exact bw e
 |met f y=>exact bw (show h.get? a=aa _ from x)
 |ext d=>obtain⟨_,⟨_,e⟩,_⟩:=x;exact bw e
theorem Paired.mapP{l g:Type}{F G:l->g->Prop}:∀{d:List l}{c:List g},jc F d c->(∀a b,F a b->G a b)->jc G d c
 |_,_,.nil,_=>.nil
 |_,_,.cons r t,f=>.cons (f _ _ r) (Paired.mapP t f)
theorem cW.stay(x:cW P w H h a o)(k:∀b u,(b=a\/H b=aa (.own a))->h.get? b=aa u->i.get? b=aa u)(N:∀b,H b=aa (.own a)->j b=aa (.own a)) (L:∀b A,H b=aa (.tup A)->j b=aa (.tup A)):cW P w j i a o:=by
 induction o with
 |lst A=>obtain⟨z,B,n,r,e⟩:=x;exact⟨z,B,n,r,k _ _ (.inl rfl) e⟩
 |tup A=>obtain⟨z,B,r,⟨l,e,c⟩,W,E,O⟩:=x;exact⟨z,B,r,⟨l,k _ _ (.inl rfl) e,c⟩,W,k _ _ (.inl rfl) E,O⟩
 |dK D=>obtain⟨z,y,G,r,l,m,s,e,c⟩:=x;exact⟨z,y,G,r,l,m,s,k _ _ (.inl rfl) e,c⟩
 |dT D=>obtain⟨z,y,A,r,l,m,s,e,c⟩:=x;exact⟨z,y,A,Paired.mapP r λp q z=>⟨z.1,L _ _ z.2.1,z.2.2⟩,l,m,s,k _ _ (.inl rfl) e,c⟩
 |dN D=>obtain⟨z,y,A,r,l,m,s,e,c⟩:=x;exact⟨z,y,A,Paired.mapP r λp q z=>⟨z.1,(let ⟨b,F,h2⟩:=z.2.1;⟨b,L _ _ F,L _ _ h2⟩),z.2.2⟩,l,m,s,k _ _ (.inl rfl) e,c⟩
 |set S n=>obtain⟨l,m,s,t,e,c⟩:=x;exact⟨l,m,s,t,k _ _ (.inl rfl) e,c⟩
 |ins C dx fs=>obtain⟨d,z,X,e,K,⟨J,m,s,E,c⟩,r⟩:=x;exact⟨N _ d,z,X,k _ _ (.inl rfl) e,K,⟨J,m,s,k _ _ (.inr d) E,c⟩,r⟩
 |own y=>obtain⟨l,e⟩:=x;exact⟨l,k _ _ (.inl rfl) e⟩
 |xd fs=>obtain⟨K,⟨J,m,s,e,c⟩,r⟩:=x;exact⟨K,⟨J,m,s,k _ _ (.inl rfl) e,c⟩,r⟩
 |rng lo hi=>obtain⟨t,u,v,e⟩:=x;exact⟨t,u,v,k _ _ (.inl rfl) e⟩
 |frz l u Y=>obtain⟨e,q⟩:=x;exact⟨k _ _ (.inl rfl) e,Y q⟩
 |tbl q=>
  obtain⟨T,e,t,g⟩:=x;refine⟨T,k a _ (.inl rfl) e,t,λI cv Z=>?_⟩;obtain⟨c,rfl,F,O,o,G,Q,E,e3,r⟩:=g I cv Z;cases E;exact⟨c,rfl,N c F,c,o,G,Q,rfl,k c _ (.inr F) e3,r⟩
 |met f y=>have e:h.get? a=aa (BY (.ref f) (.ref y)):=x;show i.get? a=aa (BY (.ref f) (.ref y));exact k a _ (.inl rfl) e
 |ext φ=>obtain⟨p,⟨o,e⟩,M⟩:=x;exact⟨M _ _ p λo q=>k _ _ (.inl rfl) q,⟨o,k _ _ (.inl rfl) e⟩,M⟩
theorem cT.lt(x:cT P w H h)(e:H a=aa o):a<h.objs.size:=(x a o e).lt
theorem cT.fresh(x:cT P w H h)(e:h.objs.size<=a):H a=ae:=by
 cases q:H a with
 |none=>rfl
 |some u=>exact absurd (eE (x.lt q) e) (gf _)
theorem cT.kept(x:cT P w H h)(k:∀b u,h.get? b=aa u->i.get? b=aa u):cT P w H i:=λa o e=>(x a o e).stay (λb u _ q=>k b u q) (λ_ q=>q) λ_ _ q=>q
theorem cT.laid(x:cT P w H h)(k:∀b u,h.get? b=aa u->i.get? b=aa u)(g:h.objs.size<=a)(new:cW P w (upd H a o) i a o):cT P w (upd H a o) i:=λb u e=>by
 have d:=x.fresh g;by_cases f:b=a
 .subst f;rw[cI]at e;cases e;exact new
 .rw[b7 f]at e;exact(x b u e).stay (λc v _ q=>k c v q) (λc q=>by rw[b7 (mq q d)];exact q) λc l q=>by rw[b7 (mq q d)];exact q
end
def Rd(H:Hp)(a:af)(u:HO):Prop:=H a=aa u\/∃o,H a=aa (.frz o u)
theorem Rd.ok{P:aK}{w:aD}{H:Hp}{h:ay}{a:af}{u:HO}(r:Rd H a u)(x:cT P w H h):cW P w H h a u:=by
 rcases r with r|⟨o,r⟩
 .exact x a u r
 .obtain⟨_,q⟩:=x a _ r;exact q
def qk:Option HO->Prop
 |some (.lst _)=>True
 |some (.dK _)=>True
 |some (.dT _)=>True
 |some (.dN _)=>True
 |some (.set _ _)=>True
 |some (.ins _ _ _)=>True
 |some (.ext _)=>True
 |_=>False
section
variable{P:aK}{w:aD}{H:Hp}{h a:ay}{x e:af}{d:HO}
theorem cT.write(ok:cT P w H h)(j:qk (H x))(p:e=x\/H e=aa (.own x))(k:∀b u,b≠e->h.get? b=aa u->a.get? b=aa u)(s:∃u,a.get? e=aa u)(new:cW P w (upd H x d) a x d):cT P w (upd H x d) a:=λb u q=>by
 have f:∀c y,H c=aa (.own y)->c≠x:=λc y r z=>by subst z;rw[r]at j;exact j
 have g:∀c i,H c=aa (.tup i)->c≠x:=λc i r z=>by subst z;rw[r]at j;exact j
 by_cases n:b=x
 .subst n;rw[cI]at q;cases q;exact new
 .rw[b7 n]at q;by_cases l:b=e
  .have o:H b=aa (.own x):=by
    rcases p with z|z
    .exact absurd (l.trans z) n
    .rw[l];exact z
   rw[q]at o;cases o;obtain⟨v,t⟩:=s;exact⟨v,by rw[l];exact t⟩
  .refine(ok b u q).stay (λc v m r=>k c v ?_ r) (λc r=>by rw[b7 (f c b r)];exact r) λc i r=>by rw[b7 (g c i r)];exact r
   rcases m with rfl|m
   .exact l
   .rintro rfl;rcases p with z|z
    .exact f c b m z
    .rw[m]at z;cases z;exact n rfl
end
structure Un(fs ex:List af)(H H':Hp)(h h':ay):Prop where
 keep:∀b o,h.get? b=aa o->H b=ae->b∉fs->b∉ex->h'.get? b=aa o
 slot:∀b o,h.get? b=aa o->H b=ae->b∈fs->b∉ex->∃sl,h'.get? b=aa {o with slots:=sl}
 free:∀b o,h.get? b=aa o->H b=ae->b∉ex->H' b=ae
 there:∀b o,h.get? b=aa o->b∉ex->∃o',h'.get? b=aa o'
 tups:∀b xs,H b=aa (.tup xs)->H' b=aa (.tup xs)
 frzs:∀b o u,H b=aa (.frz o u)->H' b=aa (.frz o u)
 tbls:∀b q,H b=aa (.tbl q)->H' b=aa (.tbl q)
section
variable{fs d ex f:List af}{H g j:Hp}{h c i h':ay}{a x e:af}{o:HO}
theorem Un.any(u:Un fs ex H g h c){b:af}{l:Obj}(q:h.get? b=aa l)(n:H b=ae)(m:b∉ex):∃r,c.get? b=aa {l with slots:=r}:=by
 by_cases p:b∈fs
 .exact u.slot b l q n p m
 .exact⟨l.slots,u.keep b l q n p m⟩
theorem Un.kept(k:∀b u,h.get? b=aa u->h'.get? b=aa u):Un fs ex H H h h' :=⟨λb l q _ _ _=>k b l q,λb l q _ _ _=>⟨l.slots,k b l q⟩,λ_ _ _ n _=>n,λb l q _=>⟨l,k b l q⟩,λ_ _ q=>q,λ_ _ _ q=>q,λ_ _ q=>q⟩
theorem Un.refl:Un fs ex H H h h:=Un.kept λ_ _ q=>q
theorem Un.laid(k:∀b u,h.get? b=aa u->h'.get? b=aa u)(p:h.objs.size<=a)(l:H a=ae):Un fs ex H (upd H a o) h h' where
 keep:=λb u q _ _ _=>k b u q
 slot:=λb u q _ _ _=>⟨u.slots,k b u q⟩
 free:=λb u q n _=>by rw[b7 (cD (eE (bw q) p))];exact n
 there:=λb u q _=>⟨u,k b u q⟩
 tups:=λb m q=>by rw[b7 (mq q l)];exact q
 frzs:=λb u m q=>by rw[b7 (mq q l)];exact q
 tbls:=λb r q=>by rw[b7 (mq q l)];exact q
theorem Un.write(l:qk (H x))(A:e=x\/H e=aa (.own x))(k:∀b u,b≠e->h.get? b=aa u->h'.get? b=aa u)(w:∃u,h'.get? e=aa u):Un fs ex H (upd H x o) h h':=by
 have s:∀b,H b=ae->b≠x:=λb n z=>by subst z;rw[n]at l;exact l
 have t:∀b,H b=ae->b≠e:=λb n z=>by
  subst z;rcases A with r|r
  .exact s b n r
  .rw[n]at r;cases r
 have m:∀b u,H b=aa u->¬qk (aa u)->b≠x:=λb u q y z=>by subst z;rw[q]at l;exact y l
 refine⟨λb u q n _ _=>k b u (t b n) q,λb u q n _ _=>⟨u.slots,k b u (t b n) q⟩,λb u q n _=>by rw[b7 (s b n)];exact n,λb u q _=>?_,
  λb v q=>by rw[b7 (m b _ q λz=>z)];exact q,λb u v q=>by rw[b7 (m b _ q λz=>z)];exact q,λb B q=>by rw[b7 (m b _ q λz=>z)];exact q⟩
 by_cases p:b=e
 .subst p;exact w
 .exact⟨u,k b u p q⟩
end
def t9(h:ay)(H:Hp):List af:=(cm h.objs.size).filter λa=>(H a).isSome
def kt(h:ay)(H:Hp):ay:=PySem.W.hideAll h (t9 h H)
theorem C4(h:ay)(H:Hp):(kt h H).objs.size=h.objs.size:=PySem.W.hideAll_size _ _
theorem Gv{h:ay}{H:Hp}{b:af}{o:Obj}(e:h.get? b=aa o)(n:H b=ae):(kt h H).get? b=aa o :=PySem.W.hideAll_get _ e λa=>by have q:(H b).isSome=ai:=(lD.mp a).2;rw[n]at q;simp at q
theorem KO{h:ay}{H:Hp}{b:af}{o:Obj}(e:(kt h H).get? b=aa o):h.get? b=aa o/\H b=ae:=by
 have a:h.get? b=aa o:=PySem.W.of_hideAll (t9 h H) e;refine⟨a,?_⟩;cases q:H b with
 |none=>rfl
 |some x=>
  have c:b∈t9 h H:=lD.mpr ⟨xI.mpr (bw a),by simp[q]⟩;have z:(kt h H).get? b=ae:=PySem.W.hideAll_none (t9 h H) c;rw[z]at e;cases e
def HR(g h:ay)(L:af):List (af×Obj):=(cm h.objs.size).filterMap λa=>if a=L\/(g.get? a).isSome=ai then ae else(h.get? a).map λo=>(a,o)
def rest(g h:ay)(L d:af):List (af×Obj):=(HR g h L).filter λp=>decide (p.1≠d)
structure Mod(K:au)(mg:Str->Option ah)(base:ay):Prop where
 kin:K.In base
 glob:base.Ns bV mg
 blt:∃mb,base.Ns lE mb/\∀x:Str,x≠"__name__"->mb x=dm x
 nolimit:base.NoLimit
 bm:∃bm ob,mg "__builtins__"=aa (.ref bm)/\bm≠lE/\base.get? bm=aa ob/\ob.cls=.type "module"/\ob.dict=aa lE/\ob.data=.plain
set_option genInjectivity false in
structure Cx where
 prog:aK
 w:aD
 K:au
 mg:Str->Option ah
 base:ay
 A:aM
 N:List Str
 s₀:ao
 H₀:Hp
 env:Env
 outer:List Env
 stack:List Env
 ex:List af
 fn:Str->Bool
 calm:Bool
 pn:List (af×Obj)
 xe:ah->ao->Prop
def eu(l:List Env):List af:=l.filterMap (·.frame)
abbrev Cx.fs(X:Cx):List af:=eu X.outer
def fE(a:cL)(x:Str):Prop:=a.names.lookup x=aa .local\/a.names.lookup x=aa .cell\/a.names.lookup x=aa .free
def Loc(a:cL)(x:Str):Prop:=a.names.lookup x=aa .local\/a.names.lookup x=aa .cell
def Look(a:Env)(h:ay)(m:Str->Option ah)(x:Str)(u:ah):Prop :=(a.kindOf x=aa .local/\m x=aa u)\/((a.kindOf x=aa .cell\/a.kindOf x=aa .free)/\∃c,a.cells.lookup x=aa c/\h.IsCell c (aa u))
def qP:List Str:=["least_ending"]
def sP(K:au)(H:Hp):Prop:=∀x∈qP,∀c P,jd K x=aa (c,P)->H P=aa (.tbl (x++".<locals>.<lambda>"))
set_option genInjectivity false in
structure Cx.Ok(X:Cx):Prop where
 mod:Mod X.K X.mg X.base
 kind:X.env.scope.kind=.function
 glob:X.env.globals=bV
 blt:X.env.builtins=lE
 above:X.s₀.heap.objs.size<=X.env.locals
 inj:∀x y c,X.env.cells.lookup x=aa c->X.env.cells.lookup y=aa c->x=y
 has:∀x,(X.env.kindOf x=aa .cell\/X.env.kindOf x=aa .free)->∃c,X.env.cells.lookup x=aa c
 cab:∀x c,X.fn x=ai->X.env.cells.lookup x=aa c->X.s₀.heap.objs.size<=c
 hd:X.calm=ai->X.A.handled=ae
 frames:X.A.frames=aa X.stack
 stk:X.stack=X.outer\/(X.stack=X.env::X.outer/\X.env.frame=aa X.env.locals)
 exf:∀b∈X.ex,b≠X.env.locals/\∀x c,X.env.cells.lookup x=aa c->c≠b
 bs:∀b o,X.base.get? b=aa o->X.s₀.heap.get? b=aa o/\X.H₀ b=ae
 bsz:X.base.objs.size<=X.s₀.heap.objs.size
 noex:∀b o,X.base.get? b=aa o->b∉X.ex
 exfs:∀b∈X.ex,b∉X.fs
 funs:X.s₀.heap.FunFrames X.base X.outer
 frf:∀b∈X.fs,X.H₀ b=ae
 tab:sP X.K X.H₀
structure Inv(X:Cx)(ag:List (af×Obj))(σ:List (Option V))(H:Hp)(s:ao):Prop where
 ok:X.Ok
 os:s.os=X.s₀.os
 bare:kB s.gens
 base:Un X.fs X.ex X.H₀ H X.s₀.heap s.heap
 loc:∃m,s.heap.Ns X.env.locals m/\∀(i:Nat) (x:Str) (v:V),X.N[i]?=aa x->σ[i]?=aa (aa v)->fE X.env.scope x->∃u,RelV v u/\Look X.env s.heap m x u
 cell:∀x c,X.env.cells.lookup x=aa c->∃v,s.heap.IsCell c v
 free:H X.env.locals=ae
 freeC:∀x c,X.env.cells.lookup x=aa c->H c=ae
 pin:∀p∈X.pn++ag,s.heap.get? p.1=aa p.2/\H p.1=ae/\p.1≠X.env.locals/\p.1∉X.fs/\∀v,p.2.data≠.cell v
 hok:cT X.prog X.w H s.heap
 len:σ.length=X.N.length
section
variable{X:Cx}{f:List (af×Obj)}{g:List (Option V)}{H w:Hp}{s:ao}{h':ay}
theorem Cx.Ok.nofr(ok:X.Ok){b:af}{o:Obj}(e:X.base.get? b=aa o):b∉X.fs:=λa=>by
 have:=(ok.funs.mem a).1;rw[e]at this;cases this
theorem Inv.bs(I:Inv X f g H s):∀b o,X.base.get? b=aa o->s.heap.get? b=aa o/\H b=ae:=λb o e=>⟨I.base.keep b o (I.ok.bs b o e).1 (I.ok.bs b o e).2 (I.ok.nofr e) (I.ok.noex b o e),I.base.free b o (I.ok.bs b o e).1 (I.ok.bs b o e).2 (I.ok.noex b o e)⟩
theorem Inv.bk(I:Inv X f g H s):∀b o,X.base.get? b=aa o->s.heap.get? b=aa o:=λb o e=>(I.bs b o e).1
theorem Inv.mod(I:Inv X f g H s):Mod X.K X.mg X.base:=I.ok.mod
theorem Inv.kIn(I:Inv X f g H s):X.K.In s.heap:=I.ok.mod.kin.keeps I.bk
theorem Inv.lt(I:Inv X f g H s):X.env.locals<s.heap.objs.size:=let ⟨_,hn,_⟩:=I.loc;hn.lt
theorem Inv.sz(I:Inv X f g H s):X.s₀.heap.objs.size<=s.heap.objs.size:=cn I.ok.above (kC I.lt)
theorem Inv.nofs(I:Inv X f g H s){a:af}(h:s.heap.objs.size<=a):a∉X.fs:=λc=>by obtain⟨_,o,b,_⟩:=I.ok.funs.mem c;exact absurd (eE (bw b) (cn I.sz h)) (gf _)
theorem Inv.cne(I:Inv X f g H s):∀x c,X.env.cells.lookup x=aa c->c≠X.env.locals:=λx c e z=>by
 obtain⟨v,o,b,d⟩:=I.cell x c e;obtain⟨m,⟨i,j,l,h,a,_⟩,_⟩:=I.loc;rw[z,h]at b;cases b;rw[a]at d;cases d
theorem Inv.tab(I:Inv X f g H s):sP X.K H:=λx a c P h=>I.base.tbls P _ (I.ok.tab x a c P h)
theorem Inv.funs(I:Inv X f g H s):s.heap.FunFrames X.base X.outer:=by
 have all:∀(l:List Env),(∀b∈eu l,b∈X.fs)->X.s₀.heap.FunFrames X.base l->s.heap.FunFrames X.base l:=by
  intro l
  induction l with
  |nil=>intro _ _;trivial
  |cons u r i=>intro h p;obtain⟨q,⟨L,o,a,n,m,t⟩,j⟩:=p;have d:L∈X.fs:=h L (by unfold eu;rw[qZ,a];exact je);obtain⟨v,e⟩:=I.base.slot L o m (I.ok.frf L d) d λz=>I.ok.exfs L z d;exact⟨q,⟨L,_,a,n,e,t⟩,i (λb c=>h b (by unfold eu;rw[qZ,a];exact iO _ c)) j⟩
 exact all X.outer (λ_ c=>c) I.ok.funs
theorem Inv.stack(I:Inv X f g H s):s.heap.FunFrames X.base X.stack:=by
 rcases I.ok.stk with e|⟨e,b⟩
 .rw[e];exact I.funs
 .rw[e];obtain⟨m,a,_⟩:=I.loc;refine .cons (by rw[I.ok.kind];decide) b a ?_ I.funs;exact uE (cn I.ok.bsz I.ok.above)
theorem Inv.stkSub(I:Inv X f g H s):∀b∈eu X.stack,b∈X.env.locals::X.fs:=λb a=>by
 rcases I.ok.stk with e|⟨e,c⟩
 .rw[e]at a;exact iO _ a
 .rw[e]at a;unfold eu at a;rw[qZ,c]at a;exact a
theorem Inv.stkFree(I:Inv X f g H s):∀b∈eu X.stack,H b=ae:=λb a=>by
 rcases bF.mp (I.stkSub b a)with e|a
 .rw[e];exact I.free
 .obtain⟨_,o,c,_⟩:=I.ok.funs.mem a;exact I.base.free b o c (I.ok.frf b a) λz=>I.ok.exfs b z a
theorem Inv.step{g':Array GenState}{t':Nat}{d':Drawn}{ch:List af}(I:Inv X f g H s)(L:∀b∈ch,(b∈X.ex\/X.s₀.heap.objs.size<=b)/\b≠X.env.locals/\(∀x c,X.env.cells.lookup x=aa c->c≠b)/\∀p∈X.pn++f,p.1≠b)(keep:∀b o,b≠X.env.locals->b∉X.fs->b∉ch->s.heap.get? b=aa o->H b=ae->h'.get? b=aa o)(A:∀b o,b≠X.env.locals->b∈X.fs->b∉ch->s.heap.get? b=aa o->H b=ae->∃O,h'.get? b=aa {o with slots:=O}) (free:∀b o,b∉ch->s.heap.get? b=aa o->H b=ae->w b=ae)(B:∀b o,b∉ch->s.heap.get? b=aa o->∃J,h'.get? b=aa J)(F:∀b y,H b=aa (.tup y)->w b=aa (.tup y)) (M:∀b o u,H b=aa (.frz o u)->w b=aa (.frz o u)) (G:∀b q,H b=aa (.tbl q)->w b=aa (.tbl q))(ns:∀m,s.heap.Ns X.env.locals m->h'.Ns X.env.locals m) (P:cT X.prog X.w w h') (hg:kB g'):Inv X f g w {s with heap:=h',gens:=g',drawn:=d',toks:=t'}:=by
 have K:∀b o,X.s₀.heap.get? b=aa o->b≠X.env.locals:=λb o e=>cD (eE (bw e) I.ok.above);have t:∀b o,X.s₀.heap.get? b=aa o->b∉X.ex->b∉ch:=λb o e a C=>by
  rcases(L b C).1 with z|z
  .exact a z
  .exact absurd (eE (bw e) z) (gf _)
 have j:∀x c,X.env.cells.lookup x=aa c->∀v,s.heap.IsCell c v->h'.IsCell c v:=λx c e v ⟨o,E,Q⟩=>by
  have h:c∉ch:=λz=>(L c z).2.2.1 x c e rfl;by_cases Z:c∈X.fs
  .obtain⟨O,q⟩:=A c o (I.cne x c e) Z h E (I.freeC x c e);exact⟨_,q,Q⟩
  .exact⟨o,keep c o (I.cne x c e) Z h E (I.freeC x c e),Q⟩
 refine⟨I.ok,I.os,hg,⟨λb o e n C a=>?_,λb o e n C a=>?_,λb o e n a=>?_,λb o e a=>?_,λb y e=>F b y (I.base.tups b y e),λb o y e=>M b o y (I.base.frzs b o y e),λb ps e=>?_⟩,?_,λx c e=>?_,?_,λx c e=>?_,λp Y=>?_,P,I.len⟩
 .exact keep b o (K b o e) C (t b o e a) (I.base.keep b o e n C a) (I.base.free b o e n a)
 .obtain⟨O,D⟩:=I.base.slot b o e n C a;obtain⟨N,S⟩:=A b _ (K b o e) C (t b o e a) D (I.base.free b o e n a);exact⟨N,S⟩
 .obtain⟨J,D⟩:=I.base.there b o e a;exact free b J (t b o e a) D (I.base.free b o e n a)
 .obtain⟨J,D⟩:=I.base.there b o e a;exact B b J (t b o e a) D
 .exact G b _ (I.base.tbls b ps e)
 .obtain⟨m,hn,hl⟩:=I.loc;refine⟨m,ns m hn,λi x v D S e3=>?_⟩;obtain⟨u,r,l⟩:=hl i x v D S e3;refine⟨u,r,?_⟩;rcases l with l|⟨k,c,e,z⟩
  .exact .inl l
  .exact .inr ⟨k,c,e,j x c e _ z⟩
 .obtain⟨v,z⟩:=I.cell x c e;exact⟨v,j x c e v z⟩
 .obtain⟨m,⟨o,_,_,E,_⟩,_⟩:=I.loc;exact free _ o (λz=>(L _ z).2.1 rfl) E I.free
 .obtain⟨v,o,E,Q⟩:=I.cell x c e;exact free c o (λz=>(L c z).2.2.1 x c e rfl) E (I.freeC x c e)
 .obtain⟨e,n,W,T,d⟩:=I.pin p Y;have h:p.1∉ch:=λz=>(L p.1 z).2.2.2 p Y rfl;exact⟨keep p.1 p.2 W T h e n,free p.1 p.2 h e n,W,T,d⟩
theorem Inv.un{t':Nat}(I:Inv X f g H s)(u:Un X.fs [] H w s.heap h')(a:cT X.prog X.w w h'):Inv X f g w {s with heap:=h',toks:=t'}:=by
 obtain⟨m,⟨o,y,A,i,r⟩,_⟩:=id I.loc;obtain⟨t,q⟩:=u.any i I.free (by simp);exact I.step (g':=s.gens) (d':=s.drawn) (ch:=[]) (λ_ z=>nomatch z) (λb o _ c _ e n=>u.keep b o e n c (by simp)) (λb o _ c _ e n=>u.slot b o e n c (by simp)) (λb o _ e n=>u.free b o e n (by simp)) (λb o _ e=>u.there b o e (by simp)) u.tups u.frzs u.tbls (λx p=>by
  obtain⟨v,d,h,j,l⟩:=p;rw[i]at j;cases j;exact⟨_,d,h,q,l⟩) a I.bare
theorem Inv.call{g':Array GenState}{t':Nat}{d':Drawn}{ch:List af}(I:Inv X f g H s)(u:Un (eu X.stack) ch H w s.heap h')(d:cT X.prog X.w w h')(A:kB g')(l:∀b∈ch,(b∈X.ex\/X.s₀.heap.objs.size<=b)/\b≠X.env.locals/\(∀x c,X.env.cells.lookup x=aa c->c≠b)/\∀p∈X.pn++f,p.1≠b):Inv X f g w {s with heap:=h',gens:=g',drawn:=d',toks:=t'}:=by
 obtain⟨m,⟨o,F,G,q,r⟩,_⟩:=id I.loc;obtain⟨C,h⟩:=u.any q I.free λz=>(l _ z).2.1 rfl;exact I.step (ch:=ch) l (λb o h B a e n=>u.keep b o e n (λz=>(bF.mp (I.stkSub b z)).elim h B) a) (λb o _ _ a e n=>u.any e n a) (λb o a e n=>u.free b o e n a) (λb o a e=>u.there b o e a) u.tups u.frzs u.tbls (λE y=>by
  obtain⟨D,i,j,t,v⟩:=y;rw[q]at t;cases t;exact⟨_,i,j,h,v⟩) d A
theorem Inv.turned{t':Nat}{it:af}(I:Inv X f g H s)(k:∀b o,b≠it->s.heap.get? b=aa o->h'.get? b=aa o)(j:H it=ae)(h:it≠X.env.locals)(B:it∈X.ex\/X.s₀.heap.objs.size<=it) (A:∀x c,X.env.cells.lookup x=aa c->c≠it) (y:∀p∈X.pn++f,p.1≠it):Inv X f g H {s with heap:=h',toks:=t'}:=by
 have d:∀b u,H b=aa u->b≠it:=λb u e z=>by rw[z,j]at e;cases e
 refine I.step (g':=s.gens) (d':=s.drawn) (ch:=[it]) (λb t=>?_) (λb o _ _ a e _=>k b o (λz=>a (by simp[z])) e) (λb o _ _ a e _=>⟨o.slots,k b o (λz=>a (by simp[z])) e⟩) (λ_ _ _ _ n=>n)
  (λb o a e=>⟨o,k b o (λz=>a (by simp[z])) e⟩) (λ_ _ e=>e) (λ_ _ _ e=>e) (λ_ _ e=>e) (λm l=>?_) (λb u e=>?_) I.bare
 .have e:b=it:=by simpa using t
  subst e;exact⟨B,h,A,y⟩
 .obtain⟨o,C,D,i,r⟩:=l;exact⟨o,C,D,k _ o (fk h) i,r⟩
 .refine(I.hok b u e).stay (λc v a q=>k c v ?_ q) (λ_ q=>q) λ_ _ q=>q;rcases a with z|z
  .rw[z];exact d b u e
  .exact d c _ z
theorem Inv.tok(I:Inv X f g H s)(t:Nat):Inv X f g H {s with toks:=t}:=I.un (h':=s.heap) (t':=t) Un.refl I.hok
theorem Inv.kept{t':Nat}(I:Inv X f g H s)(k:∀b u,s.heap.get? b=aa u->h'.get? b=aa u):Inv X f g H {s with heap:=h',toks:=t'}:=I.un (Un.kept k) (I.hok.kept k)
theorem Inv.laid{a:af}{o:HO}{t':Nat}(I:Inv X f g H s)(k:∀b u,s.heap.get? b=aa u->h'.get? b=aa u)(c:s.heap.objs.size<=a)(new:cW X.prog X.w (upd H a o) h' a o):Inv X f g (upd H a o) {s with heap:=h',toks:=t'}:=I.un (Un.laid k c (I.hok.fresh c)) (I.hok.laid k c new)
theorem Inv.write{x e:af}{o:HO}{h:Nat}(I:Inv X f g H s)(c:qk (H x))(d:e=x\/H e=aa (.own x))(k:∀b u,b≠e->s.heap.get? b=aa u->h'.get? b=aa u)(a:∃u,h'.get? e=aa u)(new:cW X.prog X.w (upd H x o) h' x o):Inv X f g (upd H x o) {s with heap:=h',toks:=h}:=I.un (Un.write c d k a) (I.hok.write c d k a new)
theorem Inv.pins_of{a:List (af×Obj)}(I:Inv X f g H s)(h:∀p∈a,s.heap.get? p.1=aa p.2/\H p.1=ae/\p.1≠X.env.locals/\p.1∉X.fs/\∀v,p.2.data≠.cell v):Inv X a g H s :=⟨I.ok,I.os,I.bare,I.base,I.loc,I.cell,I.free,I.freeC,λp b=>(iP.mp b).elim (λz=>I.pin p (xJ _ z)) (h p),I.hok,I.len⟩
theorem yY{N:List Str}(c:N.Nodup){i j:Nat}{x:Str}(a:N[i]?=aa x)(b:N[j]?=aa x):i=j:=by obtain⟨m,h⟩:=cE.mp a;obtain⟨l,d⟩:=cE.mp b;exact(List.getElem_inj c).mp (h.trans d.symm)
theorem IE{M:Model}{A:aM}{E:ah->ao->Prop}{i:Nat}{x:Str}{v:V}{u:ah}{Q:Unit->ao->Prop}(I:Inv X f g H s)(hN:X.N.Nodup)(P:X.N[i]?=aa x)(D:Loc X.env.scope x)(r:RelV v u)(h:∀s',Inv X f (g.set i (aa v)) H s'->(∃a,jf a s.heap s'.heap/\(a=X.env.locals\/X.env.cells.lookup x=aa a))->Q () s') (hf:X.fn x=ai\/X.env.scope.names.lookup x=aa .local:=by first|exact .inl rfl|exact .inr rfl|assumption):aq M A (storeName X.env x u) Q E s:=by
 obtain⟨m,hn,hl⟩:=id I.loc;have yt:(X.env.scope.kind == .class||(X.env.scope.kind == .module&&X.env.locals != X.env.globals))=aj:=by rw[I.ok.kind];rfl
 have J:i<g.length:=by rw[I.len];exact(cE.mp P).1
 have cne:=I.cne;have t:∀{a:af}{h':ay},(∃o,s.heap.get? a=aa o/\H a=ae)->jf a s.heap h'->cT X.prog X.w H h':=λ{a h'} ha l b ob e=>by
  obtain⟨_,_,rK⟩:=ha;refine(I.hok b ob e).stay (λc T C q=>(l.2 c ?_).trans q) (λ_ q=>q) λ_ _ q=>q;rintro rfl;rcases C with rfl|C
  .rw[rK]at e;cases e
  .rw[rK]at C;cases C
 rcases D with G|G
 .refine wpAny_storeName_local G hn (λh' hn' l=>?_) yt;obtain⟨oL,_,_,rT,_⟩:=id hn;refine h _ ⟨I.ok,I.os,I.bare,⟨λb o e n N D=>?_,λb o e n N D=>?_,I.base.free,λb o e D=>?_,I.base.tups,I.base.frzs,I.base.tbls⟩,⟨_,hn',λj y Z B F e3=>?_⟩,λy c e=>?_,I.free,I.freeC,λp hp=>?_,t ⟨oL,rT,I.free⟩ l,by simpa using I.len⟩ ⟨_,l,.inl rfl⟩
  .exact(l.2 b (cD (eE (bw e) I.ok.above))).trans (I.base.keep b o e n N D)
  .obtain⟨sl,B⟩:=I.base.slot b o e n N D;exact⟨sl,(l.2 b (cD (eE (bw e) I.ok.above))).trans B⟩
  .obtain⟨o',B⟩:=I.base.there b o e D;exact⟨o',(l.2 b (cD (eE (bw e) I.ok.above))).trans B⟩
  .by_cases K:j=i
   .subst K;rw[P]at B;cases B;rw[fq J]at F;cases F;exact⟨u,r,.inl ⟨G,by simp⟩⟩
   .rw[dq (fk K)]at F;obtain⟨u',r',q⟩:=hl j y Z B F e3;refine⟨u',r',?_⟩;rcases q with⟨k,e⟩|⟨k,c,e,z⟩
    .refine .inl ⟨k,?_⟩;have:y≠x:=λe=>K (yY hN B (e ▸ P));simp[this,e]
    .exact .inr ⟨k,c,e,z.sameBut l (cne y c e)⟩
  .obtain⟨T,z⟩:=I.cell y c e;exact⟨T,z.sameBut l (cne y c e)⟩
  .obtain⟨e,n,W,nf,d⟩:=I.pin p hp;exact⟨(l.2 p.1 W).trans e,n,W,nf,d⟩
 .have L:X.fn x=ai:=by
   rcases hf with z|z
   .exact z
   .rw[z]at G;cases G
  obtain⟨c,C⟩:=I.ok.has x (.inl G);obtain⟨T,z⟩:=I.cell x c C;refine wpAny_storeName_cell I.ok.kind G C z (λh' fU l=>?_);obtain⟨oc,nt,O⟩:=id z;refine h {s with heap:=h'} ⟨I.ok,I.os,I.bare,⟨λb o e n N D=>?_,λb o e n N D=>?_,I.base.free,λb o e D=>?_,I.base.tups,I.base.frzs,I.base.tbls⟩,⟨m,hn.sameBut l (fk (cne x c C)),λj y Z B F e3=>?_⟩,λy Y e=>?_,I.free,I.freeC,λp hp=>?_,t ⟨oc,nt,I.freeC x c C⟩ l,by simpa using I.len⟩ ⟨c,l,.inr C⟩
  .exact(l.2 b (cD (eE (bw e) (I.ok.cab x c L C)))).trans (I.base.keep b o e n N D)
  .obtain⟨sl,B⟩:=I.base.slot b o e n N D;exact⟨sl,(l.2 b (cD (eE (bw e) (I.ok.cab x c L C)))).trans B⟩
  .obtain⟨o',B⟩:=I.base.there b o e D;exact⟨o',(l.2 b (cD (eE (bw e) (I.ok.cab x c L C)))).trans B⟩
  .by_cases K:j=i
   .subst K;rw[P]at B;cases B;rw[fq J]at F;cases F;exact⟨u,r,.inr ⟨.inl G,c,C,fU⟩⟩
   .rw[dq (fk K)]at F;obtain⟨u',r',q⟩:=hl j y Z B F e3;refine⟨u',r',?_⟩;rcases q with q|⟨k,Y,e,z'⟩
    .exact .inl q
    .refine .inr ⟨k,Y,e,z'.sameBut l ?_⟩;rintro rfl;exact K (yY hN B (I.ok.inj _ _ _ e C ▸ P))
  .by_cases S:Y=c
   .subst S;exact⟨_,fU⟩
   .obtain⟨w2,z2⟩:=I.cell y Y e;exact⟨w2,z2.sameBut l S⟩
  .obtain⟨e,n,W,nf,d⟩:=I.pin p hp;refine⟨(l.2 p.1 ?_).trans e,n,W,nf,d⟩;intro q;rw[q,nt]at e;have q':oc=p.2:=dA e;exact d T (by rw[<-q'];exact O)
theorem AQ{M:Model}{A:aM}{E:ah->ao->Prop}{i:Nat}{x:Str}{v:V}{u:ah}{Q:Unit->ao->Prop}(I:Inv X f g H s)(j:X.N.Nodup)(c:X.N[i]?=aa x)(b:Loc X.env.scope x)(r:RelV v u)(h:∀a,Inv X f (g.set i (aa v)) H a->Q () a) (d:X.fn x=ai\/X.env.scope.names.lookup x=aa .local:=by first|exact .inl rfl|exact .inr rfl|assumption):aq M A (storeName X.env x u) Q E s :=IE I j c b r (λa l _=>h a l) d
theorem Inv.call'{s':ao}{ch:List af}(I:Inv X f g H s)(i:s'.os=s.os)(u:Un (eu X.stack) ch H w s.heap s'.heap)(a:cT X.prog X.w w s'.heap)(j:kB s'.gens)(h:∀b∈ch,(b∈X.ex\/X.s₀.heap.objs.size<=b)/\b≠X.env.locals/\(∀x c,X.env.cells.lookup x=aa c->c≠b)/\∀p∈X.pn++f,p.1≠b):Inv X f g w s':=by obtain⟨h',g',d',t',d⟩:=s';have e:d=s.os:=i;subst e;exact I.call (g':=g') (t':=t') (d':=d') u a j h
end
abbrev XK:=ah->Option af->Hp->Prop
abbrev St:=List (Option V)
abbrev VK:=V->Hp->Prop
abbrev TE:=St->Hp->VK->Prop
abbrev TT:=St->Hp->(Bool->Hp->Prop)->Prop
abbrev TA:=St->Hp->(List V->Hp->Prop)->Prop
structure jF where
 nx:St->Hp->Prop
 rt:VK
 bk:St->Hp->Prop:=λ_ _=>False
 ct:St->Hp->Prop:=λ_ _=>False
abbrev TS:=jF->St->Hp->Prop
def EP(X:Cx)(d:List (af×Obj))(b:St)(Q:VK)(u:ah)(c:ao):Prop:=∃v a,Inv X d b a c/\RelV v u/\Q v a
def TP(X:Cx)(f:List (af×Obj))(c:St)(Q:Bool->Hp->Prop)(b:Bool)(d:ao):Prop:=∃a,Inv X f c a d/\Q b a
def AP(X:Cx)(g:List (af×Obj))(c:St)(Q:List V->Hp->Prop)(d:List ah)(f:ao):Prop:=∃a b,Inv X g c b f/\bh a d/\Q a b
def SP(X:Cx)(d:List (af×Obj))(D:jF)(f:Flow)(c:ao):Prop :=
 match f with
 |.next=>∃a b,Inv X d a b c/\D.nx a b
 |.brk=>∃a b,Inv X d a b c/\D.bk a b
 |.cont=>∃a b,Inv X d a b c/\D.ct a b
 |.ret u=>∃v a b,Inv X d a b c/\RelV v u/\D.rt v b
def PE(X:Cx)(e:az)(t:TE):Prop :=
 ∀(b:List (af×Obj)) (s:ao) (a:St) (H:Hp) (Q:VK),Inv X b a H s->t a H Q->aq (ar X.prog X.w) X.A (aP e X.env) (EP X b a Q) X.xe s
def PT(X:Cx)(e:az)(t:TT):Prop :=
 ∀(b:List (af×Obj)) (s:ao) (a:St) (H:Hp) (Q:Bool->Hp->Prop),Inv X b a H s->t a H Q->aq (ar X.prog X.w) X.A (kD e X.env (aP e X.env)) (TP X b a Q) X.xe s
def PW(X:Cx)(e:az)(t:TT):Prop :=
 ∀(c:Sem ah) (b:List (af×Obj)) (s:ao) (a:St) (H:Hp) (Q:Bool->Hp->Prop),Inv X b a H s->t a H Q->aq (ar X.prog X.w) X.A (kD e X.env c) (TP X b a Q) X.xe s
def PA(X:Cx)(d:List az)(t:TA):Prop :=
 ∀(b:Pos) (c:List (af×Obj)) (s:ao) (a:St) (H:Hp) (Q:List V->Hp->Prop),Inv X c a H s->t a H Q->aq (ar X.prog X.w) X.A (spliced (cM b (aN d X.env))) (AP X c a Q) X.xe s
def PS(X:Cx)(c:a8)(t:TS):Prop :=
 ∀(b:List (af×Obj)) (s:ao) (a:St) (H:Hp) (D:jF),Inv X b a H s->t D a H->aq (ar X.prog X.w) X.A (exec c X.env) (SP X b D) X.xe s
def jI(X:Cx)(c:List a8)(t:TS):Prop :=
 ∀(b:List (af×Obj)) (s:ao) (a:St) (H:Hp) (D:jF),Inv X b a H s->t D a H->aq (ar X.prog X.w) X.A (execs c X.env) (SP X b D) X.xe s
theorem aL{b:Type}{t:Sem b}{Q c:b->ao->Prop}{M:Model}{A:aM}{E:ah->ao->Prop}{s:ao}(h:aq M A t Q E s)(d:∀a s,Q a s->c a s):aq M A t c E s:=dO h d λ_ _ x=>x
section
variable{X:Cx}
def Br(i:Nat):TE:=λa H Q=>∃v,a[i]?=aa (aa v)/\Q v H
def tC(v:V):TE:=λ_ H Q=>Q v H
theorem gT{i:Nat}{x:Str}{f:Pos}(p:X.N[i]?=aa x)(j:fE X.env.scope x)(d:(x==("__debug__":Str))=aj:=by decide)(q:(x==("__classdict__":Str))=aj:=by decide):PE X (.Name x f) (Br i):=by
 intro t s g H Q I h;obtain⟨v,e,h⟩:=h;obtain⟨m,n,o⟩:=I.loc;obtain⟨u,r,l⟩:=o i x v p e j;have b:EP X t g Q u s:=⟨v,H,I,r,h⟩
 rcases l with⟨a,hm⟩|⟨a,c,hc,vk⟩
 .exact uF (BZ I.ok.kind a n hm b) d
 .rcases a with a|a
  .exact uF (wpAny_loadName_cell I.ok.kind a hc vk b) d
  .exact uF (wpAny_loadName_free I.ok.kind a hc vk b q) d
theorem J4{i j f}:PE X (.Constant (.int i) j f) (tC (.int i)):=λ_ _ _ H _ I h=>wpAny_Constant_int ⟨.int i,H,I.tok _,⟨_,rfl⟩,h⟩
theorem Hv{b j f}:PE X (.Constant (.bool b) j f) (tC (.bl b)):=λ_ _ _ H _ I h=>Constant_bool ⟨.bl b,H,I,rfl,h⟩
theorem GF{x j f}:PE X (.Constant (.str x) j f) (tC (.str x)):=λ_ _ _ H _ I h=>Calls.Constant_str ⟨.str x,H,I.tok _,⟨_,rfl⟩,h⟩
def Gl(X:Cx)(x:Str):Prop:=X.env.kindOf x=aa .globalImplicit
theorem xD{E:ah->ao->Prop}{g:List (af×Obj)}{s:ao}{a:St}{H:Hp}{x:Str}{u:ah}{f:Pos}{Q:ah->ao->Prop}(I:Inv X g a H s)(c:Gl X x)(b:X.mg x=aa u)(h:Q u s)(d:(x==("__debug__":Str))=aj:=by decide):aq (ar X.prog X.w) X.A (aP (.Name x f) X.env) Q E s :=B0 I.ok.kind c (Calls.loadGlobal_global (by rw[I.ok.glob];exact I.mod.glob.keeps I.bk) b h) d
theorem oN{E:ah->ao->Prop}{m:List (af×Obj)}{s:ao}{a:St}{H:Hp}{x:Str}{u:ah}{f:Pos}{Q:ah->ao->Prop}(I:Inv X m a H s)(g:Gl X x)(d:X.mg x=ae)(b:dm x=aa u)(h:Q u s)(c:x≠"__name__":=by decide) (i:(x==("__debug__":Str))=aj:=by decide):aq (ar X.prog X.w) X.A (aP (.Name x f) X.env) Q E s:=by obtain⟨n,l,j⟩:=I.mod.blt;exact B0 I.ok.kind g (Calls.loadGlobal_builtin (by rw[I.ok.glob];exact I.mod.glob.keeps I.bk) d (by rw[I.ok.blt];exact l.keeps I.bk) ((j x c).trans b) h) i
theorem AM{x:Str}{v:V}{u:ah}{f:Pos}(b:Gl X x)(a:X.mg x=aa u)(r:RelV v u)(c:(x==("__debug__":Str))=aj:=by decide):PE X (.Name x f) (tC v) :=λ_ _ _ H _ I h=>xD I b a ⟨v,H,I,r,h⟩ c
theorem Gc{x:Str}{v:V}{u:ah}{f:Pos}(d:Gl X x)(c:X.mg x=ae)(a:dm x=aa u)(r:RelV v u)(b:x≠"__name__":=by decide)(g:(x==("__debug__":Str))=aj:=by decide):PE X (.Name x f) (tC v) :=λ_ _ _ H _ I h=>oN I d c a ⟨v,H,I,r,h⟩ b g
variable{a b:az}{g n:TE}{f:Pos}
def PC(X:Cx)(j:CmpOp)(a b:az)(t:TE):Prop :=
 ∀(i:List (af×Obj)) (s:ao) (h:St) (H:Hp) (Q:VK),Inv X i h H s->t h H Q ->
  aq (ar X.prog X.w) X.A (aP a X.env) (λv d=>aq (ar X.prog X.w) X.A (aP b X.env) (λu c=>aq (ar X.prog X.w) X.A (dr j v u) (EP X i h Q) X.xe c) X.xe d) X.xe s
theorem Kj(b:az){c:CmpOp}(h:c≠.In)(d:c≠.NotIn):mU c b=aj:=by
 have j:(c == CmpOp.In)=aj:=by cases c <;> first|rfl|exact absurd rfl h
 have i:(c == CmpOp.NotIn)=aj:=by cases c <;> first|rfl|exact absurd rfl d
 cases b <;> simp[mU,j,i]
def tB(t:TE):TT:=λd H Q=>t d H λx h=>∃c,x=.bl c/\Q c h
theorem Jp{i:CmpOp}{t:TE}(h:PC X i a b t)(j:mU i b=aj:=by first|exact Kj _ (by decide) (by decide)|rfl):PT X (.Compare a [i] [b] f) (tB t):=by
 intro w s l H Q I p;refine wpAny_isTrue_Compare1 (aL (h w s l H _ I p) λv C j=>aL j λu B r=>aL r λc A ⟨x,z,y,m,o⟩=>?_) j;obtain⟨d,rfl,q⟩:=o;cases m;exact kE ⟨z,y,q⟩
theorem IM{e:az}{t:TE}(h:PE X e t)(o:∀c,kD e X.env c=(do let v <-c;standAt e.pos;lF [v] (truthy v)):=by intro _;rfl):PT X e (tB t):=by
 intro p s i H Q I m;refine isTrue_plain (aL (h p s i H _ I m) λv w ⟨x,u,r,j,l⟩=>?_) (o _);obtain⟨d,rfl,q⟩:=l;cases j;exact kE ⟨u,r,q⟩
variable{o p:TT}{rest:List az}
def DU(t u:TT):TT:=λd H Q=>t d H λc h=>if c=ai then Q ai h else u d h Q
def JP(t:TT):TT:=λd H Q=>t d H λc h=>Q (!c) h
theorem Gp(i:PT X a o):PW X (.BoolOp .Or [a] f) o:=by
 intro l j s d H Q I h;refine isTrue_or (aL (i j s d H Q I h) λc m e=>?_);cases c with
 |false=>exact isTrue_or_nil e
 |true=>exact e
theorem HC(u:PT X a o)(t:PW X (.BoolOp .Or (b::rest) f) p):PW X (.BoolOp .Or (a::b::rest) f) (DU o p):=by
 intro q j s d H Q I h;refine isTrue_or (aL (u j s d H _ I h) λc r ⟨m,l,i⟩=>?_);cases c with
 |true=>exact⟨m,l,i⟩
 |false=>exact t q j r d m Q l i
theorem EI(i:PT X a o):PT X (.UnaryOp .Not a f) (JP o):=by intro j s d H Q I h;exact isTrue_not (i j s d H (λc l=>Q (!c) l) I h)
def EC(g n:TE):TE:=λd H Q=>g d H λx h=>∃c,x=.bl c/\if c=ai then n d h Q else Q (.bl aj) h
def GY(g:TE):TE:=λd H Q=>g d H λx h=>∃c,x=.bl c/\Q (.bl (!c)) h
theorem Fp{op}{t:TE}(h:PE X a t):PE X (.BoolOp op [a] f) t:=λi s c H Q I d=>BoolOp_one (h i s c H Q I d)
theorem Dc(u:PE X a g)(t:PE X (.BoolOp .And (b::rest) f) n):PE X (.BoolOp .And (a::b::rest) f) (EC g n):=by
 intro j s i H Q I h;refine BoolOp_and (aL (u j s i H _ I h) λv q ⟨x,m,l,r,d⟩=>?_);obtain⟨c,rfl,d⟩:=d;cases r;refine kE ?_;cases c with
 |true=>exact t j q i m Q l d
 |false=>exact⟨.bl aj,m,l,rfl,d⟩
theorem Jj(l:PE X a g):PE X (.UnaryOp .Not a f) (GY g):=by
 intro m s i H Q I h;refine UnaryOp_ (aL (l m s i H _ I h) λv t ⟨x,r,q,j,d⟩=>?_);obtain⟨c,rfl,d⟩:=d;cases j;exact not_of (kE ⟨.bl (!c),r,q,rfl,d⟩)
def Gy(t:TT)(g n:TE):TE:=λd H Q=>t d H λc h=>if c=ai then g d h Q else n d h Q
theorem Gg{c:az}(t:PT X c o)(v:PE X a g)(u:PE X b n):PE X (.IfExp c a b f) (Gy o g n):=by
 intro j s i H Q I h;refine wpAny_IfExp (aL (t j s i H _ I h) λd l ⟨r,q,m⟩=>?_);cases d with
 |true=>exact v j l i r Q q m
 |false=>exact u j l i r Q q m
end
def bX(K:au)(H:Hp)(a:af)(c:List V):Prop :=
 Rd H a (.lst c) \/
  ∃(o:Obj) (b:Array ah) (n:Nat),K.lookup a=aa o/\o.cls=.type "list"/\o.dict=ae/\o.data=.seq b n/\b.size<=a9/\bh c b.toList
def bQ(K:au)(H:Hp)(a:af)(c:List V):Prop :=
 Rd H a (.tup c) \/
  ∃(o:Obj) (b:Array ah) (n:Nat),K.lookup a=aa o/\o.cls=.type "tuple"/\o.data=.seq b n/\b.size<=a9/\bh c b.toList
def KQ:ah->Option V
 |.none=>aa .non
 |.bool b=>aa (.bl b)
 |.int i _=>aa (.int i)
 |.str x _=>aa (.str x)
 |.bytes b _=>aa (.byt b)
 |.float b _=>aa (.flt b)
 |.ref a=>aa (.ref a)
 |.type n=>aa (.ty n)
 |_=>ae
theorem RelV.abs{x:V}{u:ah}(r:RelV x u):KQ u=aa x:=by
 cases x with
 |non=>cases r;rfl
 |bl _=>cases r;rfl
 |int _=>obtain⟨t,rfl⟩:=r;rfl
 |str _=>obtain⟨t,rfl⟩:=r;rfl
 |byt _=>obtain⟨t,rfl⟩:=r;rfl
 |flt _=>obtain⟨t,rfl⟩:=r;rfl
 |ref _=>cases r;rfl
 |ty _=>cases r;rfl
theorem RelV.inj{x y:V}{u:ah}(r:RelV x u)(q:RelV y u):x=y:=dA (r.abs.symm.trans q.abs)
theorem bh.inj:∀{b a:List V}{c:List ah},bh b c->bh a c->b=a
 |_,_,_,.nil,.nil=>rfl
 |_,_,_,.cons r t,.cons f d=>by rw[r.inj f,bh.inj t d]
section
variable{X:Cx}{f:List (af×Obj)}{c:St}{H:Hp}{s:ao}{a:af}{b ys:List V}
theorem bX.of{K:au}(h:H a=aa (.lst b)):bX K H a b:=.inl (.inl h)
theorem bQ.of{K:au}(h:H a=aa (.tup b)):bQ K H a b:=.inl (.inl h)
theorem Inv.list(I:Inv X f c H s)(h:bX X.K H a b):∃its:List ah,bh b its/\PlainL s.heap a its.toArray/\b.length<=a9:=by
 rcases h with h|⟨o,its,n,g,j,i,d,l,r⟩
 .obtain⟨z,its,n,r,e⟩:=h.ok I.hok;exact⟨its,r,⟨_,n,e,rfl,rfl,rfl⟩,z⟩
 .refine⟨its.toList,r,⟨o,n,I.kIn a o g,j,i,by simpa using d⟩,?_⟩;have e:=r.length;simp only[kF]at e;lia
theorem Inv.tuple(I:Inv X f c H s)(h:bQ X.K H a b):∃d:List ah,bh b d/\IsTup s.heap a d.toArray/\b.length<=a9:=by
 rcases h with h|⟨o,d,n,i,j,g,l,r⟩
 .obtain⟨z,d,r,p,_⟩:=h.ok I.hok;exact⟨d,r,p,z⟩
 .refine⟨d.toList,r,⟨o,I.kIn a o i,j,n,by simpa using g⟩,?_⟩;have e:=r.length;simp only[kF]at e;lia
theorem Inv.list_inj(I:Inv X f c H s)(h:bX X.K H a b)(p:bX X.K H a ys):b=ys:=by
 obtain⟨i,r,⟨o,n,e,_,_,d⟩,_⟩:=I.list h;obtain⟨g,m,⟨q,t,j,_,_,l⟩,_⟩:=I.list p;rw[e]at j;cases j;rw[d]at l;injection l with d1 _;have:i=g:=by simpa using congrArg Array.toList d1
 subst this;exact r.inj m
theorem Inv.tuple_inj(I:Inv X f c H s)(h:bQ X.K H a b)(p:bQ X.K H a ys):b=ys:=by
 obtain⟨i,r,⟨o,e,_,n,d⟩,_⟩:=I.tuple h;obtain⟨g,m,⟨q,j,_,t,l⟩,_⟩:=I.tuple p;rw[e]at j;cases j;rw[d]at l;injection l with d1 _;have:i=g:=by simpa using congrArg Array.toList d1
 subst this;exact r.inj m
end
abbrev Cx.wish(X:Cx)(E:ah->ao->Prop):Cx:={X with xe:=E}
abbrev Cx.nox(X:Cx):Cx:=X.wish λ_ _=>False
theorem Cx.Ok.wish{X:Cx}(ok:X.Ok)(E:ah->ao->Prop):(X.wish E).Ok :=⟨ok.mod,ok.kind,ok.glob,ok.blt,ok.above,ok.inj,ok.has,ok.cab,ok.hd,ok.frames,ok.stk,ok.exf,ok.bs,ok.bsz,ok.noex,ok.exfs,ok.funs,ok.frf,ok.tab⟩
theorem Cx.Ok.unwish{X:Cx}{E:ah->ao->Prop}(ok:(X.wish E).Ok):X.Ok :=⟨ok.mod,ok.kind,ok.glob,ok.blt,ok.above,ok.inj,ok.has,ok.cab,ok.hd,ok.frames,ok.stk,ok.exf,ok.bs,ok.bsz,ok.noex,ok.exfs,ok.funs,ok.frf,ok.tab⟩
section
variable{X:Cx}{a:List (af×Obj)}{b:St}{H:Hp}{s:ao}{E:ah->ao->Prop}
theorem Inv.wish(I:Inv X a b H s)(E:ah->ao->Prop):Inv (X.wish E) a b H s:=⟨I.ok.wish E,I.os,I.bare,I.base,I.loc,I.cell,I.free,I.freeC,I.pin,I.hok,I.len⟩
theorem Inv.unwish(I:Inv (X.wish E) a b H s):Inv X a b H s:=⟨I.ok.unwish,I.os,I.bare,I.base,I.loc,I.cell,I.free,I.freeC,I.pin,I.hok,I.len⟩
theorem SP.unwish{D:jF}{f:Flow}{g:ao}(h:SP (X.wish E) a D f g):SP X a D f g:=by
 cases f with
 |next=>obtain⟨c,d,I,q⟩:=h;exact⟨c,d,I.unwish,q⟩
 |brk=>obtain⟨c,d,I,q⟩:=h;exact⟨c,d,I.unwish,q⟩
 |cont=>obtain⟨c,d,I,q⟩:=h;exact⟨c,d,I.unwish,q⟩
 |ret u=>obtain⟨v,c,d,I,r,q⟩:=h;exact⟨v,c,d,I.unwish,r,q⟩
end
section
variable{X:Cx}{j:a8}{rest:List a8}{t u:TS}{e:az}{i:TE}{g:Pos}
def FG:TS:=λD a H=>D.nx a H
def EG(t u:TS):TS:=λD a H=>t {D with nx:=u D} a H
theorem Eo:jI X [] FG:=λ_ _ a H _ I h=>wpAny_execs_nil ⟨a,H,I,h⟩
theorem Dm(m:PS X j t)(l:jI X rest u):jI X (j::rest) (EG t u):=by
 intro b s c H D I h;refine wpAny_execs_cons (aL (m b s c H {D with nx:=u D} I h) λf d q=>?_);cases f with
 |next=>obtain⟨a,o,n,q⟩:=q;exact l b d a o D n q
 |ret v=>exact q
 |brk=>exact q
 |cont=>exact q
theorem Ei(b:PS X j t):jI X [j] t:=by
 intro c s a H D I h;refine wpAny_execs_cons (aL (b c s a H D I h) λf d q=>?_);cases f with
 |next=>exact wpAny_execs_nil q
 |ret v=>exact q
 |brk=>exact q
 |cont=>exact q
theorem Inv.quiet{b:List (af×Obj)}{a:St}{H:Hp}{s:ao}(I:Inv X b a H s):interactive X.env=aj:=by simp[interactive,I.ok.kind]
def Ha(i:TE):TS:=λD a H=>i a H λ_ b=>D.nx a b
theorem tZ(d:PE X e i)(c:kG e ae g.line X.env=pure aj:=by rfl):PS X (.Expr e g) (Ha i):=by intro f s a H D I h;exact wpAny_Expr_any (aL (d f s a H _ I h) λv n ⟨x,m,l,o,b⟩=>⟨a,m,l,b⟩) I.quiet c
def GR(i:TE):TS:=λD a H=>i a H D.rt
theorem vS(d:PE X e i):PS X (.Return (aa e) g) (GR i):=by intro f s a H D I h;exact wpAny_Return_some (aL (d f s a H _ I h) λv n ⟨x,m,l,b,c⟩=>⟨x,a,m,l,b,c⟩)
def Kc(c:TT)(t u:TS):TS:=λD a H=>c a H λb d=>if b=ai then t D a d else u D a d
theorem J0{c:az}{a b:List a8}{m:TT}(r:PT X c m)(w:jI X a t)(v:jI X b u):PS X (.If c a b g) (Kc m t u):=by
 intro l s f H D I h;refine wpAny_If (aL (r l s f H _ I h) λd n ⟨q,p,o⟩=>?_);cases d with
 |true=>exact w l n f q D p o
 |false=>exact v l n f q D p o
end
abbrev TG:=V->St->Hp->(St->Hp->Prop)->Prop
abbrev mJ:=List V->St->Hp->(St->Hp->Prop)->Prop
def PG(X:Cx)(a:az)(t:TG):Prop :=
 ∀(d:List (af×Obj)) (s:ao) (c:St) (H:Hp) (v:V) (u:ah) (Q:St->Hp->Prop),Inv X d c H s->RelV v u->t v c H Q ->
  aq (ar X.prog X.w) X.A (assign a X.env u) (λ_ g=>∃b f,Inv X d b f g/\Q b f) X.xe s
def sY(X:Cx)(h:List az)(t:mJ):Prop :=
 ∀(f:List (af×Obj)) (s:ao) (b:St) (H:Hp) (c:List V) (d:List ah) (Q:St->Hp->Prop),Inv X f b H s->bh c d->t c b H Q ->
  aq (ar X.prog X.w) X.A (assignInOrder ((oZ h X.env).map (·.2)) d) (λ_ i=>∃a g,Inv X f a g i/\Q a g) X.xe s
abbrev wO:=V->V->V->Hp->(Hp->Prop)->Prop
def AU(X:Cx)(t:wO):Prop :=
 ∀(c:List (af×Obj)) (s:ao) (a:St) (H:Hp) (o i v:V) (ov b u:ah) (Q:Hp->Prop),Inv X c a H s->RelV o ov->RelV i b->RelV v u->t o i v H Q ->
  aq (ar X.prog X.w) X.A (setItem ov b u) (λ_ f=>∃d,Inv X c a d f/\Q d) X.xe s
section
variable{X:Cx}{c:Pos}
def yP(i:Nat):TG:=λv a H Q=>Q (a.set i (aa v)) H
theorem uC{i:Nat}{x:Str}(f:X.N.Nodup)(b:X.N[i]?=aa x)(a:Loc X.env.scope x)(d:X.fn x=ai\/X.env.scope.names.lookup x=aa .local:=by first|exact .inl rfl|exact .inr rfl|assumption):PG X (.Name x c) (yP i):=by intro m s j H v u Q I r h;exact wpAny_assign_Name (AQ I f b a r (λl g=>⟨_,H,g,h⟩) d)
def bK:mJ:=λb a H Q=>b=[]/\Q a H
def GQ(t:TG)(u:mJ):mJ:=λd b H Q=>∃v r,d=v::r/\t v b H λa f=>u r a f Q
theorem Il:sY X [] bK:=by
 intro f s a H b d Q I r h;obtain⟨e,h⟩:=h;subst e;cases r;exact assignInOrder_nil ⟨a,H,I,h⟩
theorem BK{e:az}{a:List az}{t:TG}{u:mJ}(n:PG X e t)(m:sY X a u)(l:(oZ (e::a) X.env).map (·.2)=assign e X.env::(oZ a X.env).map (·.2):=by rfl):sY X (e::a) (GQ t u):=by
 intro d s f H w y Q I r h;obtain⟨v,x,o,h⟩:=h;subst o;cases r with
 |cons r i=>rw[l];refine assignInOrder_cons (aL (n d s f H _ _ _ I r h) λ_ g ⟨b,q,p,j⟩=>?_);exact m d g b q _ _ Q p i j
def Ip(K:au)(n:Nat)(t:mJ):TG:=λv d H Q=>∃a b,v=.ref a/\bQ K H a b/\b.length=n/\t b d H Q
theorem Iy{d:List az}{k:Nat}{t:mJ}{n:Nat}(z:X.calm=ai)(h:sY X d t)(x:(oZ d X.env).length=n:=by rfl) (C:(oZ d X.env).findIdx? (·.1)=ae:=by rfl):PG X (.Tuple d k c) (Ip X.K n t):=by
 intro j s g H v u Q I r f;obtain⟨a,l,B,w,y,f⟩:=f;subst B;cases r;obtain⟨m,i,q,E⟩:=I.tuple w;refine assign_Tuple_tuple (I.ok.hd z) q (by simp[x,<-y,i.length]) C λA p=>?_;have D:Inv X j g H {s with heap:=A}:=I.kept (t':=s.toks) λb o e=>p b o (cD (bw e)) e;exact h j _ g H l _ Q D (by simpa using i) f
def Jv(b d:TE)(t:wO):TG:=λv a H Q=>b a H λo h=>d a h λi g=>t o i v g λf=>Q a f
theorem CY{o i:az}{f g:TE}{t:wO}(A:PE X o f)(B:PE X i g)(z:AU X t)(C:∀v,assign (.Subscript o i c) X.env v=(do
   let ov <-lF [v] (aP o X.env)
   let a <-lF [v,ov] (aP i X.env)
   standAt c
   lF [v,ov,a] (setItem ov a v)
   release [v,ov,a] []):=by intro _;rfl):PG X (.Subscript o i c) (Jv f g t):=by
 intro d s b H v u Q I r h;rw[C];refine ap (io (aL (A d s b H _ I h) λov l ⟨x,K,F,n,w⟩=>?_));refine ap (io (aL (B d l b K _ F w) λa j ⟨y,J,E,m,q⟩=>?_));refine ap (wpAny_standAt (ap (io (aL (z d j b J x y v ov a u _ E n m r q) λ_ L ⟨G,D,p⟩=>?_))));exact wpAny_release ⟨b,G,D,p⟩
def ze(b:TE)(g:TG):TS:=λD a H=>b a H λx d=>g x a d D.nx
theorem z5{a e:az}{d:TE}{g:TG}(p:PE X e d)(o:PG X a g)(n:swapsWithSole [a] e c.line X.env=pure aj:=by rfl)(m:swappedStores [a] e X.env=pure ae:=by rfl)(r:(oZ [a] X.env).map (·.2)=[assign a X.env]:=by rfl):PS X (.Assign [a] e c) (ze d g):=by intro f s b H D I h;refine wpAny_Assign_stores (aL (p f s b H _ I h) λv i ⟨x,u,t,j,l⟩=>?_) n m;rw[r];exact aL (o f i b u x v _ t j l) λ_ w q=>q
theorem Bz{i:Nat}{x:Str}{e:az}{b:TE}{a:Pos}(p:X.N.Nodup)(m:X.N[i]?=aa x)(j:Loc X.env.scope x)(o:PE X e b)(l:kG e (aa (.Name x a)) c.line X.env=pure aj:=by rfl)(n:X.fn x=ai\/X.env.scope.names.lookup x=aa .local:=by first|exact .inl rfl|exact .inr rfl|assumption):PS X (.Assign [.Name x a] e c) (ze b (yP i)):=by intro q s d H D I h;refine wpAny_Assign_Name (aL (o q s d H _ I h) λv z ⟨y,u,t,f,g⟩=>?_) l;exact AQ t p m j f (λw r=>⟨_,u,r,g⟩) n
end
structure It where
 go:Nat->Hp->Prop
 yld:Nat->Hp->V->Hp->Prop
 stop:Nat->Hp->Prop
def jb(X:Cx)(a:List (af×Obj))(H:Hp)(b:af):Prop :=
 H b=ae/\b≠X.env.locals/\b∉X.fs/\(b∈X.ex\/X.s₀.heap.objs.size<=b)/\(∀x c,X.env.cells.lookup x=aa c->c≠b)/\∀p∈X.pn++a,p.1≠b
theorem Inv.fpOk{X:Cx}{d:List (af×Obj)}{g:St}{H f:Hp}{s:ao}{b:af}(I:Inv X d g H s)(a:s.heap.objs.size<=b)(i:f b=ae):jb X d f b:=by
 refine⟨i,lG (eE I.lt a),I.nofs a,.inr (cn I.sz a),λx c e z=>?_,λp h z=>?_⟩
 .obtain⟨v,q⟩:=I.cell x c e;exact absurd (eE q.lt (by rw[z];exact a)) (gf _)
 .exact absurd (eE (bw (I.pin p h).1) (by rw[z];exact a)) (gf _)
structure n_(P:aK)(w:aD)(K:au)(tg:az)(J:It)(fp:List af)(it:af)(tn:Nat->ay->Prop):Prop where
 mem:it∈fp
 obj:∀i h,tn i h->∀b∈fp,∃o,h.get? b=aa o/\∀v,o.data≠.cell v
 keep:∀i h h',tn i h->(∀b∈fp,∀o,h.get? b=aa o->h'.get? b=aa o)->tn i h'
 item:∀(X:Cx),X.prog=P->X.w=w->X.K=K->X.calm=ai->∀(i:Nat) (ag:List (af×Obj)) (s:ao) (σ:St) (H:Hp) (E:ah->ao->Prop),Inv X ag σ H s->(∀b∈fp,jb X ag H b)->tn i s.heap->J.go i H ->
  aq (ar P w) X.A (pyNext (.ref it)) (λr s1=>∃u,r=aa u /\ aq (ar P w) X.A (xK tg (.ref it) u) (λ_ s2=>∃x H',Inv X ag σ H' s2/\RelV x u/\J.yld i H x H'/\tn (i+1) s2.heap/\∀b∈fp,H' b=ae) E s1) E s
 done:∀(X:Cx),X.prog=P->X.w=w->X.K=K->X.calm=ai->∀(i:Nat) (ag:List (af×Obj)) (s:ao) (σ:St) (H:Hp) (E:ah->ao->Prop),Inv X ag σ H s->(∀b∈fp,jb X ag H b)->tn i s.heap->J.stop i H ->
  aq (ar P w) X.A (pyNext (.ref it)) (λr s1=>r=ae/\Inv X ag σ H s1) E s
 self:∀(A:aM) (i:Nat) (s:ao) (Q:ah->ao->Prop) (E:ah->ao->Prop),tn i s.heap->Q (.ref it) s->aq (ar P w) A (kH (.ref it)) Q E s
abbrev TI:=St->Hp->(It->Hp->Prop)->Prop
def pY(X:Cx)(i:List (af×Obj))(j:St)(l:az)(R:It->Hp->Prop)(a:ah)(f:ao):Prop :=
 ∃(g:af) (h:List af) (d:Nat->ay->Prop) (J:It) (c:Hp),a=.ref g/\Inv X i j c f/\n_ X.prog X.w X.K l J h g d/\d 0 f.heap/\(∀b∈h,jb X i c b)/\R J c
def PI(X:Cx)(f a:az)(d:TI):Prop :=
 ∀(c:List (af×Obj)) (s:ao) (b:St) (H:Hp) (R:It->Hp->Prop),Inv X c b H s->d b H R ->
  aq (ar X.prog X.w) X.A (aP a X.env) (λv g=>aq (ar X.prog X.w) X.A (kH v) (pY X c b f R) X.xe g) X.xe s
theorem pT{M:Model}{A:aM}{E:ah->ao->Prop}{s:ao}{c:az}{d:af}{u:ah}{o:Obj}{n:String}{b:Array ah}{Q:Unit->ao->Prop}(f:s.heap.get? d=aa o)(j:o.cls=.type n)(i:o.data=.fields b)(g:["enumerate","zip","dict_itemiterator","dict_reverseitemiterator","odict_iterator","itertools.zip_longest","itertools.pairwise"].contains n=aj) (a:Q () s):aq M A (xK c (.ref d) u) Q E s:=by
 unfold xK;cases c <;> first
  |exact aC a
  | (cases u <;> first
    |exact aC a
    | (refine ap (wpAny_load f ?_)
       rw[j,i];show aq M A (if(["enumerate","zip","dict_itemiterator","dict_reverseitemiterator","odict_iterator","itertools.zip_longest","itertools.pairwise"].contains n&&b[0]? == aa (cN _))=ai then _ else _) Q E s;rw[if_neg (by intro h;rw[g,Bool.false_and]at h;cases h)];exact aC a))
def vM(K:au)(a:af):It :=⟨λi H=>∃b x,bX K H a b/\b[i]?=aa x,λi H x c=>c=H/\∀b,bX K H a b->b[i]?=aa x,λi H=>∃b,bX K H a b/\b.length<=i⟩
def wL(K:au)(a:af):It :=⟨λi H=>∃b x,bQ K H a b/\b[i]?=aa x,λi H x c=>c=H/\∀b,bQ K H a b->b[i]?=aa x,λi H=>∃b,bQ K H a b/\b.length<=i⟩
def tX(a:Int)(n:Nat):It:=⟨λi _=>i<n,λi H x b=>b=H/\x=.int (a+i),λi _=>n<=i⟩
theorem G7{P:aK}{w:aD}{K:au}{Q:az}(a g:af):n_ P w K Q (vM K a) [g] g (λi h=>h.IsListIter g a i) where
 mem:=by simp
 obj:=λi h f b j=>by
  have e:b=g:=by simpa using j
  subst e;obtain⟨o,e,c,d⟩:=f;exact⟨o,e,λv z=>by rw[d]at z;cases z⟩
 keep:=λi h n f k=>f.at λo e=>k g (by simp) o e
 item:=by intro X B y C L i N s J H E I m f A;subst B y C;obtain⟨O,x,l,t⟩:=A;obtain⟨r,q,p,T⟩:=I.list l;obtain⟨u,Y,S⟩:=q.get t;obtain⟨G,F,f2,f3,f4,D⟩:=m g (by simp);refine wpAny_pyNext_list_item f p.isList (x:=u) (by simpa using Y) λn M sb=>?_;have I1:Inv X N J H {s with heap:=n}:=I.turned (t':=s.toks) (λb o j e=>(sb.2 b j).trans e) G F f3 f4 D;obtain⟨o,e,c,d⟩:=id M;exact⟨u,rfl,pT (s:={s with heap:=n}) e c d (by decide) ⟨x,H,I1,S,⟨rfl,λys W=>by rw[I.list_inj W l];exact t⟩,M,λb j=>(m b j).1⟩⟩
 done:=by intro X B y C L i N s J H E I m f A;subst B y C;obtain⟨O,l,t⟩:=A;obtain⟨r,q,p,T⟩:=I.list l;obtain⟨G,F,f2,f3,f4,D⟩:=m g (by simp);have hl:=q.length;exact wpAny_pyNext_list_end (I.ok.hd L) f p.isList (by simp;lia) λn Z=>⟨rfl,I.turned (t':=s.toks) (λb o j e=>Z b o j e) G F f3 f4 D⟩
 self:=λ_ _ _ _ _ f h=>wpAny_pyIter_listiter f h
theorem Jn{P:aK}{w:aD}{K:au}{Q:az}(a j:af):n_ P w K Q (wL K a) [j] j (λi h=>h.IsTupleIter j a i) where
 mem:=by simp
 obj:=λi h f b l=>by
  have e:b=j:=by simpa using l
  subst e;obtain⟨o,e,c,d⟩:=f;exact⟨o,e,λv z=>by rw[d]at z;cases z⟩
 keep:=λi h q f k=>f.at λo e=>k j (by simp) o e
 item:=by intro X B y C L i N s J H E I n f A;subst B y C;obtain⟨O,x,m,t⟩:=A;obtain⟨g,r,p,T⟩:=I.tuple m;obtain⟨u,Y,S⟩:=r.get t;obtain⟨G,F,f2,f3,f4,D⟩:=n j (by simp);refine wpAny_pyNext_tuple_item f (show s.heap.IsTuple a g.toArray from p) (x:=u) (by simpa using Y) λq M sb=>?_;have I1:Inv X N J H {s with heap:=q}:=I.turned (t':=s.toks) (λb o l e=>(sb.2 b l).trans e) G F f3 f4 D;obtain⟨o,e,c,d⟩:=id M;exact⟨u,rfl,pT (s:={s with heap:=q}) e c d (by decide) ⟨x,H,I1,S,⟨rfl,λys W=>by rw[I.tuple_inj W m];exact t⟩,M,λb l=>(n b l).1⟩⟩
 done:=by intro X B y C L i N s J H E I n f A;subst B y C;obtain⟨O,m,t⟩:=A;obtain⟨g,r,p,T⟩:=I.tuple m;obtain⟨G,F,f2,f3,f4,D⟩:=n j (by simp);have hl:=r.length;exact wpAny_pyNext_tuple_end (I.ok.hd L) f (show s.heap.IsTuple a g.toArray from p) (by simp;lia) λq Z=>⟨rfl,I.turned (t':=s.toks) (λb o l e=>Z b o l e) G F f3 f4 D⟩
 self:=λ_ _ _ _ _ f h=>wpAny_pyIter_tupleiter f h
theorem F8{P:aK}{w:aD}{K:au}{G:az}(c:af)(f:Int)(n:Nat):n_ P w K G (tX f n) [c] c (λi h=>xL h c (f+(i:Nat)*1) ((n:Int)-(i:Nat)) 1) where
 mem:=by simp
 obj:=λi h a b d=>by
  have e:b=c:=by simpa using d
  subst e;exact⟨_,a,λv z=>by
   have F:Data.fields _=Data.cell v:=z;cases F⟩
 keep:=λi h j a k=>k c (by simp) _ a
 item:=by intro X q l r p i D s A H E I g a m;subst q l r;obtain⟨y,x,f2,f3,f4,u⟩:=g c (by simp);have W:=Walks.range (prog:=X.prog) (w:=X.w) (I.ok.hd p) c f 1 n;refine W.item i s _ _ m a λv j B L C J=>?_;obtain⟨t,rfl⟩:=L;have N:Inv X D A H {s with heap:=j,toks:=B}:=I.turned (λb o d e=>J b o (by simpa using d) e) y x f3 f4 u;refine⟨_,rfl,pT (s:={s with heap:=j,toks:=B}) (n:="range_iterator") C rfl rfl (by decide) ⟨.int (f+i),H,N,⟨t,?_⟩,⟨rfl,rfl⟩,C,λb d=>(g b d).1⟩⟩;rw[Int.mul_one]
 done:=by intro X q l r p i D s A H E I g a m;subst q l r;obtain⟨y,x,f2,f3,f4,u⟩:=g c (by simp);exact wpAny_pyNext_range_end (I.ok.hd p) a (by have:n<=i:=m;lia) λj M=>⟨rfl,I.turned (t':=s.toks) (λb o d e=>M b o d e) y x f3 f4 u⟩
 self:=λ_ _ _ _ _ a h=>wpAny_pyIter_rangeiter a h
section
variable{X:Cx}{c:az}
theorem Dn{h:List (af×Obj)}{f:St}{H:Hp}{s:ao}{R:It->Hp->Prop}{E:ah->ao->Prop}{a d:Int}{t u v:Tok}{g:Nat}(I:Inv X h f H s)(p:-(2^62)<=a)(n:a<2^62)(m:-(2^62)<=d)(l:d<2^62)(q:R (tX a (d-a).toNat) H):aq (ar X.prog X.w) X.A (kH (.ref s.heap.objs.size)) (pY X h f c R) E {s with heap:=s.heap.push {cls:=.type "range",data:=.fields #[.int a t,.int d u,.int 1 v]},toks:=g}:=by
 refine wpAny_pyIter_range (IsRange.new ..) (small_one p n m l) ?_;have i:Inv X h f H {s with heap:=s.heap.push {cls:=.type "range",data:=.fields #[.int a t,.int d u,.int 1 v]},toks:=g}:=I.kept λb o e=>bd _ e;refine⟨(s.heap.push {cls:=.type "range",data:=.fields #[.int a t,.int d u,.int 1 v]}).objs.size,[(s.heap.push {cls:=.type "range",data:=.fields #[.int a t,.int d u,.int 1 v]}).objs.size],_,_,H,rfl,i.kept (t':=g) λb o e=>bd _ e,F8 _ a (d-a).toNat,?_,λb j=>?_,q⟩
 .have w:a+((0:Nat):Int)*1=a:=by simp
  have r:(((d-a).toNat:Nat):Int)-((0:Nat):Int)=xM a d 1:=by rw[rangeSize_one];split <;> lia
  show xL _ _ (a+((0:Nat):Int)*1) ((((d-a).toNat:Nat):Int)-((0:Nat):Int)) 1;rw[w,r];exact cg _ rfl
 .have e:b=(s.heap.push {cls:=.type "range",data:=.fields #[.int a t,.int d u,.int 1 v]}).objs.size:=by simpa using j
  subst e;exact i.fpOk (aY _) (i.hok.fresh (aY _))
def DD(d:TA):TI:=λa H R=>d a H λb f=>∃j:Int,b=[.int j]/\-(2^62)<=j/\j<2^62/\R (tX 0 j.toNat) f
theorem Kq{a:az}{f:TA}{p b:Pos}(u:Gl X "range")(o:X.mg "range"=ae)(v:PA X [a] f)(n:aN [a] X.env=[(aj,aP a X.env)]:=by rfl):PI X c (.Call (.Name "range" p) [a] [] b) (DD f):=by
 intro w s g H R I h;refine Call_ (oN I u o boot_range (B3 (aL (v b w s g H _ I h) λz A ⟨y,B,x,l,d⟩=>?_) n rfl));obtain⟨j,e,d,m,q⟩:=d;subst e;cases l with
 |cons r i=>
  cases i;obtain⟨t,rfl⟩:=r;exact call_range_1 (Dn x ∅ ∅ d m (by simpa using q))
def IU(j:TI)(g:TG)(l:TS):TS:=λD a H=>j a H λJ o=>∃W:Nat->Nat->St->Hp->Prop,(∃m,W 0 m a o)/\∀i m a H,W i m a H ->
 (J.stop i H/\D.nx a H)\/(J.go i H/\∃N:St->Hp->Prop,(∀b d,N b d->∃h,h<m/\W (i+1) h b d)/\∀x d,J.yld i H x d->g x a d λf n=>l {D with nx:=N,ct:=N,bk:=D.nx} f n)
def qK(a:List af)(h:ay):List (af×Obj):=a.filterMap λb=>(h.get? b).map λo=>(b,o)
theorem ua{a:List af}{h:ay}{b:af}{o:Obj}(d:b∈a)(e:h.get? b=aa o):(b,o)∈qK a h:=List.mem_filterMap.mpr ⟨b,d,by rw[e];rfl⟩
theorem Gi{a:List af}{h:ay}{p:af×Obj}(d:p∈qK a h):p.1∈a/\h.get? p.1=aa p.2:=by
 obtain⟨b,f,e⟩:=List.mem_filterMap.mp d;cases q:h.get? b with
 |none=>rw[q]at e;cases e
 |some o=>rw[q]at e;have g:(b,o)=p:=dA e;subst g;exact⟨f,q⟩
theorem Inv.pinned{f:List (af×Obj)}{g:St}{H:Hp}{s:ao}{a:List af}(I:Inv X f g H s)(m:∀b∈a,jb X f H b)(l:∀b∈a,∃o,s.heap.get? b=aa o/\∀v,o.data≠.cell v):Inv X (f++qK a s.heap) g H s :=
 I.pins_of λp j=>(iP.mp j).elim (λz=>I.pin p (jM _ z)) λz=>by
  obtain⟨h,e⟩:=Gi z;obtain⟨q,n,f2,_⟩:=m p.1 h;obtain⟨o,i,d⟩:=l p.1 h;rw[e]at i;cases i;exact⟨e,q,n,f2,d⟩
theorem Inv.unpinned{b d:List (af×Obj)}{a:St}{H:Hp}{s:ao}(I:Inv X (b++d) a H s):Inv X b a H s:=I.pins_of λp f=>I.pin p (jM _ (xJ _ f))
theorem GP{q:az}{C:List a8}{wi:TI}{g:TG}{tb:TS}{S:Pos}(K:PassesOwn (ar X.prog X.w) X.A X.env X.xe)(hc:X.calm=ai)(hi:PI X c q wi)(hg:PG X c g)(t:jI X C tb)(hs:∀x,uG q X.env x=pure x:=by intro _;rfl):PS X (.For c q C [] S) (IU wi g tb):=by
 intro E s σ H D I h;refine wpAny_For (aL (hi E s σ H _ I h) λv s1 h1=>aL h1 λitv s2 h2=>?_) hs;obtain⟨it,M,tn,J,H2,e,I2,T,aQ,f2,W,⟨m0,w0⟩,F⟩:=h2;subst e;have p:∀{A:Hp},(∀b∈M,A b=ae)->∀b∈M,jb X E A b:=λhn b t=>⟨hn b t,(f2 b t).2⟩
 refine codeAny_forLoop_any (λn s'=>∃i l A,Inv X E l A s'/\tn i s'.heap/\(∀b∈M,A b=ae)/\W i n l A) ?_ m0 ⟨0,σ,H2,I2,aQ,λb t=>(f2 b t).1,w0⟩;rintro n s3 ⟨i,j,O,I3,bf,L,w3⟩;rcases F i n j O w3 with⟨stop,qn⟩|⟨go,N,hN,step⟩
 .refine uH K (aL (T.done X rfl rfl rfl hc i E s3 j O X.xe I3 (p L) bf stop) λr s4 ⟨Y,I4⟩=>?_);subst Y;exact wpAny_execs_nil ⟨j,O,I4,qn⟩
 .refine uH K (aL (T.item X rfl rfl rfl hc i E s3 j O X.xe I3 (p L) bf go) λr s4 ⟨u,Y,h4⟩=>?_);subst Y;refine uH K (aL h4 λ_ s5 ⟨x,H5,I5,r5,y5,bD,Z⟩=>?_);have I5':=I5.pinned (p Z) (T.obj _ _ bD);refine uH K (aL (hg _ s5 j H5 x u _ I5' r5 (step x H5 y5)) λ_ s6 ⟨P,H6,I6,q6⟩=>?_);refine uH K (aL (t _ s6 P H6 _ I6 q6) λf Q B=>?_);have w:∀{a:St}{z:Hp},Inv X (E++qK M s5.heap) a z Q->N a z->∃m,m<n/\∃i l A,Inv X E l A Q/\tn i Q.heap/\(∀b∈M,A b=ae)/\W i m l A:=λ{a z} y G=>by obtain⟨m',hm,w7⟩:=hN a z G;refine⟨m',hm,i+1,a,z,y.unpinned,T.keep _ _ _ bD λb t o e=>(y.pin (b,o) (jM _ (jM _ (ua t e)))).1,λb t=>?_,w7⟩;obtain⟨o,e,d⟩:=T.obj _ _ bD b t;exact(y.pin (b,o) (jM _ (jM _ (ua t e)))).2.1
  cases f with
  |next=>obtain⟨a,z,y,G⟩:=B;exact w y G
  |cont=>obtain⟨a,z,y,G⟩:=B;exact w y G
  |brk=>obtain⟨a,z,y,B⟩:=B;exact⟨a,z,y.unpinned,B⟩
  |ret v=>obtain⟨x7,a,z,y,r7,B⟩:=B;exact⟨x7,a,z,y.unpinned,r7,B⟩
end
abbrev R2:=V->V->Hp->VK->Prop
def bz(X:Cx)(f:ah->ah->Sem ah)(r:R2):Prop :=
 ∀(b:List (af×Obj)) (s:ao) (a:St) (H:Hp) (x y:V) (v u:ah) (Q:VK),Inv X b a H s->RelV x v->RelV y u->r x y H Q ->
  aq (ar X.prog X.w) X.A (f v u) (EP X b a Q) X.xe s
def uA(X:Cx)(f:ah->Sem ah)(r:V->Hp->VK->Prop):Prop :=
 ∀(b:List (af×Obj)) (s:ao) (a:St) (H:Hp) (x:V) (v:ah) (Q:VK),Inv X b a H s->RelV x v->r x H Q ->
  aq (ar X.prog X.w) X.A (f v) (EP X b a Q) X.xe s
def fY(X:Cx)(f:ah)(r:List V->Hp->VK->Prop):Prop :=
 ∀(d:List (af×Obj)) (s:ao) (a:St) (H:Hp) (b:List V) (c:List ah) (Q:VK),Inv X d a H s->bh b c->r b H Q ->
  aq (ar X.prog X.w) X.A (call f c) (EP X d a Q) X.xe s
def sX(r:R2)(c b:TE):TE:=λa H Q=>c a H λx f=>b a f λy d=>r x y d Q
def II(r:V->Hp->VK->Prop)(b:TE):TE:=λa H Q=>b a H λx c=>r x c Q
def rI(C:Int->Int->Prop)(g:Int->Int->V):R2:=λx y H Q=>∃i j,x=.int i/\y=.int j/\C i j/\Q (g i j) H
def ki(g:Int->Int->V):R2:=λx y H Q=>∃i j,x=.int i/\y=.int j/\Q (g i j) H
def rU(g:Int->V):V->Hp->VK->Prop:=λx H Q=>∃i,x=.int i/\Q (g i) H
section
variable{X:Cx}{a b c:az}{d m n:TE}{l:Pos}
theorem xr(E:PE X a d)(D:PE X b m){q:List (af×Obj)}{s:ao}{g:St}{H:Hp}{R:V->V->Hp->Prop}(I:Inv X q g H s)(h:d g H λx r=>m g r λy i=>R x y i) {Q:ah->ao->Prop}{f:ah->ah->Sem ah}(C:∀v u p x y i,Inv X q g i p->RelV x v->RelV y u->R x y i->aq (ar X.prog X.w) X.A (f v u) Q X.xe p):aq (ar X.prog X.w) X.A (aP a X.env) (λv o=>aq (ar X.prog X.w) X.A (aP b X.env) (λu j=>aq (ar X.prog X.w) X.A (f v u) Q X.xe j) X.xe o) X.xe s:=by refine aL (E q s g H _ I h) λv t ⟨x,r,G,z,B⟩=>?_;refine aL (D q t g r _ G B) λu p ⟨y,i,F,w,A⟩=>?_;exact C v u p x y i F z w A
theorem C3{f:Operator}{r:R2}(p:bz X (gg f) r)(w:PE X a d)(t:PE X b m):PE X (.BinOp a f b l) (sX r d m):=by intro z s g H Q I h;exact wpAny_BinOp (xr w t I h λv u i x y B A o j q=>p z i g B x y v u Q A o j q)
theorem IZ{g:UnaryOp}{r:V->Hp->VK->Prop}(q:uA X (unaryOp g) r)(t:PE X a d):PE X (.UnaryOp g a l) (II r d):=by intro i s f H Q I h;exact UnaryOp_ (aL (t i s f H _ I h) λv j ⟨x,w,u,o,p⟩=>q i j f w x v Q u o p)
theorem wM{f:ah->ah->Sem ah}{C:Int->Int->Prop}{g:Int->Int->Int}(o:∀(i j:Int) (t u:Tok) (s:ao) (Q:ah->ao->Prop) (E:ah->ao->Prop),C i j->Q (.int (g i j) s.toks) {s with toks:=s.toks+1}->aq (ar X.prog X.w) X.A (f (.int i t) (.int j u)) Q E s):bz X f (rI C λi j=>.int (g i j)):=by intro B s A H x y v u Q I w r h;obtain⟨i,j,rfl,rfl,z,q⟩:=h;obtain⟨t,rfl⟩:=w;obtain⟨p,rfl⟩:=r;exact o i j t p s _ _ z ⟨.int (g i j),H,I.tok _,⟨_,rfl⟩,q⟩
theorem An{f:ah->ah->Sem ah}{g:Int->Int->Int}(o:∀(i j:Int) (t u:Tok) (s:ao) (Q:ah->ao->Prop) (E:ah->ao->Prop),Q (.int (g i j) s.toks) {s with toks:=s.toks+1}->aq (ar X.prog X.w) X.A (f (.int i t) (.int j u)) Q E s):bz X f (ki λi j=>.int (g i j)):=by intro A s z H x y v u Q I w r h;obtain⟨i,j,rfl,rfl,q⟩:=h;obtain⟨t,rfl⟩:=w;obtain⟨p,rfl⟩:=r;exact o i j t p s _ _ ⟨.int (g i j),H,I.tok _,⟨_,rfl⟩,q⟩
theorem BX{f:ah->ah->Sem ah}{g:Int->Int->Bool}(o:∀(i j:Int) (t u:Tok) (s:ao) (Q:ah->ao->Prop) (E:ah->ao->Prop),Q (.bool (g i j)) s->aq (ar X.prog X.w) X.A (f (.int i t) (.int j u)) Q E s):bz X f (ki λi j=>.bl (g i j)):=by intro A s z H x y v u Q I w r h;obtain⟨i,j,rfl,rfl,q⟩:=h;obtain⟨t,rfl⟩:=w;obtain⟨p,rfl⟩:=r;exact o i j t p s _ _ ⟨.bl (g i j),H,I,rfl,q⟩
def zJ(i j:Int):Prop:=0<=j/\j<=1000000/\i.natAbs<2^64
def wF(i j:Int):Prop:=(-(2^64)<i/\i<2^64)\/(-(2^64)<j/\j<2^64)
theorem wF.ok{i j:Int}(h:wF i j):IntMulOk i j:=by
 rcases h with⟨h1,h2⟩|⟨h1,h2⟩
 .exact .of_left (intBits_le_64 h1 h2)
 .exact .of_right (intBits_le_64 h1 h2)
theorem Lr:bz X (gg .Add) (ki λi j=>.int (i+j)):=An λ_ _ _ _ _ _ _ q=>add_int q
theorem pR:bz X (gg .Sub) (ki λi j=>.int (i-j)):=An λ_ _ _ _ _ _ _ q=>sub_int q
theorem Lg:bz X (gg .Mult) (rI wF λi j=>.int (i*j)):=wM λ_ _ _ _ _ _ _ f q=>mul_int q f.ok
theorem nQ:bz X (gg .Mod) (rI (λ_ j=>0<j) λi j=>.int (i % j)):=wM λi j _ _ _ _ _ f q=>by have g:(0:Int)<j:=f;exact mod_int' ∅ (by rw[Int.fmod_eq_emod_of_nonneg i ∅];exact q)
theorem Ja:bz X (gg .Pow) (rI zJ λi j=>.int (i^j.toNat)):=wM λ_ _ _ _ _ _ _ f q=>pow_int_small f.1 f.2.1 f.2.2 q
theorem Dq{f:ah->Sem ah}{g:Int->Int}(j:∀(i:Int) (t:Tok) (s:ao) (Q:ah->ao->Prop) (E:ah->ao->Prop),Q (.int (g i) s.toks) {s with toks:=s.toks+1}->aq (ar X.prog X.w) X.A (f (.int i t)) Q E s):uA X f (rU λi=>.int (g i)):=by intro r s p H x v Q I o h;obtain⟨i,rfl,q⟩:=h;obtain⟨t,rfl⟩:=o;exact j i t s _ _ ⟨.int (g i),H,I.tok _,⟨_,rfl⟩,q⟩
theorem Fs:uA X (unaryOp .USub) (rU λi=>.int (-i)):=Dq λ_ _ _ _ _ q=>neg_int q
end
def qA:V->V->Bool
 |.non,.non=>ai|.non,.int _=>ai|.int _,.non=>ai|.non,.bl _=>ai|.bl _,.non=>ai|.non,.str _=>ai|.str _,.non=>ai
 |.int _,.int _=>ai|.bl _,.bl _=>ai|.str _,.str _=>ai|.byt _,.byt _=>ai
 |.int _,.str _=>ai|.str _,.int _=>ai|.bl _,.str _=>ai|.str _,.bl _=>ai
 |_,_=>aj
def AE:R2:=λx y H Q=>qA x y=ai/\Q (.bl (decide (x=y))) H
def zP:R2:=λx y H Q=>qA x y=ai/\Q (.bl (!decide (x=y))) H
theorem Aq{i j:Int}:decide (V.int i=V.int j)=(i == j):=by rw[jN];simp
theorem zV{i j:Bool}:decide (V.bl i=V.bl j)=(i == j):=by rw[jN];simp
theorem zm{i j:Str}:decide (V.str i=V.str j)=(i == j):=by rw[jN];simp
theorem BO{i j:Array UInt8}:decide (V.byt i=V.byt j)=(i.toList == j.toList):=by
 rw[jN];cases i;cases j;simp
section
variable{X:Cx}{a b c:az}{l g o:TE}{m:Pos}
theorem cu{h:List (af×Obj)}{d:St}{H:Hp}{s:ao}{Q:VK}{k f:Bool}(I:Inv X h d H s)(q:Q (.bl k) H)(e:k=f):EP X h d Q (.bool f) s:=by subst e;exact⟨.bl k,H,I,rfl,q⟩
theorem Ln:bz X (dr .Eq) AE:=by
 intro w s r H x y v u Q I p d h;obtain⟨n,q⟩:=h;cases x with
 |non=>
  cases p;cases y with
  |non=>cases d;exact PySem.EqNone.eq_none_none (cu I q (by simp))
  |bl j=>cases d;exact PySem.EqNone.eq_none_bool (cu I q (by simp))
  |int j=>obtain⟨f,rfl⟩:=d;exact PySem.EqNone.eq_none_int (cu I q (by simp))
  |str j=>obtain⟨f,rfl⟩:=d;exact PySem.EqNone.eq_none_str (cu I q (by simp))
  |_=>exact absurd (show aj=ai from n) d4
 |bl i=>
  cases p;cases y with
  |non=>cases d;exact PySem.EqNone.eq_bool_none (cu I q (by simp))
  |bl j=>cases d;exact eq_bool (cu I q zV)
  |str j=>obtain⟨f,rfl⟩:=d;exact PySem.EqMixed.eq_bool_str (cu I q (by simp))
  |_=>exact absurd (show aj=ai from n) d4
 |int i=>
  obtain⟨t,rfl⟩:=p;cases y with
  |non=>cases d;exact PySem.EqNone.eq_int_none (cu I q (by simp))
  |int j=>obtain⟨f,rfl⟩:=d;exact eq_int (cu I q Aq)
  |str j=>obtain⟨f,rfl⟩:=d;exact PySem.EqMixed.eq_int_str (cu I q (by simp))
  |_=>exact absurd (show aj=ai from n) d4
 |str i=>
  obtain⟨t,rfl⟩:=p;cases y with
  |non=>cases d;exact PySem.EqNone.eq_str_none (cu I q (by simp))
  |bl j=>cases d;exact PySem.EqMixed.eq_str_bool (cu I q (by simp))
  |int j=>obtain⟨f,rfl⟩:=d;exact PySem.EqMixed.eq_str_int (cu I q (by simp))
  |str j=>obtain⟨f,rfl⟩:=d;exact eq_str (cu I q zm)
  |_=>exact absurd (show aj=ai from n) d4
 |byt i=>
  obtain⟨t,rfl⟩:=p;cases y with
  |byt j=>obtain⟨f,rfl⟩:=d;exact PySem.W.eq_bytes (cu I q BO)
  |_=>exact absurd (show aj=ai from n) d4
 |_=>cases y <;> exact absurd (show aj=ai from n) d4
theorem LB:bz X (dr .NotEq) zP:=by
 intro w s r H x y v u Q I p d h;obtain⟨n,q⟩:=h;cases x with
 |non=>
  cases p;cases y with
  |non=>cases d;exact PySem.EqNone.ne_none_none (cu I q (by simp))
  |bl j=>cases d;exact PySem.EqNone.ne_none_bool (cu I q (by simp))
  |int j=>obtain⟨f,rfl⟩:=d;exact PySem.EqNone.ne_none_int (cu I q (by simp))
  |str j=>obtain⟨f,rfl⟩:=d;exact PySem.EqNone.ne_none_str (cu I q (by simp))
  |_=>exact absurd (show aj=ai from n) d4
 |bl i=>
  cases p;cases y with
  |non=>cases d;exact PySem.EqNone.ne_bool_none (cu I q (by simp))
  |bl j=>cases d;exact ne_bool (cu I q (congrArg not zV))
  |str j=>obtain⟨f,rfl⟩:=d;exact PySem.EqMixed.ne_bool_str (cu I q (by simp))
  |_=>exact absurd (show aj=ai from n) d4
 |int i=>
  obtain⟨t,rfl⟩:=p;cases y with
  |non=>cases d;exact PySem.EqNone.ne_int_none (cu I q (by simp))
  |int j=>obtain⟨f,rfl⟩:=d;exact ne_int (cu I q (congrArg not Aq))
  |str j=>obtain⟨f,rfl⟩:=d;exact PySem.EqMixed.ne_int_str (cu I q (by simp))
  |_=>exact absurd (show aj=ai from n) d4
 |str i=>
  obtain⟨t,rfl⟩:=p;cases y with
  |non=>cases d;exact PySem.EqNone.ne_str_none (cu I q (by simp))
  |bl j=>cases d;exact PySem.EqMixed.ne_str_bool (cu I q (by simp))
  |int j=>obtain⟨f,rfl⟩:=d;exact PySem.EqMixed.ne_str_int (cu I q (by simp))
  |str j=>obtain⟨f,rfl⟩:=d;exact ne_str (cu I q (congrArg not zm))
  |_=>exact absurd (show aj=ai from n) d4
 |byt i=>
  obtain⟨t,rfl⟩:=p;cases y with
  |byt j=>obtain⟨f,rfl⟩:=d;exact PySem.W.ne_bytes (cu I q (congrArg not BO))
  |_=>exact absurd (show aj=ai from n) d4
 |_=>cases y <;> exact absurd (show aj=ai from n) d4
theorem Be:bz X (dr .Lt) (ki λi j=>.bl (decide (i<j))):=BX λ_ _ _ _ _ _ _ q=>lt_int q
theorem nJ:bz X (dr .LtE) (ki λi j=>.bl (decide (i<=j))):=BX λ_ _ _ _ _ _ _ q=>le_int q
theorem Lj:bz X (dr .In) (λx y H Q=>∃i j,x=.str i/\y=.str j/\Q (.bl (!(B4 j i 0 j.length 1).isEmpty)) H):=by intro r s n H x y v u Q I f d h;obtain⟨i,j,rfl,rfl,q⟩:=h;obtain⟨t,rfl⟩:=f;obtain⟨p,rfl⟩:=d;exact in_str (cu I q rfl)
theorem bz.or{f:ah->ah->Sem ah}{r n:R2}(h:bz X f r)(t:bz X f n):bz X f (λx y H Q=>r x y H Q\/n x y H Q):=by
 intro p s d H x y v u Q I j i q;rcases q with q|q
 .exact h p s d H x y v u Q I j i q
 .exact t p s d H x y v u Q I j i q
theorem IF{d:CmpOp}{r:R2}(p:bz X (dr d) r)(z:PE X a l)(w:PE X b g)(t:mU d b=aj):PE X (.Compare a [d] [b] m) (sX r l g):=by intro A s f H Q I h;exact wpAny_Compare1 (xr z w I h λv u i x y C B n j q=>p A i f C x y v u Q B n j q) t
def z7(t:TE):TT:=λd H Q=>t d H λx f=>∃k,x=.bl k/\Q k f
theorem Fz{f:CmpOp}{r:R2}(C:bz X (dr f) r)(F:PE X a l)(E:PE X b g)(D:mU f b=aj):PT X (.Compare a [f] [b] m) (z7 (sX r l g)):=by
 intro i s d H Q I h;refine wpAny_isTrue_Compare1 (aL (F i s d H _ I h) λv n ⟨x,N,K,t,B⟩=>aL (E i n d N _ K B) λu j ⟨y,M,J,q,A⟩=>aL (C i j d M x y v u _ J t q A) λc O ⟨z,L,G,p,k,e,w⟩=>?_) D;subst e;cases p;exact kE ⟨L,G,w⟩
def vQ(r i:R2)(l g o:TE):TE:=λd H Q=>l d H λx p=>g d p λy n=>r x y n λz f=>∃k,z=.bl k /\
 (if k=ai then o d f λh j=>i y h j Q else Q (.bl aj) f)
theorem HD{n f:CmpOp}{r q:R2}(P:bz X (dr n) r)(Z:bz X (dr f) q)(Y:PE X a l)(W:PE X b g)(T:PE X c o)(S:lastMarks [n,f] [b,c]=aj:=by with_unfolding_all rfl):PE X (.Compare a [n,f] [b,c] m) (vQ r q l g o):=by
 intro j s i H Q I h;refine Compare_chain (aL (Y j s i H _ I h) λv G ⟨x,H1,I1,L,O⟩=>chain_link (aL (W j G i H1 _ I1 O) λu F ⟨y,H2,I2,p,N⟩=>aL (P j F i H2 x y v u _ I2 L p N) λd E ⟨z,A,w,K,k,e,t⟩=>?_)) S;subst e;cases K;refine kE ?_;cases k with
 |false=>exact ite_ff ⟨.bl aj,A,w,rfl,t⟩
 |true=>exact ite_tt (chain_last (aL (T j E i A _ w t) λC D ⟨B,H4,I4,J,M⟩=>Z j D i H4 y B u C Q I4 p J M))
theorem HZ{n f:CmpOp}{r q:R2}(W:bz X (dr n) r)(gG:bz X (dr f) q)(ha:PE X a l)(hb:PE X b g)(Z:PE X c o)(Y:lastMarks [n,f] [b,c]=aj:=by with_unfolding_all rfl):PT X (.Compare a [n,f] [b,c] m) (z7 (vQ r q l g o)):=by
 intro j s i H Q I h;refine isTrue_chain (aL (ha j s i H _ I h) λv G ⟨x,H1,I1,M,S⟩=>test_link (aL (hb j G i H1 _ I1 S) λu F ⟨y,H2,I2,p,P⟩=>aL (W j F i H2 x y v u _ I2 M p P) λd E ⟨z,A,w,L,k,e,t⟩=>?_)) Y;subst e;cases L;refine kE ?_;cases k with
 |false=>
  obtain⟨k',e',T⟩:=t;cases e';exact ite_ff ⟨A,w,T⟩
 |true=>
  refine ite_tt (test_last (aL (Z j E i A _ w t) λC D ⟨B,H4,I4,K,O⟩=>aL (gG j D i H4 y B u C _ I4 p K O) λd' s5 ⟨z2,H5,I5,J,k2,e2,N⟩=>?_));subst e2;cases J;exact kE ⟨H5,I5,N⟩
theorem oh:(a9:Nat)<2^63:=by rw[mV];decide
theorem E8:bz X (gg .Add) (λx y H Q=>∃i j,x=.str i/\y=.str j/\i.length+j.length<=a9/\Q (.str (i++j)) H):=by intro z s r H x y v u Q I n f h;obtain⟨i,j,rfl,rfl,p,q⟩:=h;obtain⟨t,rfl⟩:=n;obtain⟨d,rfl⟩:=f;exact add_str (λd w=>⟨.str (i++j),H,I.tok _,⟨_,rfl⟩,q⟩) p
theorem vals1{x:V}{d:List ah}(r:bh [x] d):∃u,d=[u]/\RelV x u:=by
 cases r with
 |cons h f=>cases f;exact⟨_,rfl,h⟩
def zk(K:au)(x:V)(H:Hp)(n:Nat):Prop :=
 match x with
 |.str y=>y.length<=a9/\n=y.length
 |.byt y=>y.size<=a9/\n=y.size
 |.ref p=>(∃d,bX K H p d/\n=d.length)\/∃d,bQ K H p d/\n=d.length
 |_=>False
theorem gy:fY X (.builtin "len") (λd H Q=>∃x n,d=[x]/\zk X.K x H n/\Q (.int n) H):=by
 intro G s C H d D Q I r h;obtain⟨x,n,rfl,e,q⟩:=h;obtain⟨u,rfl,i⟩:=vals1 r;have F:=oh;have E:a9=16777216:=mV;cases x with
 |str y=>obtain⟨t,rfl⟩:=i;obtain⟨B,f⟩:y.length<=a9/\n=y.length:=e;subst f;exact len_str ∅ ⟨.int _,H,I.tok _,⟨_,rfl⟩,q⟩
 |byt y=>obtain⟨t,rfl⟩:=i;obtain⟨B,f⟩:y.size<=a9/\n=y.size:=e;subst f;exact PySem.W.len_bytes ∅ ⟨.int _,H,I.tok _,⟨_,rfl⟩,q⟩
 |ref p=>
  cases i;have f:(∃d,bX X.K H p d/\n=d.length)\/∃d,bQ X.K H p d/\n=d.length:=e;rcases f with⟨d,hx,f⟩|⟨d,hx,f⟩
  .subst f;obtain⟨w,j,v,A⟩:=I.list hx;have z:=j.length;exact Calls.call_len_list v.isList (by simp only[bM];lia) ⟨.int d.length,H,I.tok _,⟨_,by simp only[bM];rw[z]⟩,q⟩
  .subst f;obtain⟨w,j,v,A⟩:=I.tuple hx;have z:=j.length;exact len_tuple v (by simp only[bM];lia) ⟨.int d.length,H,I.tok _,⟨_,by simp only[bM];rw[z]⟩,q⟩
 |_=>exact(show False from e).elim
end
structure BL(h:ay)(x dx C:af)(mA:Str->Option ah):Prop where
 obj:h.get? x=aa (PySem.W.instObj C dx)
 ns:h.Ns1 dx mA
 ne:dx≠x
theorem Ir{h:ay}{g:af}{d:Str->Option ah}(n:h.Ns1 g d):∃c,h.get? g=aa c/\∀b,PySem.W.lookIn b c=aa (d b):=by
 obtain⟨o,f,u,j,p,m,_,l⟩:=n;refine⟨o,j,λb=>?_⟩;have e:=l b;unfold nsFind findBy at e;rw[<-Array.find?_toList]at e;unfold PySem.W.lookIn;rw[p];dsimp only;split
 .rename_i y q;rw[q]at e;exact congrArg aa e
 .rename_i q;rw[q]at e;have a:f.toList.any (·.refKey)=aj:=by rw[List.any_eq_false];intro y i;obtain⟨z,t,r⟩:=m y (Array.mem_toList_iff.mp i);simp[DictEntry.refKey,r]
  have s:¬f.toList.any (·.refKey)=ai:=by rw[a];exact d4
  rw[if_neg s];exact congrArg aa e
theorem BL.look{h:ay}{x d C:af}{c:Str->Option ah}(I:BL h x d C c):∃b,PySem.W.InstAt h x (PySem.W.instObj C d) C (aa b)/\∀a,PySem.W.lookIn a b=aa (c a) :=
 let ⟨b,ho,hl⟩:=Ir I.ns
 ⟨b,⟨I.obj,rfl,rfl,ho⟩,hl⟩
theorem oU.some_of{v:V}{o:Option ah}(r:oU (aa v) o):∃u,o=aa u/\RelV v u:=by
 cases o with
 |none=>exact(show False from r).elim
 |some u=>exact⟨u,rfl,r⟩
section
variable{P:aK}{w:aD}{H i:Hp}{h g:ay}{a C b:af}{fs c:List (Str×V)}
theorem GK(l:cT P w H h)(e:H a=aa (.ins C b fs)):∃j,BL h a b C j/\(∀f,oU (fs.lookup f) (j f))/\PySem.Within j (fs.map (·.1))/\fs.length<=1000/\H b=aa (.own a):=by
 obtain⟨d,z,o,m,j,n,r,q⟩:=(show cW P w H h a (.ins C b fs)from l a _ e)
 exact⟨j,⟨m,n,o⟩,r,q,z,d⟩
end
structure AB(K:au)(C:af):Prop where
 pg:PySem.W.plainGet K C fu=ai
 hd:PySem.W.hasDictIn K C=ai
 po:PySem.W.plainOver K C=ai
 sa:uI K (.ref C) "__setattr__"=aa (aa (.builtin "object.__setattr__"))
theorem AB.get{K:au}{C:af}(c:AB K C)(f:Str):PySem.W.plainGet K C f=ai:=c.pg
section
variable{X:Cx}{f:List (af×Obj)}{d:St}{H:Hp}{s:ao}{A:aM}{E:ah->ao->Prop}{Q:ah->ao->Prop}{c:ah}{b:Bool}
inductive gE(K:au)(H:Hp):V->ah->Prop where
 |non:gE K H .non (.type "NoneType")
 |bl (x:Bool):gE K H (.bl x) (.type "bool")
 |int (i:Int):gE K H (.int i) (.type "int")
 |str (x:Str):gE K H (.str x) (.type "str")
 |flt (x:UInt64):gE K H (.flt x) (.type "float")
 |lst {a:af}{xs:List V} (e:H a=aa (.lst xs)):gE K H (.ref a) (.type "list")
 |frz {a:af}{o:Obj}{xs:List V} (e:H a=aa (.frz o (.lst xs))):gE K H (.ref a) (.type "list")
 |tup {a:af}{xs:List V} (e:H a=aa (.tup xs)):gE K H (.ref a) (.type "tuple")
 |dK {a:af}{kvs:List (bH×V)} (e:H a=aa (.dK kvs)):gE K H (.ref a) (.type "dict")
 |dT {a:af}{kvs:List (List bH×V)} (e:H a=aa (.dT kvs)):gE K H (.ref a) (.type "dict")
 |ins {a C dx:af}{fs:List (Str×V)} (e:H a=aa (.ins C dx fs)) (cl:AB K C) (ha:uI K (.ref C) "__class__"=aa (aa (.builtin "object.__class__")))
   (hn:PySem.W.specialIn K (.builtin "object.__class__") "__get__"=aa (aa (.builtin "getset_descriptor.__get__"))) (rV:PySem.W.takesIn K (.builtin "object.__class__")=aa ai)
   (hm:PySem.W.mroIn K C (.type "object")=aa ai):gE K H (.ref a) (.ref C)
theorem FE{x:V}{u t:ah}(I:Inv X f d H s)(g:RelV x u)(ty:gE X.K H x t)(e:g6 X.K t c=aa b)(h:∀r,Q (.bool b) {s with toks:=r}):aq (ar X.prog X.w) A (call (.builtin "isinstance") [u,c]) Q E s:=by
 cases ty with
 |non=>cases (show u=Value.none from g);exact jO PySem.W.kitx_none I.kIn True.intro e (λz=>nomatch z) h
 |bl y=>cases (show u=Value.bool y from g);exact jO PySem.W.kitx_bool I.kIn True.intro e (λz=>nomatch z) h
 |int i=>obtain⟨t,q⟩:=(show ∃t,u=Value.int i t from g);cases q;exact jO PySem.W.kitx_int I.kIn True.intro e (λz=>nomatch z) h
 |str y=>obtain⟨t,q⟩:=(show ∃t,u=Value.str y t from g);cases q;exact jO PySem.W.kitx_str I.kIn True.intro e (λz=>nomatch z) h
 |flt y=>obtain⟨t,q⟩:=(show ∃t,u=Value.float y t from g);cases q;exact jO PySem.W.kitx_float I.kIn True.intro e (λz=>nomatch z) h
 |@lst a l ea=>
  cases (show u=Value.ref a from g);obtain⟨_,_,n,_,j⟩:=(show cW X.prog X.w H s.heap a (.lst l)from I.hok a _ ea)
  exact jO PySem.W.kitx_list I.kIn ⟨_,j,rfl⟩ e (λz=>nomatch z) h
 |@frz a ob l ea=>
  cases (show u=Value.ref a from g);obtain⟨_,_,_,n,_,j⟩:=(show cW X.prog X.w H s.heap a (.frz ob (.lst l))from I.hok a _ ea)
  exact jO PySem.W.kitx_list I.kIn ⟨_,j,rfl⟩ e (λz=>nomatch z) h
 |@tup a l ea=>
  cases (show u=Value.ref a from g);obtain⟨_,_,_,p,_⟩:=(show cW X.prog X.w H s.heap a (.tup l)from I.hok a _ ea)
  obtain⟨o,j,m,_⟩:=p;exact jO PySem.W.kitx_tuple I.kIn ⟨o,j,m⟩ e (λz=>nomatch z) h
 |@dK a kvs ea=>
  cases (show u=Value.ref a from g);obtain⟨_,_,B,_,p⟩:=(show cW X.prog X.w H s.heap a (.dK kvs)from I.hok a _ ea)
  obtain⟨o,v,w,j,m,_⟩:=p;exact jO PySem.W.kitx_dict I.kIn ⟨o,j,m.1⟩ e (λz=>nomatch z) h
 |@dT a kvs ea=>
  cases (show u=Value.ref a from g);obtain⟨_,_,l,_,o,v,w,j,m,_⟩:=(show cW X.prog X.w H s.heap a (.dT kvs)from I.hok a _ ea)
  exact jO PySem.W.kitx_dict I.kIn ⟨o,j,m.1⟩ e (λz=>nomatch z) h
 |@ins a C dx fs ea cl ha hn rV hm=>
  cases (show u=Value.ref a from g);obtain⟨F,O,_⟩:=GK I.hok ea;obtain⟨D,J,_⟩:=O.look;exact jO (PySem.W.kitx_own (cl.get _) cl.hd ha hn rV hm) I.kIn J e (λz=>nomatch z) h
end
structure Room(k:Nat)(A:aM):Prop where
 hd:A.handled=ae
 dp:A.depth+3*k+5<uJ
 un:A.units+16*k+200<cLine
theorem Room.mono{j k:Nat}{A:aM}(r:Room k A)(h:j<=k):Room j A:=⟨r.hd,by have:=r.dp;lia,by have:=r.un;lia⟩
theorem Room.deeper{k:Nat}{A:aM}(r:Room (k+1) A)(a:Env):Room k (A.deeper a) :=⟨r.hd,by have:=r.dp;show A.depth+1+3*k+5<_;lia,by have:=r.un;show A.units+3+16*k+200<_;lia⟩
theorem Room.depth{k:Nat}{A:aM}(r:Room k A):A.depth<uJ:=by have:=r.dp;lia
theorem Room.units{k:Nat}{A:aM}(r:Room k A):A.units+64<cLine:=by have:=r.un;lia
def Fq:TA:=λ_ H Q=>Q [] H
def Fb(d:TE)(c:TA):TA:=λa H Q=>d a H λx g=>c a g λb f=>Q (x::b) f
section
variable{X:Cx}{e:az}{es:List az}{c:TE}{t:TA}{a:Pos}
theorem i5:PA X [] Fq:=λ_ _ _ _ H Q I h=>xN ⟨[],H,I,.nil,h⟩
theorem gU(p:PE X e c)(o:PA X es t)(n:aN (e::es) X.env=(aj,aP e X.env)::aN es X.env:=by rfl):PA X (e::es) (Fb c t):=by intro a d s b H Q I h;rw[n];show aq _ _ (spliced ((aj,aP e X.env)::cM a (aN es X.env))) _ _ s;refine uK (aL (p d s b H _ I h) λu g ⟨x,w,r,j,m⟩=>?_);exact aL (o a d g b w _ r m) λy z ⟨f,v,q,i,l⟩=>⟨x::f,v,q,.cons j i,l⟩
def GU(t:TA):TE:=λf H Q=>t f H λb d=>b.length<=a9/\∀p,d p=ae->Q (.ref p) (upd d p (.tup b))
def Dy(t:TA):TE:=λf H Q=>t f H λb d=>b.length<=a9/\∀p,d p=ae->Q (.ref p) (upd d p (.lst b))
theorem EB{x1}(h:PA X es t):PE X (.Tuple es x1 a) (GU t):=by intro o s i H Q I m;refine wpAny_Tuple_spliced (aL (h a o s i H _ I m) λl d ⟨j,g,f,r,z,q⟩=>⟨by rw[<-r.length];exact z,?_⟩);have n:g d.heap.objs.size=ae:=f.hok.fresh (aY _);refine⟨.ref d.heap.objs.size,upd g d.heap.objs.size (.tup j),f.laid (t':=d.toks) (λb u e=>bd _ e) (aY _) ?_,rfl,q _ n⟩;exact⟨z,l,r,⟨⟨_,cg _ rfl,rfl,_,rfl⟩,_,cg _ rfl,rfl⟩⟩
theorem JQ(h:PA X es t):PE X (.List es a) (Dy t):=by intro o s i H Q I m;refine wpAny_List_spliced (aL (h a o s i H _ I m) λl d ⟨j,g,f,r,z,q⟩=>⟨by rw[<-r.length];exact z,?_⟩);have n:g d.heap.objs.size=ae:=f.hok.fresh (aY _);refine⟨.ref d.heap.objs.size,upd g d.heap.objs.size (.lst j),f.laid (t':=d.toks) (λb u e=>bd _ e) (aY _) ?_,rfl,q _ n⟩;exact⟨z,l,0,r,cg _ rfl⟩
end
abbrev Sp:=List V->Hp->VK->XK->Prop
abbrev eK:=List Env->Hp->ao->XK->ah->ao->Prop
structure tu(P:aK)(w:aD)(K:au)(mg:Str->Option ah)(base:ay)(A:aM)(outer:List Env)(s:ao)(H:Hp):Prop where
 frames:A.frames=aa outer
 mod:Mod K mg base
 bs:∀b o,base.get? b=aa o->s.heap.get? b=aa o/\H b=ae
 bsz:base.objs.size<=s.heap.objs.size
 funs:s.heap.FunFrames base outer
 frf:∀b∈eu outer,H b=ae
 hok:cT P w H s.heap
 bare:kB s.gens
 tab:sP K H
def CE(a:List Env)(P:aK)(w:aD)(H:Hp)(s:ao)(Q:VK)(u:ah)(b:ao):Prop :=
 ∃v c,b.os=s.os/\kB b.gens/\Un (eu a) [] H c s.heap b.heap/\cT P w c b.heap/\RelV v u/\Q v c
def CR(c:eK)(a:List Env)(P:aK)(w:aD)(H:Hp)(s:ao)(Q:VK)(E:XK)(r:Result)(b:ao):Prop :=
 match r with
 |.ok (.ret u)=>CE a P w H s Q u b
 |.ok _=>False
 |.error e=>c a H s E e b
structure iZ(P:aK)(w:aD)(K:au)(mg:Str->Option ah)(base:ay)(CX:eK)(k:Nat)(f:af)(fd:gh)(ps:List Str)(sp:Sp):Prop where
 len:∀vs H Q E,sp vs H Q E->vs.length=ps.length
 run:∀(A:aM) (outer:List Env) (s:ao) (H:Hp) (args:Args) (us:List ah) (vs:List V) (Q:VK) (E:XK),Room k A->tu P w K mg base A outer s H->BindsTo s fd args (ps.zip us)->bh vs us->sp vs H Q E ->
  lH (ar P w) A (.call (.ref f) args) (CR CX outer P w H s Q E) s
section
variable{X:Cx}{f:List (af×Obj)}{a:St}{H:Hp}{s c:ao}
theorem Inv.env0(I:Inv X f a H s):tu X.prog X.w X.K X.mg X.base X.A X.stack s H :=⟨I.ok.frames,I.ok.mod,I.bs,cn I.ok.bsz I.sz,I.stack,I.stkFree,I.hok,I.bare,I.tab⟩
theorem Inv.after{Q:VK}{u:ah}(I:Inv X f a H s)(h:CE X.stack X.prog X.w H s Q u c):EP X f a Q u c:=by obtain⟨v,o,m,i,un,l,r,q⟩:=h;obtain⟨n,g,d,t,j⟩:=c;obtain rfl:j=s.os:=m;exact⟨v,o,I.call (h':=n) (g':=g) (d':=d) (t':=t) (ch:=[]) un l i (λb z=>absurd z (by simp)),r,q⟩
end
def ET(d:Sp)(a:List V)(E:XK)(t:TA):TE:=λb H Q=>t b H λc f=>d (c++a) f Q E
def Binds(K:au)(d:gh)(b:List Str)(c:List ah):Prop :=
 ∀(s:ao) (a:List ah),K.In s.heap->(a++c).length=b.length->BindsTo s d ⟨a,[]⟩ (b.zip (a++c))
theorem Binds.all{K:au}{d:gh}{b:List Str}(h:∀a:List ah,a.length=b.length->eF d ⟨a,[]⟩=pure (b.zip a)):Binds K d b []:=λs a _ c=>by rw[iQ]at c ⊢;exact .of_eq (h a c)
def oB(c:eK)(X:Cx)(E:XK):Prop:=∀(b:List (af×Obj)) (a:St) (H:Hp) (s:ao) (e:ah) (s':ao),Inv X b a H s->c X.stack H s E e s'->X.xe e s'
section
variable{X:Cx}{l:eK}{k:Nat}{f C:af}{j:gh}{d:List Str}{i:Sp}{a:List V}{c:List ah}{E:XK}{x m:Str}{p b n:Pos}{e o:az}{g:List az}{v:TE}{t:TA}
theorem KM{A:List (af×Obj)}{z:St}{H:Hp}{s:ao}{Q:VK}{q:List ah}{y:List V}(F:iZ X.prog X.w X.K X.mg X.base l k f j d i)(J:Room k X.A)(M:Binds X.K j d c)(L:bh a c)(G:oB l X E)(I:Inv X A z H s) (r:bh y q) (h:i (y++a) H Q E):aq (ar X.prog X.w) X.A (call (.ref f) q) (EP X A z Q) X.xe s:=by
 have B:bh (y++a) (q++c):=r.append L;have K:(q++c).length=d.length:=by rw[<-B.length];exact F.len _ _ _ _ h
 refine wpAny_call (uL (F.run X.A X.stack s H ⟨q,[]⟩ (q++c) (y++a) Q E J I.env0 (M s q I.kIn K) B h) λr D w=>?_);cases r with
 |error e=>exact G A z H s e D I w
 |ok N=>
  cases N with
  |ret u=>exact I.after w
  |next=>exact jP w
  |brk=>exact jP w
  |cont=>exact jP w
theorem zo(F:iZ X.prog X.w X.K X.mg X.base l k f j d i)(z:Room k X.A)(D:Gl X x)(A:X.mg x=aa (.ref f))(B:q0 X.K (.ref f)=ai)(K:Binds X.K j d c)(J:bh a c)(y:oB l X E)(L:PA X (e::g) t) (M:(x==("__debug__":Str))=aj:=by decide) (G:aN (e::g) X.env=(aj,aP e X.env)::aN g X.env:=by rfl) (N:(cM b (aN g X.env)).any (·.1)=aj:=by rfl):PE X (.Call (.Name x p) (e::g) [] b) (ET i a E t):=by intro O s w H Q I h;refine uN (xD I D A ?_ M);refine PySem.W.callWith_K (h₀:=X.base) I.ok.mod.kin B (aL (L b O s w H _ I h) λS T ⟨P,W,u,r,q⟩=>⟨u.kIn,?_⟩) G N;exact KM F z K J y u r q
end
structure cr(N P:List Str)(sc:cL):Prop where
 kind:sc.kind=.function
 co:sc.isCoroutine=aj
 gen:sc.isGenerator=aj
 nd:N.Nodup
 pre:N.take P.length=P
 par:∀x∈P,sc.names.lookup x=aa .local\/sc.names.lookup x=aa .cell
 nofree:∀y∈sc.names,y.2≠.free
theorem AF{a:Str->Option eR}{x:Str}:∀{binds:List (Str×ah)}{m:Str->Option ah},(∀v,(x,v)∉binds)->bindL a binds m x=m x
 |[],_,_=>rfl
 | (n,v)::r,m,h=>by
  unfold bindL;rw[AF λw b=>h w (iO _ b)];split
  .have:x≠n:=by rintro rfl;exact h v je
   simp[this]
  .rfl
theorem BP{a:Str->Option eR}{x:Str}:∀{binds:List (Str×ah)}{m:Str->Option ah},(∀v,(x,v)∉binds)->bindC a binds m x=m x
 |[],_,_=>rfl
 | (n,v)::r,m,h=>by
  unfold bindC;rw[BP λw b=>h w (iO _ b)];split
  .rfl
  .have:x≠n:=by rintro rfl;exact h v je
   simp[this]
theorem zj{a:Str->Option eR}{x:Str}{v:ah}:∀{P:List Str}{b:List ah}{i:Nat}{m:Str->Option ah},P.Nodup->P[i]?=aa x->b[i]?=aa v->a x=aa .local -> bindL a (P.zip b) m x=aa v
 |[],_,_,_,_,h,_,_=>by simp at h
 |_::_,[],_,_,_,_,h,_=>by simp at h
 |p::P,w::b,0,m,nd,h1,h2,hk=>by simp at h1 h2;subst h1;subst h2;show bindL a ((p,w)::P.zip b) m p=_;unfold bindL;rw[AF λv c=>(lI.mp nd).1 (List.of_mem_zip c).1,if_pos hk];simp
 |p::P,w::b,i+1,m,nd,h1,h2,hk=>by show bindL a ((p,w)::P.zip b) m x=_;unfold bindL;exact zj (i:=i) (lI.mp nd).2 (by simpa using h1) (by simpa using h2) hk
theorem BJ{a:Str->Option eR}{x:Str}{v:ah}:∀{P:List Str}{b:List ah}{i:Nat}{m:Str->Option ah},P.Nodup->P[i]?=aa x->b[i]?=aa v->a x≠aa .local -> bindC a (P.zip b) m x=aa v
 |[],_,_,_,_,h,_,_=>by simp at h
 |_::_,[],_,_,_,_,h,_=>by simp at h
 |p::P,w::b,0,m,nd,h1,h2,hk=>by simp at h1 h2;subst h1;subst h2;show bindC a ((p,w)::P.zip b) m p=_;unfold bindC;rw[BP λv c=>(lI.mp nd).1 (List.of_mem_zip c).1,if_neg hk];simp
 |p::P,w::b,i+1,m,nd,h1,h2,hk=>by show bindC a ((p,w)::P.zip b) m x=_;unfold bindC;exact BJ (i:=i) (lI.mp nd).2 (by simpa using h1) (by simpa using h2) hk
def start(N:List Str)(a:List V):St:=a.map aa++cO (N.length-a.length) ae
def gv(g:eK)(P:aK)(w:aD)(K:au)(mg:Str->Option ah)(base:ay)(N:List Str)(b:Str)(a:cL)(f:af)(d:ah)(A:aM)(outer:List Env)(s:ao)(H:Hp)(E:XK):Cx where
 prog:=P
 w:=w
 K:=K
 mg:=mg
 base:=base
 A:=A.deeper (ip b a s.heap.objs.size f d)
 N:=N
 s₀:=s
 H₀:=H
 env:=ip b a s.heap.objs.size f d
 outer:=outer
 stack:=ip b a s.heap.objs.size f d::outer
 ex:=[]
 calm:=ai
 fn:=λ_=>ai
 pn:=[]
 xe:=λe s'=>aq (ar P w) (A.deeper (ip b a s.heap.objs.size f d)) (leaving (ip b a s.heap.objs.size f d) e) (λ_ c=>g outer H s E e c) (λh c=>g outer H s E h c) s'
theorem zc{a:cL}{n:Nat}{x:Str}(h:a.names.lookup x=aa .cell):∃c,(d7 n a.names []).lookup x=aa c:=by have q:=PySem.W.cellsFrom_some a.names n [] (.inl h);exact Option.isSome_iff_exists.mp q
theorem Gz{X:eK}{P:aK}{w:aD}{K:au}{O:Str->Option ah}{o:ay}{N B:List Str}{j:Str}{d:cL}{f:af}{L:ah}{A:aM}{g:List Env}{s Q:ao}{H:Hp}{E:XK}{M:List ah}{t:List V}(S:cr N B d) (Z:A.handled=ae) (m:tu P w K O o A g s H) (hl:t.length=B.length) (r:bh t M)(x:InCallC s s.heap.objs.size (bindL (ip j d s.heap.objs.size f L).kindOf (B.zip M) λ_=>ae) (d7 (s.heap.objs.size+1) d.names []) (bindC (ip j d s.heap.objs.size f L).kindOf (B.zip M) λ_=>ae) Q):Inv (gv X P w K O o N j d f L A g s H E) [] (start N t) H Q:=by
 have c9:B.length<=N.length:=by have:=congrArg kI S.pre;rw[kJ]at this;lia
 obtain⟨J,tk,rfl,W⟩:=x.done;have C:∀b:af,b∉(gv X P w K O o N j d f L A g s H E).ex:=λb z=>absurd (show b∈([]:List af)from z) (by simp);refine⟨⟨m.mod,S.kind,rfl,rfl,aY _,λy z c J l=>?_,λy D=>?_,λy c _ h=>?_,λ_=>Z,Around.frames_deeper m.frames,.inr ⟨rfl,rfl⟩,λb z=>absurd z (C b),m.bs,m.bsz,λb _ _=>C b,λb z=>absurd z (C b),m.funs,m.frf,m.tab⟩,rfl,m.bare,Un.kept W,⟨_,x.toInCall.ns,λi y v J l h3=>?_⟩,λy c h=>⟨_,x.cell y c h⟩,m.hok.fresh (aY _),λy c h=>?_,λp G=>absurd (show p∈([]:List (af×Obj))from G) (by simp),m.hok.kept W,?_⟩
 .exact name_of_addr x.apart (jg J) (jg l)
 .have D:d.names.lookup y=aa .cell\/d.names.lookup y=aa .free:=D;rcases D with D|D
  .exact zc D
  .exact absurd rfl (S.nofree _ (jg D))
 .exact kC (x.above y c (jg h))
 .have I:i<t.length:=by
   unfold start at l;by_cases I:i<t.length
   .exact I
   .rw[mW (by simpa using I)]at l;rw[List.getElem?_replicate]at l;split at l <;> cases l
  have ha:t[i]?=aa v:=by
   unfold start at l;rw[gF (by simpa using I),iq]at l;cases e:t[i]? with
   |none=>rw[e]at l;cases l
   |some a=>rw[e]at l;cases l;rfl
  obtain⟨u,T,Y⟩:=r.get ha;have G:B[i]?=aa y:=by rw[<-S.pre,List.getElem?_take_of_lt ∅];exact J
  have F:B.Nodup:=by rw[<-S.pre];exact S.nd.sublist (List.take_sublist _ _)
  refine⟨u,Y,?_⟩;rcases S.par y (uO G)with k|k
  .exact .inl ⟨k,zj F G T k⟩
  .obtain⟨c,e⟩:=zc (n:=s.heap.objs.size+1) k;refine .inr ⟨.inl k,c,e,?_⟩;have q:=x.cell y c e;rw[BJ F G T (by show d.names.lookup y≠_;rw[k];decide)]at q;exact q
 .exact m.hok.fresh (kC (x.above y c (jg h)))
 .unfold start;show _=N.length;rw[ca,eT,List.length_replicate];lia
theorem De{M:eK}{P:aK}{w:aD}{K:au}{L:Str->Option ah}{h:ay}{k:Nat}{f:af}{m d:Str}{g:o0}{i:List a8}{a:cL}{dV kV F pm z ct oc:ah}{an od:Option af}{X:Array (Option ah)}{N G:List Str}{O:Sp} (lk:K.lookup f=aa ⟨oc,od,.func (ir m d g i a dV kV F pm an z ct),X⟩) (bN:uP K z d=ai) (S:cr N G a)(len:∀l H Q E,O l H Q E->l.length=G.length)(ix:∀(A:aM) (c:List Env) (s:ao) (H:Hp) (l:List V) (Q:VK) (E:XK),Room k (A.deeper (ip d a s.heap.objs.size f z))->O l H Q E -> ∃t,jI (gv M P w K L h N d a f z A c s H E) i t/\t {nx:=λ_ p=>Q .non p,rt:=Q} (start N l) H):iZ P w K L h M (k+1) f (ir m d g i a dV kV F pm an z ct) G O:=by
 refine⟨len,λA c s H args us l Q E Z D hb r j6=>?_⟩;have hl:=len _ _ _ _ j6;have KX:K.In s.heap:=D.mod.kin.keeps λb o e=>(D.bs b o e).1;have Y:s.heap.NoLimit:=D.mod.nolimit.keeps λb o e=>(D.bs b o e).1;have K6:∀y∈G.zip us,a.names.lookup y.1=aa .local\/(a.names.lookup y.1=aa .cell/\((d7 (s.heap.objs.size+1) a.names []).lookup y.1).isSome=ai):=λ⟨n,v⟩ hy=>by
  rcases S.par n (List.of_mem_zip hy).1 with q|q
  .exact .inl q
  .exact .inr ⟨q,PySem.W.cellsFrom_some _ _ _ (.inl q)⟩
 refine codeAny_call_function Z.depth (KX _ _ lk) rfl S.co S.gen rfl (PySem.W.codeRec_of KX bN) (hb _ _ _ _ ?_);refine wpAny_newFunctionEnv_cells S.kind K6 λenv he s1 x=>?_;subst he;refine⟨Y.keeps x.toInCall.keep,codeAny_func ?_⟩;obtain⟨t,ht,hq⟩:=ix A c s H l Q E (Z.deeper _) j6;have I:Inv (gv M P w K L h N d a f z A c s H E) [] (start N l) H s1:=Gz S Z.hd D hl r x;refine dO (ht [] s1 (start N l) H _ I hq) (λfl T B=>?_) λe T B=>B;have C:∀{j:St}{p:Hp}{v:V}{u:ah},Inv (gv M P w K L h N d a f z A c s H E) [] j p T->RelV v u->Q v p->CE c P w H s Q u T :=λ{j p v u} J W q=>⟨v,p,J.os,J.bare,J.base,J.hok,W,q⟩
 cases fl with
 |ret u=>obtain⟨v,j,p,J,W,q⟩:=B;exact C J W q
 |next=>obtain⟨j,p,J,q⟩:=B;exact C (v:=V.non) (u:=Value.none) J rfl q
 |brk=>obtain⟨_,_,_,q⟩:=B;exact jP q
 |cont=>obtain⟨_,_,_,q⟩:=B;exact jP q
section
variable{X:Cx}{x:Str}{p a:Pos}{e:az}{b:List az}{t:TA}{c T:String}{r:List V->Hp->VK->Prop}
def Bc(r:List V->Hp->VK->Prop)(t:TA):TE:=λd H Q=>t d H λf g=>r f g Q
theorem qR(w:fY X (.builtin c) r)(u:Gl X x)(q:X.mg x=ae)(n:dm x=aa (.builtin c))(y:PA X (e::b) t)(o:x≠"__name__":=by decide)(z:(x==("__debug__":Str))=aj:=by decide)(v:aN (e::b) X.env=(aj,aP e X.env)::aN b X.env:=by rfl) (A:(cM a (aN b X.env)).any (·.1)=aj:=by rfl):PE X (.Call (.Name x p) (e::b) [] a) (Bc r t):=by intro f s d H Q I h;refine uN (oN I u q n ?_ o z);exact KR (aL (y a f s d H _ I h) λi j ⟨g,C,B,l,m⟩=>w f j d C g i Q B l m) v A
theorem wZ(w:fY X (.type T) r)(u:Gl X x)(q:X.mg x=ae)(n:dm x=aa (.type T))(y:PA X (e::b) t)(o:x≠"__name__":=by decide)(z:(x==("__debug__":Str))=aj:=by decide)(v:aN (e::b) X.env=(aj,aP e X.env)::aN b X.env:=by rfl) (A:(cM a (aN b X.env)).any (·.1)=aj:=by rfl):PE X (.Call (.Name x p) (e::b) [] a) (Bc r t):=by intro f s d H Q I h;refine uN (oN I u q n ?_ o z);exact B3 (aL (y a f s d H _ I h) λi j ⟨g,C,B,l,m⟩=>w f j d C g i Q B l m) v A
end
end L2
namespace HT
section
open PySem.SeqAt
open PySem.AutoSeq1 (wpAny_loadPart')
open PySem.MeetsSeq PySem.MeetsSeq2 PySem.MeetsSeq3
end
section
variable{a:aK}{w:aD}{A:aM}{E:ah->ao->Prop}{s:ao}
theorem cat_tup{t b:af}{d c:List ah}{Q:ah->ao->Prop}(B:IsTup s.heap t d.toArray)(C:IsTup s.heap b c.toArray)(r:d≠[])(F:c=[]->Q (.ref t) s) (D:c≠[]->Q (.ref s.heap.objs.size) {s with heap:=s.heap.push {cls:=.type "tuple",data:=.seq (d++c).toArray}})(l:d.length+c.length<=a9):aq (ar a w) A (gg .Add (.ref t) (.ref b)) Q E s:=by
 obtain⟨⟨cls,y,data,o⟩,i,v,n,u⟩:=id B;obtain⟨⟨z,g,m,f⟩,j,x,p,q⟩:=id C;simp only at v u x q;subst v u x q;have e:d.toArray++c.toArray=(d++c).toArray:=by simp
 by_cases h:c=[]
 .exact concat_meets ⟨_,i,rfl⟩ ⟨_,j,rfl⟩ B5 seq_tuple_add B6 B7 (B8 _ _)
   (tuple_addW1 t b d.toArray c.toArray n p y g o f (by simpa using r) (by simp[h])) ⟨i,j,F h⟩
 .refine concat_meets ⟨_,i,rfl⟩ ⟨_,j,rfl⟩ B5 seq_tuple_add B6 B7 (B8 _ _)
   (tuple_addW2 t b d.toArray c.toArray n p y g o f (by simpa using r) (by simpa using h) (by rw[bM,bM];exact l)) ⟨i,j,?_⟩
  rw[e];exact D h
def sIx(n d:Nat):Option Int->Nat
 |none=>d
 |some v=>if v<0 then(v+(n:Int)).toNat else min v.toNat n
theorem sIx_nat(n d k:Nat):sIx n d (aa (k:Int))=min k n:=by show(if(k:Int)<0 then((k:Int)+(n:Int)).toNat else min (k:Int).toNat n)=min k n;rw[if_neg ∅,lJ]
theorem sIx_le(n d:Nat)(c:d<=n)(o:Option Int):sIx n d o<=n:=by
 cases o with
 |none=>exact c
 |some v=>
  show(if v<0 then(v+(n:Int)).toNat else min v.toNat n)<=n;by_cases b:v<0
  .rw[if_pos b];lia
  .rw[if_neg b];exact Nat.min_le_right _ _
theorem y3(v:Int)(n d:Nat):(if v<0 then max (v+(n:Int)) 0 else min v (n:Int))=((sIx n d (aa v):Nat):Int):=by
 show(if v<0 then max (v+(n:Int)) 0 else min v (n:Int))=(((if v<0 then(v+(n:Int)).toNat else min v.toNat n):Nat):Int)
 by_cases b:v<0
 .simp only[if_pos b];lia
 .simp only[if_neg b];lia
theorem Fk(b c:Option Int)(n:Nat):B9 b c 1 (n:Int)=(((sIx n 0 b:Nat):Int),((sIx n n c:Nat):Int)):=by
 have d:¬((1:Int)<0):=∅
 unfold B9;simp only[d,if_false];refine Prod.ext ?_ ?_
 .cases b with
  |none=>rfl
  |some v=>exact y3 v n 0
 .cases c with
  |none=>rfl
  |some v=>exact y3 v n n
theorem HU(i j:Nat):xO (i:Int) (j:Int) 1=j-i:=by
 unfold xO;have b:(1:Int) > 0:=∅
 simp only[b,if_true,Int.ediv_one];split <;> lia
theorem Bu{v:ah}{o:Option Int}{Q:Option Int->ao->Prop}(p:kK v o)(h:Q o s):aq (ar a w) A (Builtin.Slice.slicePartIndex v) Q E s:=by
 cases p with
 |none=>exact slicePart_none h
 |int i t=>exact slicePart_int h
theorem IP{j:af}{g f:ah}{b c:Option Int}{n:Nat}{Q:Int×Int×Nat->ao->Prop}(o:s.heap.IsSliceOf j g f .none)(m:kK g b)(l:kK f c)(h:Q (((sIx n 0 b:Nat):Int),1,sIx n n c-sIx n 0 b) s):aq (ar a w) A (Builtin.Slice.sliceApplied (.ref j) (pure (n:Int))) Q E s:=by
 obtain⟨q,i,p,d⟩:=id o;unfold Builtin.Slice.sliceApplied Builtin.Slice.sliceFields;refine ap (ap (o4 i d (x:=g) rfl (ap (o4 i d (x:=f) rfl (ap (o4 i d (x:=.none) rfl (aC ?_)))))));refine ap (slicePart_none ?_);show aq _ _ (if((1:Int) == 0)=ai then _ else _) _ _ s;rw[if_neg (by decide)];refine ap (Bu m (ap (Bu l (ap (aC ?_)))));show aq _ _ (match B9 b c 1 (n:Int)with | (b,c)=>pure (b,(1:Int),xO b c 1)) _ _ s;rw[Fk b c n];show aq _ _ (pure (((sIx n 0 b:Nat):Int),(1:Int),xO ((sIx n 0 b:Nat):Int) ((sIx n n c:Nat):Int) 1)) _ _ s;rw[HU];exact aC h
theorem Hh(b:Array ah)(i k:Nat):((cm k).filterMap λ(m:Nat)=>b[((i:Int)+(m:Int)*1).toNat]?).toArray=((b.toList.drop i).take k).toArray:=by
 have e:(λ(m:Nat)=>b[((i:Int)+(m:Int)*1).toNat]?)=λm=>b[i+m]?:=by
  funext m;have:((i:Int)+(m:Int)*1).toNat=i+m:=∅
  rw[this]
 rw[e];have:=pick_run b i k;rw[List.filterMap_map]at this;have c:((λx=>b[x]?) ∘ λx=>i+x)=λm=>b[i+m]?:=rfl;rw[c]at this;rw[this]
theorem getItem_tuple_cut{t i:af}{b:Array ah}{p o:ah}{c d:Option Int}{Q:ah->ao->Prop}(g:IsTup s.heap t b)(r:s.heap.IsSliceOf i p o .none)(x:kK p c)(v:kK o d)(z:¬(sIx b.size 0 c=0/\sIx b.size b.size d=b.size))(h:Q (.ref s.heap.objs.size) {s with heap:=s.heap.push {cls:=.type "tuple",data:=.seq ((b.toList.drop (sIx b.size 0 c)).take (sIx b.size b.size d-sIx b.size 0 c)).toArray}})(B:b.size<=a9):aq (ar a w) A (o5 (.ref t) (.ref i)) Q E s:=by
 have f:sizeOk (.seq ((b.toList.drop (sIx b.size 0 c)).take (sIx b.size b.size d-sIx b.size 0 c)).toArray):=by show((b.toList.drop (sIx b.size 0 c)).take (sIx b.size b.size d-sIx b.size 0 c)).toArray.size<=a9;rw[bM,kJ,lK,kF];lia
 have G:sIx b.size b.size d<=b.size:=sIx_le _ _ (aY _) d;obtain⟨y,u,l,C⟩:=id r;have n:s.TypeIs (.ref i) "slice":=⟨y,u,l⟩
 unfold o5
 try with_reducible refine io ?_
 first|refine ap (aC ?_)|skip
 refine ap (wpAny_sequenceKey g.typeIs (by decide) ?_);refine ap (wpAny_callSpecial?_slot (name:=q8 "__getitem__") g.typeIs KS (q_ KS g.typeIs entry_tuple_getitem ?_ (args_tuple_getitem _ _)));show aq _ _ (Builtin.Tuple.tupleItemsOf (.ref t) >>= _) _ _ s;refine ap (tupleItemsOf_ g ?_);refine ap (wpAny_typeOf n ?_);rw[if_pos (by decide)];refine ap (IP r x v ?_);have j:¬((((sIx b.size 0 c:Nat):Int) == 0&&(1:Int) == 1&&(sIx b.size b.size d-sIx b.size 0 c) == b.size)=ai):=by intro q;rw[eU,eU]at q;have F:((sIx b.size 0 c:Nat):Int)=0:=eq_of_beq q.1.1;have D:sIx b.size b.size d-sIx b.size 0 c=b.size:=eq_of_beq q.2;exact z ⟨∅,∅⟩
 show aq _ _ (if(((sIx b.size 0 c:Nat):Int) == 0&&(1:Int) == 1&&(sIx b.size b.size d-sIx b.size 0 c) == b.size)=ai then _ else _) _ _ s;rw[if_neg j,Hh]
 first
  |exact ap (m:=xP _) (kL (aC ⟨_,rfl,aC h⟩) f)
  |exact ap (m:=xP _) (kL (ap (aC (aC ⟨_,rfl,aC h⟩))) f)
  |exact ap (ap (m:=xP _) (kL (aC (aC ⟨_,rfl,aC h⟩)) f))
  |exact ap (ap (m:=xP _) (kL (aC ⟨_,rfl,aC h⟩) f))
end
end HT
namespace L2
abbrev TO:=St->Hp->(Option Int->Hp->Prop)->Prop
def PO(X:Cx)(e:Option az)(t:TO):Prop :=
 ∀(b:List (af×Obj)) (s:ao) (a:St) (H:Hp) (Q:Option Int->Hp->Prop),Inv X b a H s->t a H Q ->
  aq (ar X.prog X.w) X.A (evalPart e X.env) (λu d=>∃o c,Inv X b a c d/\kK u o/\Q o c) X.xe s
def Jo:TO:=λ_ H Q=>Q ae H
def EX(t:TE):TO:=λa H Q=>t a H λx b=>∃i,x=.int i/\Q (aa i) b
section
variable{X:Cx}{e:az}{f:TE}{c d:Option az}{g j:TO}{n m:Pos}
theorem FW:PO X ae Jo:=by intro b s a H Q I h;rw[evalPart_none];exact aC ⟨ae,H,I,.none,h⟩
theorem Ho(h:PE X e f):PO X (aa e) (EX f):=by intro p s a H Q I o;rw[evalPart_some];refine aL (h p s a H _ I o) λu w ⟨x,v,r,b,l⟩=>?_;obtain⟨i,rfl,q⟩:=l;obtain⟨t,rfl⟩:=b;exact⟨aa i,v,r,.int i t,q⟩
def kr(X:Cx)(r:V->Option Int->Option Int->Hp->VK->Prop):Prop :=
 ∀(l:List (af×Obj)) (s:ao) (a:St) (H:Hp) (x:V) (v h b:ah) (c d:Option Int) (i:af) (Q:VK),Inv X l a H s->RelV x v->s.heap.IsSliceOf i h b .none->kK h c->kK b d->r x c d H Q ->
  ∃T o,typeLookup (.type T) "__getitem__"=pure (aa (.builtin o))/\s.TypeIs v T/\aq (ar X.prog X.w) X.A (o5 v (.ref i)) (EP X l a Q) X.xe s
theorem kr.or{r p:V->Option Int->Option Int->Hp->VK->Prop}(h:kr X r)(z:kr X p):kr X (λx c d H Q=>r x c d H Q\/p x c d H Q):=by
 intro y s a H x v i b c d l Q I o w u t q;rcases q with q|q
 .exact h y s a H x v i b c d l Q I o w u t q
 .exact z y s a H x v i b c d l Q I o w u t q
def Ik(r:V->Option Int->Option Int->Hp->VK->Prop)(f:TE)(g j:TO):TE:=λa H Q=>f a H λx i=>g a i λl h=>j a h λu b=>r x l u b Q
theorem GL{r:V->Option Int->Option Int->Hp->VK->Prop}(K:kr X r)(N:PE X e f)(L:PO X c g)(G:PO X d j):PE X (.Subscript e (.Slice c d ae m) n) (Ik r f g j):=by intro o s i H Q I h;refine Subscript_ (aL (N o s i H _ I h) λv z ⟨x,H1,Y,A,D⟩=>?_);refine wpAny_Slice (aL (L o z i H1 _ Y D) λt y ⟨l,Z,W,F,C⟩=>aL (G o y i Z _ W C) λp a ⟨u,w,S,E,B⟩=>?_);rw[evalPart_none];refine aC ?_;have P:Inv X o i w {a with heap:=a.heap.push {cls:=.type "slice",data:=.fields #[t,p,.none]}}:=S.kept (t':=a.toks) λb ob q=>bd _ q;obtain⟨T,id,O,J,M⟩:=K o {a with heap:=a.heap.push {cls:=.type "slice",data:=.fields #[t,p,.none]}} i w x v t p l u a.heap.objs.size Q P A (Heap.IsSliceOf.new ..) F E B;show aq (ar X.prog X.w) X.A (subscriptTail e (.Slice c d ae m) v (.ref a.heap.objs.size)) (EP X o i Q) X.xe {a with heap:=a.heap.push {cls:=.type "slice",data:=.fields #[t,p,.none]}};exact tail_any (ops:=[.ref a.heap.objs.size,v]) J O M (by with_unfolding_all rfl)
def lm(a:List V)(c d:Option Int):List V:=(a.drop (HT.sIx a.length 0 c)).take (HT.sIx a.length a.length d-HT.sIx a.length 0 c)
theorem yZ(a:List V)(c d:Option Int):(lm a c d).length<=a.length:=by unfold lm;rw[kJ,lK];lia
def A5(K:au):V->Option Int->Option Int->Hp->VK->Prop:=λx c d H Q=>∃a b,x=.ref a/\bQ K H a b /\
 ¬(HT.sIx b.length 0 c=0/\HT.sIx b.length b.length d=b.length)/\∀p,H p=ae->Q (.ref p) (upd H p (.tup (lm b c d)))
theorem Fx:kr X (A5 X.K):=by
 intro K s D H x v F E c d G Q I w C z y h;obtain⟨a,i,rfl,A,B,q⟩:=h;cases w;obtain⟨l,r,u,t⟩:=I.tuple A;have p:l.toArray.size=i.length:=by rw[bM];exact r.length.symm
 refine⟨"tuple",_,PyProof.Rows.slot_tuple_getitem.lookup,u.typeIs,?_⟩;refine HT.getItem_tuple_cut u C z y (by rw[p];exact B) ?_ (by rw[p];exact t);rw[p];refine⟨.ref s.heap.objs.size,_,I.laid (t':=s.toks) (o:=.tup (lm i c d)) (λb J q=>bd _ q) (aY _) ?_,rfl,q _ (I.hok.fresh (aY _))⟩;exact⟨cn (yZ i c d) t,_,(r.drop (HT.sIx i.length 0 c)).take (HT.sIx i.length i.length d-HT.sIx i.length 0 c),BW.new _ _⟩
def zr(K:au):R2:=λx y H Q=>∃a b i h,x=.ref a/\y=.ref b/\bQ K H a i/\bQ K H b h/\i≠[]/\i.length+h.length<=a9 /\
 (h=[]->Q (.ref a) H)/\(h≠[]->∀p,H p=ae->Q (.ref p) (upd H p (.tup (i++h))))
theorem bh.nil_iff{a:List V}{b:List ah}(r:bh a b):b=[]↔a=[]:=by
 cases r with
 |nil=>simp
 |cons _ _=>simp
theorem Ll:bz X (gg .Add) (zr X.K):=by
 intro O s M H x y v u Q I C B h;obtain⟨a,b,A,t,rfl,rfl,L,K,J,r,E,D⟩:=h;cases C;cases B;obtain⟨G,l,F,_⟩:=I.tuple L;obtain⟨p,i,m,_⟩:=I.tuple K;refine HT.cat_tup F m (λz=>J (l.nil_iff.mp z)) (λz=>⟨.ref a,H,I,rfl,E (i.nil_iff.mp z)⟩) (λz=>?_) (by rw[<-l.length,<-i.length];exact r);refine⟨.ref s.heap.objs.size,_,I.laid (t':=s.toks) (o:=.tup (A++t)) (λb N q=>bd _ q) (aY _) ?_,rfl,D (λw=>z (i.nil_iff.mpr w)) _ (I.hok.fresh (aY _))⟩;exact⟨by rw[ca];exact r,_,l.append i,BW.new _ _⟩
end
def iE(n:Nat)(i:Int):Option Nat:=if 0<=i then(if i<n then aa i.toNat else ae)else if -(n:Int)<=i then aa (i+n).toNat else ae
def fc{a:Type}(xs:List a)(i:Int):Option a:=(iE xs.length i).bind λj=>xs[j]?
theorem zq{n:Nat}{i:Int}{j:Nat}(h:iE n i=aa j):seqIndex? i n=aa j/\j<n/\-(n:Int)<=i/\i<n:=by
 unfold iE at h;by_cases b:0<=i
 .rw[if_pos b]at h;by_cases a:i<n
  .rw[if_pos a]at h;have e:i.toNat=j:=dA h;exact⟨by rw[seqIndex_of b a,e],∅,∅,a⟩
  .rw[if_neg a]at h;cases h
 .rw[if_neg b]at h;by_cases a:-(n:Int)<=i
  .rw[if_pos a]at h;have e:(i+n).toNat=j:=dA h;exact⟨by rw[seqIndex_neg ∅ a,e],∅,a,∅⟩
  .rw[if_neg a]at h;cases h
theorem vK{b:Type}{a:List b}{i:Int}{v:b}(h:fc a i=aa v):∃j,seqIndex? i a.length=aa j/\a[j]?=aa v/\j<a.length/\-(a.length:Int)<=i/\i<a.length:=by
 unfold fc at h;cases e:iE a.length i with
 |none=>rw[e]at h;cases h
 |some j=>rw[e]at h;obtain⟨g,f,d,c⟩:=zq e;exact⟨j,g,h,f,d,c⟩
theorem IB{a:Type}{xs:List a}{j:Nat}{v:a}(h:xs[j]?=aa v):fc xs (j:Int)=aa v:=by
 have b:j<xs.length:=(cE.mp h).1;have e:iE xs.length (j:Int)=aa j:=by unfold iE;rw[if_pos ∅,if_pos ∅];simp
 unfold fc;rw[e];exact h
def AD(b:az):Prop:=∀o i,xQ b aj o i=operate [o,i] (o5 o i)
def j_(X:Cx)(r:R2):Prop :=
 ∀(b a:az) (d:List (af×Obj)) (s:ao) (c:St) (H:Hp) (x y:V) (v u:ah) (Q:VK),Inv X d c H s->RelV x v->RelV y u->r x y H Q ->
  xQ a aj v u=operate [v,u] (o5 v u)->aq (ar X.prog X.w) X.A (subscriptTail b a v u) (EP X d c Q) X.xe s
def uB(X:Cx)(f:String)(r:V->List V->Hp->VK->Prop):Prop :=
 ∀(d:List (af×Obj)) (s:ao) (a:St) (H:Hp) (x:V) (b:List V) (v:ah) (c:List ah) (Q:VK),Inv X d a H s->RelV x v->bh b c->r x b H Q ->
  aq (ar X.prog X.w) X.A (call (.builtin f) (v::c)) (EP X d a Q) X.xe s
section
variable{X:Cx}{a b:az}{F E:TE}{D:Pos}
theorem j_.or{r j:R2}(h:j_ X r)(n:j_ X j):j_ X (λx y H Q=>r x y H Q\/j x y H Q):=by
 intro c d m s f H x y v u Q I i g q l;rcases q with q|q
 .exact h c d m s f H x y v u Q I i g q l
 .exact n c d m s f H x y v u Q I i g q l
theorem F9{r:R2}(j:j_ X r)(m:PE X a F)(l:PE X b E)(i:AD b):PE X (.Subscript a b D) (sX r F E):=by intro n s c H Q I h;exact Subscript_ (xr m l I h λv u d x y p o g f q=>j a b n d c p x y v u Q o g f q (i _ _))
def AN(K:au):R2:=λx y H Q=>∃p c i v,x=.ref p/\y=.int i/\bX K H p c/\fc c i=aa v/\Q v H
def yE(K:au):R2:=λx y H Q=>∃p c i v,x=.ref p/\y=.int i/\bQ K H p c/\fc c i=aa v/\Q v H
def yO:R2:=λx y H Q=>∃z i c,x=.str z/\y=.int i/\z.length<=a9/\fc z.cps.toList i=aa c/\Q (.str ⟨#[c]⟩) H
theorem Lo:j_ X (AN X.K):=by
 intro f g J s A H x y v u Q I M L h B;obtain⟨p,Y,i,z,rfl,rfl,N,P,q⟩:=h;cases M;obtain⟨t,rfl⟩:=L;obtain⟨n,r,m,Z⟩:=I.list N;obtain⟨j,d,W,h3,T,S⟩:=vK P;obtain⟨w,G,l⟩:=r.get W;have O:=r.length;have hn:=oh;have c:EP X J A Q w s:=⟨z,H,I,l,q⟩
 by_cases C:0<=i
 .have o:i.toNat=j:=by
   rw[seqIndex_of C S]at d;exact dA d
  exact item_listR m.isList C ∅ (by rw[o];simpa using G) c B
 .have o:(i+(n.toArray.size:Int)).toNat=j:=by
   rw[seqIndex_neg ∅ T]at d;rw[bM,<-O];exact dA d
  exact subscriptTail_builtinR (x:=w) m.isList.typeIs slot_list_getitem.lookup
   (wpAny_getItem_list_neg (Q:=λr K=>r=w/\EP X J A Q r K) m.isList ∅ (by rw[bM] <;> lia) ∅ (by rw[o];simpa using G) ⟨rfl,c⟩) B
theorem Lu:j_ X (yE X.K):=by
 intro c d n s l H x y v u Q I B A h G;obtain⟨p,P,i,z,rfl,rfl,J,L,q⟩:=h;cases B;obtain⟨t,rfl⟩:=A;obtain⟨C,r,m,S⟩:=I.tuple J;obtain⟨j,N,M,Z,Y,W⟩:=vK L;obtain⟨w,O,f⟩:=r.get M;have K:=r.length;have T:=oh;have g:EP X n l Q w s:=⟨z,H,I,f,q⟩
 exact subscriptTail_builtinR (x:=w) m.typeIs slot_tuple_getitem.lookup
  (getItem_tuple (j:=j) (Q:=λr o=>r=w/\EP X n l Q r o) m ∅ ∅ (by rw[bM,<-K];exact N) (by simpa using O) ⟨rfl,g⟩) G
theorem GH:j_ X yO:=by
 intro d f N s G H x y v u Q I m l h n;obtain⟨z,i,c,rfl,rfl,K,p,q⟩:=h;obtain⟨t,rfl⟩:=m;obtain⟨J,rfl⟩:=l;obtain⟨j,g,A,M,w,r⟩:=vK p;have o:z.cps.toList.length=z.length:=by simp[lL]
 rw[o]at g w r;have L:=oh;exact tail_any (typeIs_str s z t) slot_str_getitem.lookup (getItem_str (c:=c) (by have C:decide (i < -(2^63:Int))=aj:=decide_eq_false ∅;have B:decide (i ≥ 2^63)=aj:=decide_eq_false ∅;rw[C,B,Bool.or_false]) (by rw[g];simpa using A) ⟨.str ⟨#[c]⟩,H,I.tok _,⟨_,rfl⟩,q⟩) n
def Bg(K:au):R2:=λx y H Q=>AN K x y H Q\/yE K x y H Q\/yO x y H Q
theorem gY:j_ X (Bg X.K):=Lo.or (Lu.or GH)
theorem EM(c:List ah)(n j:Nat)(u:ah):fv (·.setIfInBounds j u) {cls:=.type "list",data:=.seq c.toArray n}={cls:=.type "list",data:=.seq (c.set j u).toArray n}:=by simp[fv]
theorem Inv.lst{f:List (af×Obj)}{d:St}{H:Hp}{s:ao}{p:af}{c:List V}(I:Inv X f d H s)(h:H p=aa (.lst c)):∃(its:List ah) (n:Nat),bh c its/\s.heap.get? p=aa {cls:=.type "list",data:=.seq its.toArray n}/\c.length<=a9:=by obtain⟨z,its,n,r,e⟩:=I.hok p _ h;exact⟨its,n,r,e,z⟩
theorem Inv.lstUpd{m:List (af×Obj)}{j:St}{H:Hp}{s:ao}{p:af}{o g:List V}{d c:List ah}{n i:Nat}{f:Obj->Obj}(I:Inv X m j H s)(h:H p=aa (.lst o))(w:s.heap.get? p=aa {cls:=.type "list",data:=.seq d.toArray n}) (l:f {cls:=.type "list",data:=.seq d.toArray n}={cls:=.type "list",data:=.seq c.toArray i}) (r:bh g c) (v:g.length<=a9) (t:Nat):Inv X m j (upd H p (.lst g)) {s with heap:=s.heap.update p f,toks:=t}:=by
 have e:(s.heap.update p f).get? p=aa {cls:=.type "list",data:=.seq c.toArray i}:=by rw[mX f w (by rw[l] <;> rfl),l]
 refine I.write (x:=p) (e:=p) (by rw[h];trivial) (.inl rfl) (λb u y q=>(mY _ _ (fk y)).trans q) ⟨_,e⟩ ?_;exact⟨v,c,i,r,e⟩
def DZ:V->V->V->Hp->(Hp->Prop)->Prop:=λo i v H Q=>∃p c k j,o=.ref p/\i=.int k/\H p=aa (.lst c)/\iE c.length k=aa j/\Q (upd H p (.lst (c.set j v)))
theorem J8:AU X DZ:=by
 intro M s A H o i v ov N u Q I G J C h;obtain⟨p,B,k,j,rfl,rfl,m,L,q⟩:=h;cases G;obtain⟨t,rfl⟩:=J;obtain⟨c,n,r,f,K⟩:=I.lst m;obtain⟨d,P,x,w⟩:=zq L;have g:=r.length;have O:=oh;have z:Inv X M A (upd H p (.lst (B.set j v))) {s with heap:=s.heap.update p (fv (·.setIfInBounds j u))} :=I.lstUpd m f (EM c n j u) (r.set C j) (by rw[gi];exact K) s.toks;by_cases y:0<=k
 .have l:k.toNat=j:=by
   rw[seqIndex_of y w]at d;exact dA d
  exact PySem.W.ki_setAt f y ∅ (by rw[bM,<-g];exact w) (by rw[l];exact⟨_,z,q⟩)
 .have l:(k+(c.toArray.size:Int)).toNat=j:=by
   rw[seqIndex_neg ∅ x]at d;rw[bM,<-g];exact dA d
  exact PySem.W.ki_setBack f ∅ (by rw[bM,<-g];exact x) ∅ (by rw[l];exact⟨_,z,q⟩)
theorem Hx(c d:Option Int)(n:Nat):(o6 c d ae n).1=((HT.sIx n 0 c:Nat):Int)/\(o6 c d ae n).2.1=((HT.sIx n n d:Nat):Int)/\(o6 c d ae n).2.2=1:=by
 refine⟨?_,?_,rfl⟩
 .cases c with
  |none=>simp[o6,HT.sIx]
  |some i=>
   simp only[o6,HT.sIx,B_,show(1:Int) > 0 by decide,if_true];by_cases h:i<0
   .simp only[h,if_true] <;> lia
   .simp only[h,if_false] <;> lia
 .cases d with
  |none=>simp[o6,HT.sIx]
  |some i=>
   simp only[o6,HT.sIx,B_,show(1:Int) > 0 by decide,if_true];by_cases h:i<0
   .simp only[h,if_true] <;> lia
   .simp only[h,if_false] <;> lia
theorem D1(c:List ah)(d f:Option Int):slicePick c.toArray d f ae=((c.drop (HT.sIx c.length 0 d)).take (HT.sIx c.length c.length f-HT.sIx c.length 0 d)).toArray:=by obtain⟨i,h,g⟩:=Hx d f c.toArray.size;unfold slicePick;rw[i,h,g];simp only[sliceRange_one,pick_run,bM] <;> rfl
def zS(K:au):V->Option Int->Option Int->Hp->VK->Prop:=λx d f H Q=>∃a c,x=.ref a/\bX K H a c/\∀p,H p=ae->Q (.ref p) (upd H p (.lst (lm c d f)))
theorem Li:kr X (zS X.K):=by
 intro C s w H x v z y d f A Q I i t l j h;obtain⟨a,c,rfl,p,q⟩:=h;cases i;obtain⟨m,r,g,n⟩:=I.list p;have u:=r.length;refine⟨"list",_,slot_list_getitem.lookup,g.isList.typeIs,?_⟩;refine wpAny_getItem_list_slice g.isList t l j .none (by simp) ?_ (by rw[bM] <;> lia);rw[D1,<-u];refine⟨.ref s.heap.objs.size,_,I.laid (t':=s.toks) (o:=.lst (lm c d f)) (λb B q=>bd _ q) (aY _) ?_,rfl,q _ (I.hok.fresh (aY _))⟩;exact⟨cn (yZ c d f) n,_,0,(r.drop (HT.sIx c.length 0 d)).take (HT.sIx c.length c.length f-HT.sIx c.length 0 d),cg _ rfl⟩
def fg:V->Bool
 |.non=>ai
 |.bl _=>ai
 |.int _=>ai
 |.str _=>ai
 |_=>aj
def cC:V->V->Bool
 |.non,.non=>ai
 |.bl a,.bl b=>a == b
 |.bl a,.int b=>(if a then 1 else 0) == b
 |.int a,.bl b=>a == (if b then 1 else 0)
 |.int a,.int b=>a == b
 |.str a,.str b=>a == b
 |_,_=>aj
theorem zT{A:aM}{s:ao}{y x:V}{u v:ah}(f:RelV y u)(c:RelV x v)(h:fg y=ai)(g:fg x=ai):re A s u v (cC y x):=by
 cases y with
 |non=>
  cases f;cases x with
  |non=>cases c;exact SeqAt.EqAt.same _
  |bl b=>cases c;exact SeqAt.EqAt.none_bool b
  |int b=>obtain⟨t,rfl⟩:=c;exact SeqAt.EqAt.none_int b t
  |str b=>obtain⟨t,rfl⟩:=c;exact SeqAt.EqAt.none_str b t
  |_=>exact absurd (show aj=ai from g) d4
 |bl a=>
  cases f;cases x with
  |non=>cases c;exact SeqAt.EqAt.bool_none a
  |bl b=>cases c;exact SeqAt.EqAt.bool_bool a b
  |int b=>obtain⟨t,rfl⟩:=c;exact SeqAt.EqAt.bool_int a b t
  |str b=>obtain⟨t,rfl⟩:=c;exact SeqAt.EqAt.bool_str a b t
  |_=>exact absurd (show aj=ai from g) d4
 |int a=>
  obtain⟨d,rfl⟩:=f;cases x with
  |non=>cases c;exact SeqAt.EqAt.int_none a d
  |bl b=>cases c;exact SeqAt.EqAt.int_bool a d b
  |int b=>obtain⟨t,rfl⟩:=c;exact SeqAt.EqAt.int_int a d b t
  |str b=>obtain⟨t,rfl⟩:=c;exact SeqAt.EqAt.int_str a d b t
  |_=>exact absurd (show aj=ai from g) d4
 |str a=>
  obtain⟨d,rfl⟩:=f;cases x with
  |non=>cases c;exact SeqAt.EqAt.str_none a d
  |bl b=>cases c;exact SeqAt.EqAt.str_bool a d b
  |int b=>obtain⟨t,rfl⟩:=c;exact SeqAt.EqAt.str_int a d b t
  |str b=>obtain⟨t,rfl⟩:=c;exact Ca a d b t
  |_=>exact absurd (show aj=ai from g) d4
 |_=>exact absurd (show aj=ai from h) d4
def im(x:V)(u:ah):Bool:=match u with
 |.none=>cC .non x
 |.bool b=>cC (.bl b) x
 |.int i _=>cC (.int i) x
 |.str z _=>cC (.str z) x
 |_=>aj
theorem tm{x y:V}{u:ah}(r:RelV y u)(f:fg y=ai):im x u=cC y x:=by
 cases y with
 |non=>cases r;rfl
 |bl b=>cases r;rfl
 |int i=>obtain⟨t,rfl⟩:=r;rfl
 |str z=>obtain⟨t,rfl⟩:=r;rfl
 |_=>exact absurd (show aj=ai from f) d4
theorem wj{x:V}:∀{c:List V}{d:List ah},bh c d->c.all fg=ai->d.any (im x)=c.any λy=>cC y x
 |_,_,.nil,_=>rfl
 |y::c,u::d,.cons r t,f=>by rw[o7,eU]at f;rw[List.any_cons,List.any_cons,tm r f.1,wj t f.2]
theorem p8{A:aM}{s:ao}{x:V}{v:ah}(h:RelV x v)(i:fg x=ai):∀{d:List V}{g:List ah},bh d g->d.all fg=ai->∀u∈g,re A s u v (im x u)
 |_,_,.nil,_=>λu c=>by cases c
 |y::d,u::g,.cons r t,f=>λj c=>by
  rw[o7,eU]at f;rcases bF.mp c with rfl|c
  .rw[tm r f.1];exact zT r h f.1 i
  .exact p8 h i t f.2 j c
def qt(x:V)(c:List V):Bool:=c.any λy=>cC y x
def wf(K:au)(d:Bool):R2:=λx y H Q=>∃p c,y=.ref p/\(bX K H p c\/bQ K H p c)/\fg x=ai/\c.all fg=ai/\Q (.bl (if d then !qt x c else qt x c)) H
theorem Jq:bz X (dr .In) (wf X.K aj):=by
 intro t s n H x y v u Q I i l h;obtain⟨p,o,rfl,d,j,fs,q⟩:=h;cases l;rcases d with d|d
 .obtain⟨c,r,f,m⟩:=I.list d;refine SeqAt.in_listAt (im x) f.isList (λw g=>p8 i j r fs w (by simpa using g)) ⟨.bl _,H,I,rfl,?_⟩;rw[show c.toArray.any (im x)=c.any (im x) by simp,wj r fs];exact q
 .obtain⟨c,r,f,m⟩:=I.tuple d;refine SeqAt.in_tupleAt (im x) f (λw g=>p8 i j r fs w (by simpa using g)) ⟨.bl _,H,I,rfl,?_⟩;rw[show c.toArray.any (im x)=c.any (im x) by simp,wj r fs];exact q
theorem xC:fY X (.type "list") (λA H Q=>∃p f,A=[.ref p]/\(bX X.K H p f\/bQ X.K H p f)/\∀l,H l=ae->Q (.ref l) (upd H l (.lst f))):=by
 intro J s C H A L Q I r h;obtain⟨p,f,rfl,t,q⟩:=h;obtain⟨u,rfl,G⟩:=vals1 r;cases G;have v:∀(c:List ah),bh f c->f.length<=a9->∀(d:ay) (i:Nat),(∀b B,s.heap.get? b=aa B->d.get? b=aa B) ->
   d.get? s.heap.objs.size=aa {cls:=.type "list",dict:=ae,data:=.seq c.toArray i,slots:=#[]}->EP X J C Q (.ref s.heap.objs.size) {s with heap:=d}:=λc g m d i j e=>
  ⟨.ref s.heap.objs.size,_,I.laid (t':=s.toks) j (aY _) (show cW X.prog X.w _ d _ (.lst f)from⟨m,c,i,g,e⟩),rfl,q _ (I.hok.fresh (aY _))⟩
 rcases t with t|t
 .obtain⟨c,g,w,m⟩:=I.list t;have K:=g.length;obtain⟨o,x,z,n,y⟩:=w.isList;exact call_list_seq p (.inl rfl) x z y (λd i j e=>v c g m d i j e) (by simp only[bM] <;> lia)
 .obtain⟨c,g,w,m⟩:=I.tuple t;have K:=g.length;obtain⟨o,x,z,n,y⟩:=w;exact call_list_seq p (.inr rfl) x z y (λd i j e=>v c g m d i j e) (by simp only[bM] <;> lia)
theorem uf:fY X (.type "tuple") (λm H Q=>∃p d,m=[.ref p]/\((bX X.K H p d/\∀l,H l=ae->Q (.ref l) (upd H l (.tup d)))\/(bQ X.K H p d/\Q (.ref p) H))):=by
 intro t s j H m z Q I r h;obtain⟨p,d,rfl,h⟩:=h;obtain⟨u,rfl,w⟩:=vals1 r;cases w;rcases h with⟨hq,q⟩|⟨hq,q⟩
 .obtain⟨c,g,i,n⟩:=I.list hq;have A:=g.length;refine call_tuple_list i.isList (λf x=>?_) (by simp only[bM] <;> lia);have v:Inv X t j H {s with heap:=f}:=I.kept (t':=s.toks) x;have y:Inv X t j (upd H f.objs.size (.tup d)) {s with heap:=f.push {cls:=.type "tuple",data:=.seq c.toArray}} :=v.laid (t':=s.toks) (λb o e=>bd _ e) (aY _) (show cW X.prog X.w _ _ _ (.tup d)from⟨n,c,g,BW.new _ _⟩);exact⟨.ref f.objs.size,_,y,rfl,q _ (v.hok.fresh (aY _))⟩
 .obtain⟨c,g,i,n⟩:=I.tuple hq;exact call_tuple_same i ⟨.ref p,H,I,rfl,q⟩
def BH(K:au)(T:String)(x:V)(H:Hp):Prop:=match x with
 |.str _=>T = "str"
 |.int _=>T = "int"
 |.ref p=>(T = "list"/\∃d,bX K H p d)\/(T = "tuple"/\∃o,K.lookup p=aa o/\o.cls=.type "tuple"/\o.dict=ae) \/
   (T = "dict"/\((∃c,H p=aa (.dK c))\/∃c,H p=aa (.dT c)))\/(T = "set"/\∃S n,H p=aa (.set S n))
 |_=>False
theorem E6{q:List (af×Obj)}{l:St}{H:Hp}{s:ao}{T:String}{x:V}{v:ah}(I:Inv X q l H s)(r:RelV x v)(ty:BH X.K T x H):s.TypeIs v T/\∀a,v=.ref a->∃j,s.heap.get? a=aa j/\j.dict=ae:=by
 cases x with
 |str z=>
  obtain⟨t,rfl⟩:=r;cases (show T = "str" from ty);exact⟨typeIs_str s z t,λ_ e=>nomatch e⟩
 |int i=>
  obtain⟨t,rfl⟩:=r;cases (show T = "int" from ty);exact⟨typeIs_int s i t,λ_ e=>nomatch e⟩
 |ref p=>
  cases r;rcases ty with⟨rfl,xs,hq⟩|⟨rfl,o,hk,hc,f⟩|⟨rfl,hk⟩|⟨rfl,S,n,hk⟩
  .obtain⟨m,_,h,_⟩:=I.list hq;refine⟨h.isList.typeIs,λa e=>?_⟩;cases e;obtain⟨o,n,e,c,f,_⟩:=h;exact⟨o,e,f⟩
  .refine⟨⟨o,I.kIn p o hk,hc⟩,λa e=>?_⟩;cases e;exact⟨o,I.kIn _ o hk,f⟩
  .have z:∃o,s.heap.get? p=aa o/\o.ExactDict:=by
    rcases hk with⟨kvs,hk⟩|⟨kvs,hk⟩
    .obtain⟨_,_,_,_,o,_,_,e,d,_⟩:=I.hok p _ hk;exact⟨o,e,d⟩
    .obtain⟨_,_,_,_,o,_,_,e,d,_⟩:=I.hok p _ hk;exact⟨o,e,d⟩
   obtain⟨o,e,d⟩:=z;refine⟨⟨o,e,d.1⟩,λa g=>?_⟩;cases g;exact⟨o,e,d.2.1⟩
  .obtain⟨o,_,_,_,e,d,_⟩:=I.hok p _ hk;refine⟨⟨o,e,d.1⟩,λa g=>?_⟩;cases g;exact⟨o,e,d.2.1⟩
 |_=>exact jP ty
def EU(K:au)(T:String)(r:V->List V->Hp->VK->Prop)(B:TE)(t:TA):TE:=λc H Q=>B c H λx d=>BH K T x d/\t c d λf g=>r x f g Q
variable{o e:az}{es:List az}{B:TE}{t:TA}{g:Str}{m d:Pos}{T C:String}{r:V->List V->Hp->VK->Prop}
theorem uh(K:PlainAttrs T)(c:Slot T g C)(L:typeOf (.builtin C)=pure (.type "method_descriptor"))(S:uB X C r)(P:PE X o B)(W:PA X (e::es) t)(N:mZ o g X.env (aP o X.env)=aP o X.env:=by rfl)(y:((cM d (aN (e::es) X.env)).all (λx=>!x.1)&&(rf d (rg [] X.env)).all (λx=>x.1.isSome)&&decide ((e::es).length+([]:List jh).length+(if([]:List jh).isEmpty then 0 else 1)<30))=ai:=by rfl)(M:(m.endLine == d.line)=ai:=by rfl) (O:aN (e::es) X.env=(aj,aP e X.env)::aN es X.env:=by rfl) (z:(cM d (aN es X.env)).any (·.1)=aj:=by rfl):PE X (.Call (.Attribute o g m) (e::es) [] d) (EU X.K T r B t):=by intro i s f H Q I h;refine wpAny_Call_method_late N y M rfl (aL (P i s f H _ I h) λv w ⟨x,H1,n,j,ty,J⟩=>?_);obtain⟨Z,Y⟩:=E6 n j ty;refine⟨T,C,K,c,L,Z,Y,?_⟩;have l:=W d i w f H1 _ n J;rw[O]at l ⊢;refine Calls.callWith_builtin (by show(aj||(cM d (aN es X.env)).any (·.1))=aj;rw[z] <;> rfl) (Cb ?_);exact aL l λq u ⟨p,H2,I2,A,G⟩=>S i u f H2 x p v q Q I2 j A G
end
def qX(X:Cx)(f:String)(r:V->List V->Hp->VK->Prop):Prop :=
 ∀(d:List (af×Obj)) (s:ao) (a:St) (H:Hp) (x:V) (b:List V) (v:ah) (c:List ah) (Q:VK),Inv X d a H s->RelV x v->bh b c->r x b H Q ->
  aq (ar X.prog X.w) X.A (call (.builtin f) (v::c)) (EP X d a Q) X.xe s
theorem bh.one:∀{x:V}{a:List ah},bh [x] a->∃u,a=[u]/\RelV x u
 |_,_,.cons r .nil=>⟨_,rfl,r⟩
theorem bh.eraseIdx:∀{a:List V}{b:List ah} (i:Nat),bh a b->bh (a.eraseIdx i) (b.eraseIdx i)
 |_,_,_,.nil=>.nil
 |_,_,0,.cons _ t=>t
 |_,_,i+1,.cons r t=>.cons r (bh.eraseIdx i t)
theorem y8{a:Type}:∀(l:List a) (i:Nat),(l.eraseIdx i).length<=l.length
 |[],_=>aY _
 |_::_,0=>rh _
 |_::r,i+1=>Nat.succ_le_succ (y8 r i)
section
variable{X:Cx}{c:List (af×Obj)}{a:St}{H:Hp}{s:ao}{l b:af}{d ys g:List V}
theorem Inv.lset{h its':List ah}{n:Nat}{f:Array ah->Array ah}{i:Nat}(I:Inv X c a H s)(t:H l=aa (.lst d))(e:s.heap.get? l=aa {cls:=.type "list",data:=.seq h.toArray n}) (p:f h.toArray=its'.toArray) (m:bh ys its') (j:ys.length<=a9):Inv X c a (upd H l (.lst ys)) {s with heap:=s.heap.update l (fv f),toks:=i}:=by have q:=PySem.IsL.update e f;rw[p]at q;refine I.write (x:=l) (e:=l) (by rw[t];exact trivial) (.inl rfl) (λv u r o=>(mY s.heap (fv f) (fk r)).trans o) ⟨_,q⟩ ?_;exact⟨j,its',_,m,q⟩
theorem Inv.lnew{its:List ah}{t':Nat}(I:Inv X c a H s)(h:bh ys its)(f:ys.length<=a9):Inv X c a (upd H s.heap.objs.size (.lst ys)) {s with heap:=s.heap.push {cls:=.type "list",data:=.seq its.toArray},toks:=t'} :=I.laid (λ_ _ q=>bd _ q) (aY _) ⟨f,its,0,h,cg _ rfl⟩
theorem Inv.fresh(I:Inv X c a H s):H s.heap.objs.size=ae:=I.hok.fresh (aY _)
theorem Inv.lstM(I:Inv X c a H s)(h:H l=aa (.lst d)):d.length<=a9/\∃(f:List ah) (n:Nat),bh d f/\d.length=f.length/\s.heap.get? l=aa {cls:=.type "list",data:=.seq f.toArray n}:=by obtain⟨z,f,n,r,e⟩:=I.hok l _ h;exact⟨z,f,n,r,r.length,e⟩
theorem IL{n:Nat}(h:n<=a9):Cc n=aj:=by unfold Cc;exact decide_eq_false ∅
end
section
variable{X:Cx}
def Hc:V->List V->Hp->VK->Prop:=λx b H Q=>∃l a y,x=.ref l/\b=[y]/\H l=aa (.lst a)/\a.length<a9/\Q .non (upd H l (.lst (a++[y])))
theorem Ay:qX X "list.append" Hc:=by
 intro p s f H x i v j Q I b c h;obtain⟨l,g,y,rfl,rfl,a,m,q⟩:=h;cases b;obtain⟨u,rfl,d⟩:=c.one;obtain⟨z,its,n,r,o,e⟩:=I.lstM a;refine uR F.slot_list_append ⟨_,e,rfl⟩ F.entry_list_append (F.args_list_append_2 _ _) (PySem.list_append l its.toArray n u (by rw[bM];lia)) ⟨e,?_⟩;refine⟨.non,_,I.lset (its':=its++[u]) a e (by simp) (r.append (.cons d .nil)) ?_,rfl,q⟩;rw[ca,o8];lia
theorem GO{b:Type}(a:List b)(k:Nat):(cO k a).flatten.length=k*a.length:=by
 induction k with
 |zero=>simp
 |succ k c=>rw[Cd,List.flatten_cons,ca,c,xR,Nat.add_comm]
end
section
variable{a:Type}[DecidableEq a]
def ii(b:List (a×V))(k:a):Option V:=(b.find? λc=>decide (c.1=k)).map (·.2)
theorem A2{p:a×V}{r:List (a×V)}{k:a}(e:p.1=k):ii (p::r) k=aa p.2:=by simp[ii,rj,e]
theorem Aa{p:a×V}{r:List (a×V)}{k:a}(e:¬p.1=k):ii (p::r) k=ii r k:=by simp[ii,rj,e]
theorem oU.isSome_eq{o:Option V}{u:Option ah}(r:oU o u):o.isSome=u.isSome:=by
 cases o with
 |none=>cases u with
  |none=>rfl
  |some _=>exact(show False from r).elim
 |some _=>cases u with
  |none=>exact(show False from r).elim
  |some _=>rfl
end
section
variable{X:Cx}{d:List (af×Obj)}{c:St}{H:Hp}{s:ao}{a:af}{y v:V}{u r:ah}{o:Option V}{A:aM}{E:ah->ao->Prop}
theorem Inv.big(I:Inv X d c H s):oY<s.heap.objs.size:=by have h:bV<s.heap.objs.size:=(I.mod.glob.keeps I.bk).lt;exact xS (by decide) h
theorem DH{f:ay}{g:Nat}{ob:HO}(I:Inv X d c H s)(h:qk (H a))(i:jf a s.heap f)(j:∃q,f.get? a=aa q)(new:cW X.prog X.w (upd H a ob) f a ob):Inv X d c (upd H a ob) {s with heap:=f,toks:=g} :=I.write (x:=a) (e:=a) h (.inl rfl) (λb q l z=>(i.2 b l).trans z) j new
end
def wp(i:az):Prop:=∀ov a,xQ i aj ov a=operate [ov,a] (o5 ov a)
theorem J3{a:aK}{w:aD}{A:aM}{E:ah->ao->Prop}{s:ao}{m:Env}{c b:az}{q:Pos}{T u:String}{Q:ah->ao->Prop}(y:typeLookup (.type T) "__getitem__"=pure (aa (.builtin u))) (v:wp b)(h:aq (ar a w) A (aP c m) (λo j=>aq (ar a w) A (aP b m) (λi d=>d.TypeIs o T/\aq (ar a w) A (o5 o i) Q E d) E j) E s):aq (ar a w) A (aP (.Subscript c b q) m) Q E s:=by
 refine Subscript_ (dO h (λo j p=>dO p (λi d f=>?_) λ_ _ x=>x) λ_ _ x=>x);obtain⟨t,f⟩:=f;unfold subscriptTail;refine ap ?_;rw[getitemInPython_of_ne t.not_modules];refine ap (uS t y ?_);have l:aq (ar a w) A (xQ b aj o i) (λr g=>aq (ar a w) A (letTemporaryGo c o r >>= λ_=>pure r) Q E g) E d:=by rw[v o i];exact wpAny_operating (dO f (λr g n=>ap (wpAny_letTemporaryGo (aC n))) λ_ _ x=>x)
 first
  |exact aC (ap l)
  |exact ap (aC (ap l))
  |exact ap l
theorem G6{P:aK}{w:aD}{H:Hp}(h:ay)(a:oY<h.objs.size):cW P w H (h.push {cls:=.type "dict",data:=.dict #[]}) h.objs.size (.dT []) :=⟨kM _,beq_eq_false_iff_ne.mpr (fk (cD a)),[],.nil,_,#[],0,cg _ rfl,⟨rfl,rfl,rfl⟩,rfl,rfl,List.nodup_nil⟩
end L2
namespace Att
open PySem PySem.W PySem.Calls PyProof.Rows
theorem Ju{P:Params}{h:ay}:∀(c:List Int) (d:List ah),WellAll P h d (c.map WData.int)->IntsAre d c:=by
 intro c
 induction c with
 |nil=>
  intro d w;rw[List.map_nil]at w;cases w;exact .nil
 |cons n c f=>
  intro d w;rw[ji]at w;cases w with
  |cons a b=>
   cases a;exact .cons _ _ (f _ b)
theorem Kn{l:OpenLaw}{n:Nat}(x:l.most=aa n){P:Params}{h:ay}{args:List WData}{c:List ah}(m:l.row.toRowW.claim.pre args=ai) (i:WellAll P h c args):∃a j b,c=[Value.ref a]/\args=[WData.list (b.map WData.int)]/\h.get? a=aa {cls:=.type "list",data:=.seq j.toArray}/\IntsAre j b/\b.length<=n:=by
 have u:WShape.hasAll [] args [.list .int]=ai:=(pre_splitW m).1;have o:l.pre.holds [] {args:=args}=ai:=(pre_splitW m).2;obtain⟨d,r,rfl,A,z⟩:=hasAllW_cons u;obtain rfl:=hasAllW_nil z;obtain⟨C,rfl,y⟩:=hasW_list A;obtain⟨b,rfl⟩:=items_int y;have B:b.length<=n:=by
  unfold OpenLaw.pre at o;have g:(WTm.not (.lt (.lit (.int (n:Int))) (.len (.arg 0)))).holds [] {args:=[.list (b.map .int)]}=ai:=by have g:=(holds_andW o).1;rw[x]at g;exact g
  have f:=condW_of g (w_not (w_lt w_lit (w_len_list (w_arg rfl))));rw[eT]at f;refine Nat.le_of_not_lt λq=>?_;have t:(n:Int)<((b.length:Nat):Int):=∅
  first
   | (rw[decide_eq_true t]at f;exact absurd f (by decide))
   | (simp at f;lia)
 cases i with
 |cons s p=>
  cases p;cases s with
  |list w v=>exact⟨_,_,b,rfl,rfl,w,Ju b _ v,B⟩
theorem Hf(l:OpenLaw)(args:List WData):l.row.toRowW.claim.post args (.bool ai) args=ai :=
 postW_of (r:=l.row.toRowW) (X:=(ai == ai))
  (show WShape.has [] (.bool ai) .bool=ai by first|rfl|decide|simp[WShape.has,WShape.arms,WShape.armsAll])
  (show(WTm.eq .res (.lit (.bool ai))).value [] {args:=args,res:=aa (.bool ai),after:=args}=aa (.bool (ai == ai))from w_eq_bool (w_res rfl) w_lit) rfl
theorem attach_call{l:OpenLaw}{n:Nat}{q:aK}{g:List Str}{XP:(Str->Option ah)->ay->Prop}{C:aD->ay->Prop}{d:DefRec}(M:l.most=aa n) (I:d.params.defaults=[])(call:∀(w:aD) (c b:ao) (s v:Str->Option ah) (j:af) (o:Obj) (u t h:ah) (a:af) (i:List ah) (p:List Int),Ground q g [] XP w c s v b.heap->C w b.heap -> b.heap.get? j=aa o->o.data=.func (docDef d.name d.params d.body d.scope u t h)->b.heap.CodeRec t d.name->s d.name=aa (.ref j) -> b.heap.get? a=aa {cls:=.type "list",data:=.seq i.toArray}->IntsAre i p->p.length<=n->b.gens=#[] -> lH (ar l.prog w) o9 (.call (.ref j) ⟨[.ref a],[]⟩) (λr m=>r=.ok (.ret (.bool ai))/\OldK b.heap m.heap/\m.os=b.os/\kB m.gens) b):WalkO q g XP C l.row.toRowW d [] (λf i=>PySem.call f i):=by intro w c b s v G Y j o u t h dV kV L Q X A F P B y as H z J x O;obtain rfl:dV=.none:=Dflts.none A I;obtain rfl:kV=.none:=Dflts.noKw A;obtain⟨a,i,p,rfl,rfl,D,E,Z⟩:=Kn M H x;refine enter_call (uL (call w c b s v j o u t h a i p G Y L (fd_plain Q) X F D E Z P) λr m K=>?_);obtain⟨rfl,W,T,S⟩:=K;exact⟨.inl ⟨.bool ai,.bool ai,[],rfl,λ_=>rfl,.bool ai,Hf l _,λ_=>⟨List.Pairwise.nil,λ_ N=>(nomatch N)⟩⟩,W,T,S⟩
end Att
namespace L2
theorem yI:∀{a:List ah}{b:List Int},IntsAre a b->bh (b.map V.int) a
 |_,_,.nil=>.nil
 |_,_,.cons n t h=>.cons ⟨t,rfl⟩ (yI h)
def xf(H:Hp):Prop:=∀b,H b=ae\/(∃o a,H b=aa (.frz o (.lst a)))\/∃q,H b=aa (.tbl q)
def ie(K:au):Hp:=λb=>match jd K "least_ending" with
 |some (_,P)=>if b=P then aa (.tbl "least_ending.<locals>.<lambda>")else ae
 |none=>ae
theorem mG{K:au}{b:af}{u:HO}(h:ie K b=aa u):u=.tbl "least_ending.<locals>.<lambda>"/\∃c,jd K "least_ending"=aa (c,b):=by
 unfold ie at h;split at h
 .rename_i c P e;split at h
  .rename_i a;subst a;cases h;exact⟨rfl,c,e⟩
  .cases h
 .cases h
theorem zg{K:au}{c P:af}(h:jd K "least_ending"=aa (c,P)):ie K P=aa (.tbl "least_ending.<locals>.<lambda>"):=by unfold ie;rw[h];exact if_pos rfl
def yV(K:au)(h:ay):Prop:=∀c P,jd K "least_ending"=aa (c,P)->uT K c P=ai/\K.lookup P=ae/\h.get? P=aa {cls:=.none,data:=.fields #[]}
theorem G8{P:aK}{w:aD}{K:au}{J mb:Str->Option ah}{CX:eK}{k:Nat}{fa a:af}{fd:gh}{x:Str}{sp:Sp}{f:ao}{E:List ah}{L:List Int}(KX:K.In f.heap) (jo:f.heap.Ns bV J) (j:f.heap.Ns lE mb) (nv:∀x:Str,x≠"__name__"->mb x=dm x) (N:f.heap.NoLimit) (hbm:∃D A,J "__builtins__"=aa (.ref D)/\D≠lE/\f.heap.get? D=aa A/\A.cls=.type "module"/\A.dict=aa lE/\A.data=.plain) (B:yV K f.heap) (hg:f.gens=#[])(t:f.heap.get? a=aa {cls:=.type "list",data:=.seq E.toArray}) (hi:IntsAre E L) (hl:L.length<=a9) (hr:Room k o9)(F:∀p:ay,K.In p->p.Ns bV J->iZ P w K J p CX k fa fd [x] sp) (K7:∀(s:ao) (u:ah),BindsTo s fd ⟨[u],[]⟩ [(x,u)])(j6:∀H:Hp,xf H->bX K H a (L.map V.int)->sp [.ref a] H (λv _=>v=.bl ai) λ_ _ _=>False)(hCX:∀H e l,CX [] H f (λ_ _ _=>False) e l->False):lH (ar P w) o9 (.call (.ref fa) ⟨[.ref a],[]⟩) (λr l=>r=.ok (.ret (.bool ai))/\OldK f.heap l.heap/\l.os=f.os/\kB l.gens) f:=by
 have rv:=yI hi;have M:=hi.length;have C:∀H:Hp,xf H->bX K H a (L.map V.int)->cT P w H f.heap->(∀b,H b≠ae->b=a\/∃c,jd K "least_ending"=aa (c,b))->(H a≠ae->K.lookup a=ae)->sP K H ->
   lH (ar P w) o9 (.call (.ref fa) ⟨[.ref a],[]⟩) (λr l=>r=.ok (.ret (.bool ai))/\OldK f.heap l.heap/\l.os=f.os/\kB l.gens) f:=by
  intro H hO hS G X hK hTH;have g:∀{b:af}{o:Obj},f.heap.get? b=aa o->H b=ae->(kt f.heap H).get? b=aa o:=λe n=>Gv e n;have noA:∀{b:af}{o:Obj}{Q:Array DictEntry}{S:Nat},f.heap.get? b=aa o->o.data=.dict Q S->H b=ae:=λ{b o Q S} e d=>by
   cases q:H b with
   |none=>rfl
   |some u=>
    rcases X b (by rw[q];simp)with i|⟨c,i⟩
    .subst i;rw[t]at e;cases e;have d':Data.seq E.toArray _=Data.dict Q S:=d;cases d'
    .rw[(B c b i).2.2]at e;cases e;cases d
  have y:∀{b:af}{m:Str->Option ah},f.heap.Ns b m->(kt f.heap H).Ns b m:=λ{b m} ⟨o,Q,S,e,d,r⟩=>⟨o,Q,S,g e (noA e d),d,r⟩
  have O:K.In (kt f.heap H):=λb o e=>g (KX b o e) (by
   cases q:H b with
   |none=>rfl
   |some u=>
    rcases X b (by rw[q];simp)with i|⟨c,i⟩
    .subst i;rw[hK (by rw[q];simp)]at e;cases e
    .rw[(B c b i).2.1]at e;cases e)
  have hM:Mod K J (kt f.heap H):=⟨O,y jo,⟨mb,y j,nv⟩,(let ⟨mc,h1,h2⟩:=N;⟨mc,y h1,h2⟩),by
   obtain⟨D,A,b1,b2,W,b4,b5,b6⟩:=hbm;refine⟨D,A,b1,b2,g W ?_,b4,b5,b6⟩;cases q:H D with
   |none=>rfl
   |some u=>
    rcases X D (by rw[q];simp)with i|⟨c,i⟩
    .subst i;rw[t]at W;cases W;simp at b4
    .rw[(B c D i).2.2]at W;cases W;simp at b4⟩
  have e0:tu P w K J (kt f.heap H) o9 [] f H:=⟨rfl,hM,λb o e=>KO e,jQ (C4 _ _),trivial,λb j=>absurd (show b∈([]:List af)from j) (by simp),G,.of_eq hg,hTH⟩
  refine uL ((F _ O (y jo)).run o9 [] f H ⟨[.ref a],[]⟩ [.ref a] [.ref a] _ _ hr e0 (K7 f (.ref a)) (.cons rfl .nil) (j6 H hO hS)) λr l h=>?_;cases r with
  |error e=>exact(hCX H e l h).elim
  |ok fl=>
   cases fl with
   |next=>exact jP h
   |brk=>exact jP h
   |cont=>exact jP h
   |ret u=>
    obtain⟨v,H',os,T,un,CS,r',q⟩:=h;have q':v=.bl ai:=q;subst q';obtain rfl:u=Value.bool ai:=r';refine⟨rfl,⟨λb o e=>?_,λb o e=>un.there b o e (by simp)⟩,os,T⟩;cases q:H b with
    |none=>exact .inl (un.keep b o e q (by intro z;exact absurd (show b∈([]:List af)from z) (by simp)) (by simp))
    |some u=>
     rcases hO b with z|⟨A,xs,z⟩|⟨qn,z⟩
     .rw[q]at z;cases z
     .have z2:=un.frzs b A _ z;obtain⟨I,_⟩:=G b _ z;obtain⟨e2,_⟩:=CS b _ z2;rw[e]at I;cases I;exact .inl e2
     .rcases X b (by rw[q];simp)with i|⟨c,i⟩
      .subst i;obtain⟨ps,I,_⟩:=G b _ z;rw[t]at I;cases I
      .obtain⟨k1,k2,k3⟩:=B c b i;rw[k3]at e;cases e;obtain⟨oc,Y,_,_,_,_,_,_,_,f1,f2,f3,f4,_⟩:=PySem.W.codeHd_of_K KX k1;obtain⟨ps,I,_⟩:=CS b _ (un.tbls b _ z);exact .inr (.inl ⟨⟨c,oc,Y,f1,f2,f3,f4⟩,rfl,#[],ps,rfl,by rw[I];simp⟩)
 cases hk:K.lookup a with
 |some o=>
  have e:=KX a o hk;rw[t]at e;cases e;have tH:∀b u,ie K b=aa u->cW P w (ie K) f.heap b u:=λb u z=>by
   obtain⟨rfl,c,e⟩:=mG z;exact⟨#[],(B c b e).2.2,trivial,λZ cv h=>by cases h⟩
  refine C (ie K) (λb=>?_) (.inr ⟨_,E.toArray,_,hk,rfl,rfl,rfl,by rw[bM,M];exact hl,by simpa using rv⟩) tH (λb z=>?_) (λz=>?_) λx hx c P e=>?_
  .cases q:ie K b with
   |none=>exact .inl rfl
   |some u=>exact .inr (.inr ⟨_,congrArg aa (mG q).1⟩)
  .cases q:ie K b with
   |none=>exact absurd q z
   |some u=>exact .inr (mG q).2
  .cases q:ie K a with
   |none=>exact absurd q z
   |some u=>
    obtain⟨_,c,i⟩:=mG q;rw[(B c a i).2.2]at t;cases t
  .obtain rfl:x = "least_ending":=by simpa[qP]using hx
   exact zg e
 |none=>
  have ta:∀c P,jd K "least_ending"=aa (c,P)->P≠a:=λc P e z=>by subst z;rw[(B c P e).2.2]at t;cases t
  refine C (λb=>if b=a then aa (.frz {cls:=.type "list",data:=.seq E.toArray} (.lst (L.map V.int)))else ie K b) (λb=>?_) (.inl (.inr ⟨{cls:=.type "list",data:=.seq E.toArray},if_pos rfl⟩)) (λb u z=>?_) (λb z=>?_) (λ_=>hk) λx hx c P e=>?_
  .by_cases j:b=a
   .exact .inr (.inl ⟨_,_,if_pos j⟩)
   .cases q:ie K b with
    |none=>exact .inl ((if_neg j).trans q)
    |some u=>exact .inr (.inr ⟨_,(if_neg j).trans (q.trans (congrArg aa (mG q).1))⟩)
  .by_cases j:b=a
   .have z':=(if_pos j).symm.trans z;cases z';subst j;exact⟨t,by rw[eT];exact hl,E,_,rv,t⟩
   .obtain⟨rfl,c,e⟩:=mG ((if_neg j).symm.trans z);exact⟨#[],(B c b e).2.2,trivial,λZ cv h=>by cases h⟩
  .by_cases j:b=a
   .exact .inl j
   .cases q:ie K b with
    |none=>exact absurd ((if_neg j).trans q) z
    |some u=>exact .inr (mG q).2
  .obtain rfl:x = "least_ending":=by simpa[qP]using hx
   exact(if_neg (ta c P e)).trans (zg e)
theorem LD{l:xT}{n k:Nat}{q:aK}{c:List Str}{XP:(Str->Option ah)->ay->Prop}{D:aD->ay->Prop}{d:DefRec}{K:Params->au}{CX:aD->eK}{sp:aD->Sp}{x:Str}(P:l.most=aa n) (r:n<=a9) (M:d.params.defaults=[]) (O:Room k o9)(B:∀(w:aD) (h:ay),D w h->(K w.params).In h/\yV (K w.params) h)(F:∀(w:aD) (g:Str->Option ah) (m:af) (h:ay),(K w.params).In h->h.Ns bV g->g d.name=aa (.ref m) -> ∃y:gh,(∀(s:ao) (u:ah),BindsTo s y ⟨[u],[]⟩ [(x,u)]) /\ ∀b:ay,(K w.params).In b->b.Ns bV g->iZ l.prog w (K w.params) g b (CX w) k m y [x] (sp w))(N:∀(w:aD) (H:Hp) (a:af) (j:List Int),j.length<=n->xf H->bX (K w.params) H a (j.map V.int)->sp w [.ref a] H (λv _=>v=.bl ai) λ_ _ _=>False)(t:∀(w:aD) (H:Hp) (s:ao) (e:ah) (p:ao),CX w [] H s (λ_ _ _=>False) e p->False):PySem.W.WalkO q c XP D l.row.toRowW d [] (λf z=>PySem.call f z):=by refine Att.attach_call P M λw A i g mb m o pm cd Z a z j G Y ho hd bN L I J C Q=>?_;have E:=(B w _ Y).1;obtain⟨y,S,X⟩:=F w g m _ E G.T.g L;exact G8 E G.T.g G.T.b G.T.builtins G.T.nolimit G.T.bmain (B w _ Y).2 Q I J (cn C r) O X S (λH W T=>N w H a j C W T) λH e p=>t w H i e p
def iG(s:a8):o0:=match s with
 |.FunctionDef _ a _ _ _ _ _ _ _ _=>a
 |_=>{posonlyargs:=[],args:=[],vararg:=ae,kwonlyargs:=[],kw_defaults:=[],kwarg:=ae,defaults:=[]}
def fi(s:a8):List a8:=match s with
 |.FunctionDef _ _ b _ _ _ _ _ _ _=>b
 |_=>[]
def a6(s:a8):cL:=match s with
 |.FunctionDef _ _ _ _ _ _ a _ _ _=>a
 |_=>{kind:=.function,names:=[],isGenerator:=aj,isCoroutine:=aj}
abbrev E0:XK:=λ_ _ _=>False
structure mr(K:au)(x qual:Str)(st:a8)(f:af)(fd:gh):Prop where
 ex:∃(oc:ah) (od:Option af) (kV doc pm:ah) (an:Option af) (aS ct:ah) (osl:Array (Option ah)),
  fd=ir x qual (iG st) (fi st) (a6 st) .none kV doc pm an aS ct/\K.lookup f=aa ⟨oc,od,.func fd,osl⟩/\uP K aS qual=ai
 kp:q0 K (.ref f)=ai
section
variable{P:aK}{w:aD}{K:au}{b:Str->Option ah}{a:ay}
theorem mr.binds{x c:Str}{g:a8}{f:af}{p:gh}{j:List Str}(F:mr K x c g f p)(h:∀(kV d l:ah) (n:Option af) (o m:ah) (i:List ah),i.length=j.length->eF (ir x c (iG g) (fi g) (a6 g) .none kV d l n o m) ⟨i,[]⟩=pure (j.zip i)):Binds K p j []:=by obtain⟨oc,r,kV,d,l,n,o,m,q,rfl,s,t⟩:=F.ex;exact .all (h kV d l n o m)
theorem Bb{x d:Str}{g:a8}{f:af}{oc:ah}{p o:Option af}{i:Array (Option ah)}{kV h m j n:ah}(l:K.lookup f=aa ⟨oc,p,.func (ir x d (iG g) (fi g) (a6 g) .none kV h m o j n),i⟩)(c:uP K j d=ai) (k:q0 K (.ref f)=ai):mr K x d g f (ir x d (iG g) (fi g) (a6 g) .none kV h m o j n):=⟨⟨oc,p,kV,h,m,o,j,n,i,rfl,l,c⟩,k⟩
end
theorem Is{n:Nat}(h:n<=1000):n<a9:=xU h (by decide)
section
variable{X:Cx}
theorem pv(i:Nat){x:Str}{a:Pos}(d:X.N[i]?=aa x:=by rfl)(b:fE X.env.scope x:=by eq_refl)(c:(x==("__debug__":Str))=aj:=by decide)(f:(x==("__classdict__":Str))=aj:=by decide):PE X (.Name x a) (Br i):=gT d b c f
end
theorem nZ{A B:Prop}(h:B):if aj=ai then A else B:=by rw[if_neg d4];exact h
theorem oC{A B:Prop}(h:A):if ai=ai then A else B:=by rw[if_pos rfl];exact h
def Same(H a:Hp):Prop:=∀b o,H b=aa o->a b=aa o
theorem Same.refl(H:Hp):Same H H:=λ_ _ h=>h
theorem Same.trans{H f d:Hp}(a:Same H f)(b:Same f d):Same H d:=λc o h=>b c o (a c o h)
theorem Same.free{H a:Hp}(e:Same H a){l:af}(h:a l=Option.none):H l=Option.none:=by
 cases q:H l with
 |none=>rfl
 |some o=>
  rw[e l o q]at h;cases h
end L2
set_option maxHeartbeats 4000000
namespace L2
def fH(a:Env):List (Str×eR)->List (Str×af)->List (Str×af)
 |[],b=>b
 | (n,k)::r,b=>if k == .free then fH a r ((n,(a.cells.lookup n).getD 0)::b)else fH a r b
theorem JG{d:Env}{y:Str}{c:af}(b:List (Str×eR))(f:List (Str×af))(j:∀x∈b,x.2=.free->∃c,d.cells.lookup x.1=aa c)(h:(fH d b f).lookup y=aa c):f.lookup y=aa c\/d.cells.lookup y=aa c:=by
 induction b generalizing f with
 |nil=>exact .inl h
 |cons a r g=>
  obtain⟨n,k⟩:=a;unfold fH at h;have i:∀x∈r,x.2=.free->∃c,d.cells.lookup x.1=aa c:=λx m=>j x (iO _ m);split at h
  .rename_i o;obtain⟨s,l⟩:=j (n,k) (je ..) (by simpa using o);rcases g _ i h with q|q
   .rw[iR]at q;split at q
    .rename_i p;have e:y=n:=by simpa using p
     subst e;rw[l]at q;exact .inr (by rw[l];exact q)
    .exact .inl q
   .exact .inr q
  .exact g _ i h
theorem A9{a:Type}{n:Str}{v:a}{l:List (Str×a)}:((n,v)::l).lookup n=aa v:=by rw[iR];simp
theorem At{a:Type}{n y:Str}{v:a}{l:List (Str×a)}(h:∃c,l.lookup y=aa c):∃c,((n,v)::l).lookup y=aa c:=by
 rw[iR];split
 .exact⟨_,rfl⟩
 .exact h
theorem wH{d:Env}{y:Str}:∀(a:List (Str×eR)) (b:List (Str×af)),(∃c,b.lookup y=aa c)->∃c,(fH d a b).lookup y=aa c
 |[],b,h=>h
 | (n,k)::r,b,h=>by
  unfold fH;split
  .exact wH r _ (At h)
  .exact wH r _ h
theorem vy{g:Env}{y:Str}:∀(a:List (Str×eR)) (i:List (Str×af)),(∃x∈a,x.1=y/\x.2=.free)->∃c,(fH g a i).lookup y=aa c
 |[],i,⟨_,h,_⟩=>by simp at h
 | (n,k)::r,i,⟨x,b,f,d⟩=>by
  unfold fH;rcases bF.mp b with e|b
  .subst e;simp only at f d;subst f d;simp only[beq_self_eq_true,if_true];exact wH r _ ⟨_,A9⟩
  .split
   .exact vy r _ ⟨x,b,f,d⟩
   .exact vy r _ ⟨x,b,f,d⟩
theorem wY{b:Env}:∀(a:List (Str×eR)) (g:List (Str×af)),(∀x∈a,x.2=.free->∃c,b.cells.lookup x.1=aa c) -> (forIn (m:=Sem) a g λx r=>match x with | (d,f)=>if(f == NameKind.free)=ai then do let c <-cellOf b d;pure (ForInStep.yield ((d,c)::r))else pure (ForInStep.yield r))=pure (fH b a g)
 |[],g,_=>rfl
 | (n,k)::r,g,h=>by
  have j:∀x∈r,x.2=.free->∃c,b.cells.lookup x.1=aa c:=λx o=>h x (iO _ o);rw[List.forIn_cons];unfold fH;by_cases i:(k == NameKind.free)=ai
  .obtain⟨c,l⟩:=h (n,k) (je ..) (by simpa using i);simp only[i,if_true];have e:cellOf b n=pure c:=by unfold cellOf;rw[l]
   rw[e];simp only[pure_bind];rw[wY r _ j,l];rfl
  .simp only[i,if_false,pure_bind];exact wY r _ j
theorem JX{a:cL}{b:Env}(h:∀x∈a.names,x.2=.free->∃c,b.cells.lookup x.1=aa c):uU a b=pure (fH b a.names []):=by unfold uU;have q:=wY a.names [] h;simp only[bind_pure_comp]at q ⊢;rw[q];rfl
theorem uq{n c:Nat}(b:n+1<=c)(a:c<n):False:=∅
theorem vE:∀(c:List (Str×eR)) (n:Nat) (a b:List (Str×af)),d7 n c (a++b)=d7 n c a++b
 |[],_,_,_=>rfl
 | (x,k)::r,n,a,b=>by
  unfold d7;split
  .exact vE r (n+1) ((x,n)::a) b
  .exact vE r n a b
theorem sW{y:Str}{c:af}:∀(b:List (Str×eR)) (n:Nat) (a:List (Str×af)),(y,c)∈d7 n b a->(y,c)∈a\/(y,.cell)∈b
 |[],_,_,h=>.inl h
 | (x,k)::r,n,a,h=>by
  unfold d7 at h;split at h
  .rename_i d;rcases sW r _ _ h with z|z
   .rcases bF.mp z with z|z
    .cases z;have e:k=.cell:=by simpa using d
     subst e;exact .inr (je ..)
    .exact .inl z
   .exact .inr (iO _ z)
  .rcases sW r _ _ h with z|z
   .exact .inl z
   .exact .inr (iO _ z)
theorem xw{y:Str}:∀(b:List (Str×eR)) (n:Nat) (a:List (Str×af)),(∃c,a.lookup y=aa c)->∃c,(d7 n b a).lookup y=aa c
 |[],_,_,h=>h
 | (x,k)::r,n,a,h=>by
  unfold d7;split
  .exact xw r _ _ (At h)
  .exact xw r _ _ h
theorem uD{y:Str}:∀(b:List (Str×eR)) (n:Nat) (a:List (Str×af)),(y,.cell)∈b->∃c,(d7 n b a).lookup y=aa c
 | (x,k)::r,n,a,h=>by
  unfold d7;rcases bF.mp h with e|h
  .cases e;exact xw r _ _ ⟨_,A9⟩
  .split
   .exact uD r _ _ h
   .exact uD r _ _ h
def jx(X:Cx)(a:cL)(C:af):List (Str×af):=d7 (C+1) a.names (fH X.env a.names [])
theorem wz(X:Cx)(a:cL)(C:af):jx X a C=d7 (C+1) a.names []++fH X.env a.names []:=vE a.names (C+1) [] _
theorem GT{M:Model}{A:aM}{E:ah->ao->Prop}{s:ao}{a:cL}{b:af}{j:List (Str×af)}{c:Str}{f:Env}{Q:Env->ao->Prop}(l:Q (newEnv a s.heap.objs.size b (d7 (s.heap.objs.size+1) a.names j) c ae .none (aa f) lE) {s with heap:=pushCells (s.heap.push {cls:=.type "dict",data:=.dict #[]}) a.names}):aq M A (newFunctionEnv a b j [] c ae .none (aa f)) Q E s:=by
 simp only[newFunctionEnv,Option.isSome_some,if_true];refine ap (wpAny_alloc ?_);refine ap (wpAny_layCells _ (λi d h=>by cases g:d == NameKind.cell <;> simp[g]) _ _ _ _ ?_);rw[show({s with heap:=s.heap.push {cls:=.type "dict",data:=.dict #[]}}:ao).heap.objs.size=s.heap.objs.size+1 from xV ..];refine ap ?_;rw[List.forIn_nil];exact aC (aC l)
theorem zw{s:ao}{a:List (Str×eR)}{y:Str}{c:af}(h:(y,c)∈d7 (s.heap.objs.size+1) a []):(pushCells (s.heap.push {cls:=.type "dict",data:=.dict #[]}) a).IsCell c ae/\s.heap.objs.size+1<=c/\∀z,(z,c)∈d7 (s.heap.objs.size+1) a []->y=z:=by have ok:=cellsFrom_ok a (s.heap.push {cls:=.type "dict",data:=.dict #[]}) (s.heap.objs.size+1) [] ⟨λ_ _ d=>(nomatch d),List.Pairwise.nil⟩ (by rw[xV];exact aY _);rw[xV]at ok;exact⟨(ok.empty y c h).1,(ok.empty y c h).2,λz b=>name_of_addr ok.apart h b⟩
def cH(X:Cx)(a:cL)(b:List Str)(C:af)(s₀:ao)(H₀:Hp)(ex:List af)(pn:List (af×Obj)):Cx where
 prog:=X.prog
 w:=X.w
 K:=X.K
 mg:=X.mg
 base:=X.base
 A:=X.A
 N:=b
 s₀:=s₀
 H₀:=H₀
 env:=compEnvC a (jx X a C) C X.env
 outer:=X.stack
 stack:=X.stack
 ex:=ex
 fn:=λy=>a.names.lookup y == aa .cell
 calm:=X.calm
 pn:=X.pn++pn
 xe:=λ_ _=>False
def fG(b:St)(a:List Nat):St:=a.map λi=>(b[i]?).join
structure jC(X:Cx)(scope:cL)(x:Str)(N':List Str)(cap:List Nat):Prop where
 kind:scope.kind=.function
 cells:∀y∈scope.names,y.2=.cell->scope.names.lookup y.1=aa .cell
 names:∀y∈scope.names,y.2=.local->scope.names.lookup y.1=aa .local
 loc:scope.names.lookup x=aa .local\/scope.names.lookup x=aa .cell
 free:∀y∈scope.names,y.2=.free->X.env.kindOf y.1=aa .cell\/X.env.kindOf y.1=aa .free
 nd:N'.Nodup
 hd:N'.head?=aa x
 len:N'.length=cap.length+1
 caps:∀i j y,N'[i+1]?=aa y->cap[i]?=aa j->(X.N[j]?=aa y/\scope.names.lookup y=aa .free)\/(X.N.length<=j/\scope.names.lookup y=aa .local)
theorem Hn{a:List (Str×eR)}{y:Str}{k:eR}(h:a.lookup y=aa k):∃x∈a,x.1=y/\x.2=k:=⟨(y,k),jg h,rfl,rfl⟩
theorem wc{a:Env}{x:Str}:∀{b:List (Str×eR)}{k:eR}, (b.map λ(n,k)=>if(k == NameKind.free&&a.scope.kind == .function&&a.kindOf n == aa .cell)then(n,NameKind.cell)else(n,k)).lookup x=aa k -> ∃f,b.lookup x=aa f/\(k=f\/(f=.free/\k=.cell))
 |[],_,h=>by simp at h
 | (n,c)::r,k,h=>by
  change xW x ((if(c == NameKind.free&&a.scope.kind == .function&&a.kindOf n == aa .cell)=ai then(n,NameKind.cell)else(n,c))::_)=_ at h;rw[iR];by_cases d:(c == NameKind.free&&a.scope.kind == .function&&a.kindOf n == aa .cell)=ai
  .rw[if_pos d,iR]at h;split at h
   .rename_i g;cases h;have:c=.free:=by simp at d;exact d.1.1
    exact⟨c,rfl,.inr ⟨this,rfl⟩⟩
   .exact wc h
  .rw[if_neg d,iR]at h;split at h
   .rename_i g;cases h;exact⟨c,rfl,.inl rfl⟩
   .exact wc h
theorem xy{a:Env}{x:Str}:∀{b:List (Str×eR)},b.lookup x=aa .free -> let q:=(b.map λ(n,k)=>if(k == NameKind.free&&a.scope.kind == .function&&a.kindOf n == aa .cell)then(n,NameKind.cell)else(n,k)).lookup x
  q=aa .cell\/q=aa .free
 |[],h=>by simp at h
 | (n,c)::r,h=>by
  show xW x ((if(c == NameKind.free&&a.scope.kind == .function&&a.kindOf n == aa .cell)=ai then(n,NameKind.cell)else(n,c))::_)=_\/xW x ((if(c == NameKind.free&&a.scope.kind == .function&&a.kindOf n == aa .cell)=ai then(n,NameKind.cell)else(n,c))::_)=_;rw[iR]at h;by_cases f:(c == NameKind.free&&a.scope.kind == .function&&a.kindOf n == aa .cell)=ai
  .rw[if_pos f,iR];cases d:x == n with
   |true=>exact .inl rfl
   |false=>rw[d]at h;exact xy h
  .rw[if_neg f,iR];cases d:x == n with
   |true=>rw[d]at h;cases h;exact .inr rfl
   |false=>rw[d]at h;exact xy h
theorem wd{a:Env}{x:Str}:∀{b:List (Str×eR)},b.lookup x=aa .cell -> (b.map λ(n,k)=>if(k == NameKind.free&&a.scope.kind == .function&&a.kindOf n == aa .cell)then(n,NameKind.cell)else(n,k)).lookup x=aa .cell
 |[],h=>by simp at h
 | (n,d)::r,h=>by
  show xW x ((if(d == NameKind.free&&a.scope.kind == .function&&a.kindOf n == aa .cell)=ai then(n,NameKind.cell)else(n,d))::_)=_;rw[iR]at h;by_cases f:(d == NameKind.free&&a.scope.kind == .function&&a.kindOf n == aa .cell)=ai
  .rw[if_pos f,iR];cases c:x == n with
   |true=>rfl
   |false=>rw[c]at h;exact wd h
  .rw[if_neg f,iR];cases c:x == n with
   |true=>rw[c]at h;cases h;rfl
   |false=>rw[c]at h;exact wd h
section
variable{X:Cx}{w:List (af×Obj)}{t:St}{H:Hp}{s:ao}{f:cL}{x:Str}{A:List Str}{g:List Nat}
theorem Inv.freeHas(I:Inv X w t H s)(B:jC X f x A g):∀y∈f.names,y.2=.free->∃c,X.env.cells.lookup y.1=aa c:=λy a e=>I.ok.has y.1 (B.free y a e)
theorem Inv.clIn(I:Inv X w t H s)(B:jC X f x A g){y:Str}{c:af}(h:(fH X.env f.names []).lookup y=aa c):X.env.cells.lookup y=aa c:=by
 rcases JG f.names [] (I.freeHas B) h with q|q
 .simp at q
 .exact q
theorem Inv.cbIn(I:Inv X w t H s)(B:jC X f x A g){C:af}{y:Str}{c:af}(h:(jx X f C).lookup y=aa c):((y,c)∈d7 (C+1) f.names []/\f.names.lookup y=aa .cell)\/((fH X.env f.names []).lookup y=aa c/\X.env.cells.lookup y=aa c):=by
 rw[wz,Ce]at h;cases e:(d7 (C+1) f.names []).lookup y with
 |none=>rw[e]at h;exact .inr ⟨h,I.clIn B h⟩
 |some a=>
  rw[e]at h;cases h;have m:=jg e;rcases sW _ _ _ m with z|z
  .cases z
  .exact .inl ⟨m,B.cells _ z rfl⟩
theorem Inv.cbOld(I:Inv X w t H s)(B:jC X f x A g){C:af}{y:Str}{c:af}(h:(fH X.env f.names []).lookup y=aa c)(a:f.names.lookup y=aa .free):(jx X f C).lookup y=aa c:=by
 rw[wz,Ce];cases e:(d7 (C+1) f.names []).lookup y with
 |none=>exact h
 |some b=>
  rcases sW _ _ _ (jg e)with z|z
  .cases z
  .have:=B.cells _ z rfl;rw[a]at this;cases this
theorem Inv.block{fp:List af}{D:ay}{m:Str->Option ah}{t':Nat}(hh:D=pushCells (s.heap.push {cls:=.type "dict",data:=.dict #[]}) f.names)(I:Inv X w t H s)(B:jC X f x A g)(W:∀b∈fp,jb X w H b)(Z:∀b∈fp,∃o,s.heap.get? b=aa o)(jo:D.Ns s.heap.objs.size m)(E:∀b o,s.heap.get? b=aa o->D.get? b=aa o):Inv (cH X f A s.heap.objs.size s H fp w) [] (ae::fG t g) H {s with heap:=D,toks:=t'}:=by
 have M:∀x c,X.env.cells.lookup x=aa c->c<s.heap.objs.size:=λx c e=>(I.cell x c e).elim λv q=>q.lt;have C:∀{y:Str}{c:af},(y,c)∈d7 (s.heap.objs.size+1) f.names []->D.IsCell c ae/\s.heap.objs.size+1<=c/\∀z,(z,c)∈d7 (s.heap.objs.size+1) f.names []->y=z:=λh=>by rw[hh];exact zw h
 have lk:∀y k,(compEnvC f (jx X f s.heap.objs.size) s.heap.objs.size X.env).kindOf y=aa k->∃N,f.names.lookup y=aa N/\(k=N\/(N=.free/\k=.cell)):=λy k h=>wc h;have G:∀y,f.names.lookup y=aa .free->∃c,(fH X.env f.names []).lookup y=aa c:=λy h=>vy f.names [] (Hn h);have nfs:∀b∈eu X.stack,b≠s.heap.objs.size:=λb F e=>by
  rcases bF.mp (I.stkSub b F)with z|z
  .exact absurd I.lt (by rw[<-z,e];exact gf _)
  .exact I.nofs (jQ e.symm) z
 refine⟨⟨I.ok.mod,B.kind,I.ok.glob,I.ok.blt,aY _,λy z c h1 h2=>?_,λy O=>?_,λy c h lV=>?_,I.ok.hd,I.ok.frames,.inl rfl,λb F=>?_,λb o e=>I.bs b o e,cn I.ok.bsz I.sz,λb o e F=>?_,λb F hf=>?_,I.stack,(λb F=>I.stkFree b F),I.tab⟩,rfl,I.bare,Un.kept E,⟨m,jo,λi y v e1 Q e3=>?_⟩,λy c h=>?_,I.hok.fresh (aY _),λy c h=>?_,λp hp=>?_,I.hok.kept E,?_⟩
 .-- inj
  rcases I.cbIn B h1 with⟨a1,a2⟩|⟨a1,a2⟩ <;> rcases I.cbIn B h2 with⟨b1,b2⟩|⟨b1,b2⟩
  .exact(C a1).2.2 z b1
  .exact(uq (C a1).2.1 (M _ _ b2)).elim
  .exact(uq (C b1).2.1 (M _ _ a2)).elim
  .exact I.ok.inj y z c a2 b2
 .-- has
  show ∃c,(jx X f s.heap.objs.size).lookup y=aa c;have j7:f.names.lookup y=aa .free->∃c,(jx X f s.heap.objs.size).lookup y=aa c:=λq=>(G y q).imp λc hc=>I.cbOld B hc q;rcases O with O|O
  .obtain⟨N,q,z|⟨z,_⟩⟩:=lk y _ O
   .subst z;exact uD _ _ _ (jg q)
   .subst z;exact j7 q
  .obtain⟨N,q,z|⟨_,z⟩⟩:=lk y _ O
   .subst z;exact j7 q
   .cases z
 .-- cab
  have hk:f.names.lookup y=aa .cell:=by simpa using(show(f.names.lookup y == aa .cell)=ai from h)
  show s.heap.objs.size<=c;rcases I.cbIn B lV with⟨a1,a2⟩|⟨a1,a2⟩
  .have:=(C a1).2.1;lia
  .obtain⟨c',P⟩:=uD (n:=s.heap.objs.size+1) (a:=[]) _ (jg hk);have e:(jx X f s.heap.objs.size).lookup y=aa c':=by rw[wz,Ce,P];rfl
   have Q:(jx X f s.heap.objs.size).lookup y=aa c:=lV;rw[e]at Q;cases Q;have:=(C (jg P)).2.1;lia
 .-- exf
  obtain⟨f0,f1,f2,f3,f4,f5⟩:=W b F;obtain⟨o,K⟩:=Z b F;refine⟨λe=>absurd (bw K) (by rw[e];exact gf _),λy c h=>?_⟩;rcases I.cbIn B h with⟨a1,a2⟩|⟨a1,a2⟩
  .rintro rfl;exact uq (C a1).2.1 (bw K)
  .exact f4 y c a2
 .-- noex
  obtain⟨f0,f1,f2,f3,f4,f5⟩:=W b F;rcases f3 with z|z
  .exact I.ok.noex b o e z
  .exact absurd (eE (bw e) (cn I.ok.bsz z)) (gf _)
 .-- exfs
  obtain⟨f0,f1,f2,f3,f4,f5⟩:=W b F;rcases bF.mp (I.stkSub b hf)with z|z
  .exact f1 z
  .exact f2 z
 .-- loc
  cases i with
  |zero=>simp at Q
  |succ i=>
   have J:(fG t g)[i]?=aa (aa v):=by simpa using Q
   unfold fG at J;rw[iq]at J;cases Y:g[i]? with
   |none=>rw[Y]at J;cases J
   |some j=>
    rw[Y]at J;have S:(t[j]?).join=aa v:=dA J;have e5:t[j]?=aa (aa v):=by
     cases hq:t[j]? with
     |none=>rw[hq]at S;cases S
     |some o=>rw[hq]at S;exact congrArg aa S
    obtain⟨b1,b2⟩:=(B.caps i j y e1 Y).elim id λz=>by have:=(cE.mp e5).1;rw[I.len]at this;exact absurd this (Nat.not_lt.mpr z.1)
    obtain⟨mm,hn,hl⟩:=I.loc;have rK:=B.free _ (jg b2) rfl;have T:fE X.env.scope y:=by
     rcases rK with z|z
     .exact .inr (.inl z)
     .exact .inr (.inr z)
    obtain⟨u,r,l⟩:=hl j y v b1 e5 T;refine⟨u,r,.inr ⟨xy b2,?_⟩⟩;rcases l with⟨l,_⟩|⟨_,c,hc,vk⟩
    .rcases rK with z|z
     .rw[l]at z;cases z
     .rw[l]at z;cases z
    .obtain⟨c',P⟩:=G y b2;have e6:=I.clIn B P;rw[hc]at e6;cases e6;obtain⟨L,K,hd⟩:=vk;exact⟨c,I.cbOld B P b2,L,E c L K,hd⟩
 .rcases I.cbIn B h with⟨a1,a2⟩|⟨a1,a2⟩
  .exact⟨ae,(C a1).1⟩
  .obtain⟨v,L,K,hd⟩:=I.cell y c a2;exact⟨v,L,E c L K,hd⟩
 .rcases I.cbIn B h with⟨a1,a2⟩|⟨a1,a2⟩
  .exact I.hok.fresh (cn (rh _) (C a1).2.1)
  .exact I.freeC y c a2
 .have gm:p∈X.pn++w:=by simpa[cH]using hp
  obtain⟨e,n,ne,nf,d⟩:=I.pin p gm;refine⟨E _ _ e,n,cD (bw e),λhf=>?_,d⟩;rcases bF.mp (I.stkSub p.1 hf)with z|z
  .exact ne z
  .exact nf z
 .show(ae::fG t g).length=A.length;rw[B.len];simp[fG]
end
def t6(X:Cx)(b:List az)(t:TT):Prop :=
 ∀(d:List (af×Obj)) (s:ao) (a:St) (H:Hp) (Q:Bool->Hp->Prop),Inv X d a H s->t a H Q ->
  aq (ar X.prog X.w) X.A (forIn b ai λc r=>if r=ai then do let ok <-kD c X.env (aP c X.env);pure (ForInStep.yield ok)else pure (ForInStep.yield r)) (TP X d a Q) X.xe s
theorem E9{P:aK}{w:aD}{A:aM}{R:Result->ao->Prop}{s:ao}{m q i:az}{l:List az}{g:cL}{p:Pos}{t B:ah}{d:Env}(J:Nat->ao->Prop)(n:∀k o,J k o->aq (ar P w) A (pyNext t) (λr z=>match r with
   |none=>R (.ok .next) z
   |some v=>aq (ar P w) A (xK q t v) (λ_ F=>aq (ar P w) A (assign q d v) (λ_ E=>aq (ar P w) A (forIn l ai λc r=>if r=ai then do let ok <-kD c d (aP c d);pure (ForInStep.yield ok)else pure (ForInStep.yield r)) (λb u=>if b=ai then aq (ar P w) A (aP m d) (λy D=>aq (ar P w) A (call (.builtin "list.append") [B,y]) (λ_ C=>∃j,j<k/\J j C) (λ_ _=>False) D) (λ_ _=>False) u else ∃j,j<k/\J j u) (λ_ _=>False) E) (λ_ _=>False) F) (λ_ _=>False) z) (λ_ _=>False) o) (k:Nat) (h:J k s) :
  lH (ar P w) A (.compLoop (.ListComp m [⟨q,i,l,0⟩] g p) 0 t B d) R s:=by
 refine codeAny_loop rfl J (λj o I=>?_) k h;show aq _ A (Sem.onRaise (compTurn (.ListComp m [⟨q,i,l,0⟩] g p) 0 t B d) (λx=>do noteFrame x d;theTreesLotGoes x)) _ _ o;refine wpAny_noted ?_;rw[compTurn_list];have no:∀(O:ah->ao->Prop) (a:ah) (b:ao),False->O a b:=λ_ _ _ f=>f.elim;refine ap (wpAny_standAt (ap (dO (n j o I) (λr z H=>?_) (no _))));cases r with
 |none=>exact aC H
 |some v=>
  refine ap (dO H (λ_ F N=>ap (dO N (λ_ E M=>ap (dO M (λb u G=>?_) (no _))) (no _))) (no _));cases b with
  |true=>exact ap (ap (dO G (λy D L=>ap (dO L (λ_ C K=>aC (aC ⟨rfl,K⟩)) (no _))) (no _)))
  |false=>exact aC ⟨rfl,G⟩
def EO:TT:=λ_ H Q=>Q ai H
theorem FJ{X:Cx}:t6 X [] EO:=λ_ _ _ H _ I h=>wpAny_tests_nil ⟨H,I,h⟩
theorem KC{X:Cx}{c:az}{t:TT}(h:PT X c t):t6 X [c] t:=λd s a H Q I b=>wpAny_tests_one (h d s a H Q I b)
def BQ(q:TI)(h:V->Hp->St->Prop)(k:Nat)(r:TT)(s:TE)(d:List Nat):TE:=λg H Q=>q g H λJ p=>∀l,p l=ae->∃W:Nat->Nat->List V->Hp->Prop,(∃m,W 0 m [] (upd p l (.lst [])))/\∀i m a H,W i m a H ->
 (J.stop i H/\Q (.ref l) H)\/(J.go i H/\∀v j,J.yld i H v j->∃f,f.length=k+1/\h v j f/\r (f++(fG g d).drop k) j λb o=>if b=ai then s (f++(fG g d).drop k) o λy n=>n l=aa (.lst a)/\a.length<a9/\∃c,c<m/\W (i+1) c (a++[y]) (upd n l (.lst (a++[y]))) else ∃c,c<m/\W (i+1) c a o)
def BU:V->Hp->St->Prop:=λv _ a=>a=[aa v]
abbrev BN(b:TI)(c:TT)(d:TE)(a:List Nat):TE:=BQ b BU 0 c d a
section
variable{X:Cx}{m:List (af×Obj)}{t:St}{H:Hp}{s:ao}{g:cL}{x:Str}{j:List Str}{l:List Nat}
theorem Inv.unblock{r:List af}{p:Hp}{w:St}{s':ao}{h:ay}(I:Inv X m t H s)(D:∀b∈r,jb X m H b)(a:Inv (cH X g j s.heap.objs.size s H r m) [] w p s') (sb:jf s.heap.objs.size s'.heap h):Inv X m t p {s' with heap:=h}:=by
 have k:∀b o,b≠s.heap.objs.size->s'.heap.get? b=aa o->h.get? b=aa o:=λb o f e=>(sb.2 b f).trans e;have y:∀b o,s.heap.get? b=aa o->b≠s.heap.objs.size:=λb o e=>cD (bw e);have un:Un (eu X.stack) r H p s.heap h:=by
  refine⟨λb o e n f d=>k b o (y b o e) (a.base.keep b o e n f d),λb o e n f d=>?_,λb o e n d=>a.base.free b o e n d,λb o e d=>?_,a.base.tups,a.base.frzs,a.base.tbls⟩
  .obtain⟨C,q⟩:=a.base.slot b o e n f d;exact⟨C,k b _ (y b o e) q⟩
  .obtain⟨B,q⟩:=a.base.there b o e d;exact⟨B,k b B (y b o e) q⟩
 have A:cT X.prog X.w p h:=λb u e=>by
  have i:p s.heap.objs.size=ae:=a.free;refine(a.hok b u e).stay (λc v E q=>k c v ?_ q) (λ_ q=>q) λ_ _ q=>q;rintro rfl;rcases E with z|z
  .rw[<-z,i]at e;cases e
  .rw[i]at z;cases z
 refine I.call' (s':={s' with heap:=h}) (ch:=r) a.os un A a.bare λb f=>?_;obtain⟨J,G,f2,f3,f4,F⟩:=D b f;exact⟨f3,G,f4,F⟩
theorem IX{elt F tg:az}{pos pos':Pos}{ifs:List az}{wi:TI}{tgf:V->Hp->St->Prop}{k:Nat}{ts:TT}{te:TE}{use:Option (ah->Sem Unit)}{Q:ah->ao->Prop}{Qp:VK}(B:jC X g x j l)(hk:k<=l.length)(hc:X.calm=ai)(hi:PI X tg F wi)(c8:∀C E G ex pn,PG (cH X g j C E G ex pn) tg λv N H Q=>∃S,S.length=k+1/\N.length=j.length/\tgf v H S/\Q (S++N.drop (k+1)) H)(ht:∀C E G ex pn,t6 (cH X g j C E G ex pn) ifs ts) (he:∀C E G ex pn,PE (cH X g j C E G ex pn) elt te) (hs:∀x,uG F X.env x=pure x) (I:Inv X m t H s) (h:BQ wi tgf k ts te l t H Qp)(fin:∀{w s6:ao}{O H5:Hp}{K σ5 a f},Inv X m t O w->(∀b∈K,jb X m O b)->Inv (cH X g j w.heap.objs.size w O K m) [] σ5 H5 s6->Qp (.ref a) H5->compPost (ar X.prog X.w) X.A X.xe use Q (.ref a) w.heap.objs.size (.ok f) s6):aq (ar X.prog X.w) X.A (comprehension (.ListComp elt [⟨tg,F,ifs,0⟩] g pos) g X.env pos' (newList []) aj (aP F X.env) use) Q X.xe s:=by
 refine wpAny_comprehension_free (use:=use) rfl hs (JX (I.freeHas B)) B.kind B.names (aL (hi m s t H _ I h) λv s1 h1=>aL h1 λitv D h2=>?_);obtain⟨it,K,tn,J,H2,e,I2,T,aQ,f2,h2⟩:=h2;subst e;refine kL ?_;have I3:Inv X m t (upd H2 D.heap.objs.size (.lst [])) {D with heap:=D.heap.push {cls:=.type "list",data:=.seq ([]:List ah).toArray},toks:=D.toks}:=I2.lnew (its:=[]) (t':=D.toks) .nil (kM _);obtain⟨W,⟨m0,w0⟩,turn⟩:=h2 D.heap.objs.size I2.fresh;generalize lX:({D with heap:=D.heap.push {cls:=.type "list",data:=.seq ([]:List ah).toArray},toks:=D.toks}:ao)=w at I3;have hs3':({D with heap:=D.heap.push {cls:=.type "list",data:=.seq ([]:List ah).toArray}}:ao)=w:=lX;generalize hH3:upd H2 D.heap.objs.size (.lst [])=O at I3 w0;have nl:∀b∈K,b≠D.heap.objs.size:=λb A e=>by obtain⟨o,ho,_⟩:=T.obj _ _ aQ b A;exact absurd (bw ho) (by rw[e];exact gf _)
 have k3:∀b o,D.heap.get? b=aa o->w.heap.get? b=aa o:=λb o e=>by rw[<-lX];exact bd _ e
 have f3:∀b∈K,jb X m O b:=λb A=>⟨by rw[<-hH3,b7 (nl b A)];exact(f2 b A).1,(f2 b A).2⟩
 have bf:tn 0 w.heap:=T.keep _ _ _ aQ λb _ o e=>k3 b o e;have fo3:∀b∈K,∃o,w.heap.get? b=aa o:=λb A=>(T.obj _ _ bf b A).imp λo q=>q.1;refine GT ?_;generalize hh:pushCells (w.heap.push {cls:=.type "dict",data:=.dict #[]}) g.names=h₁;have old:∀b o,w.heap.get? b=aa o->h₁.get? b=aa o:=λb o e=>hh ▸ pushCells_keeps _ _ b o (bd _ e);have jo:h₁.Ns w.heap.objs.size (λ_=>ae):=hh ▸ (Heap.Ns.new w.heap (.type "dict")).keeps (pushCells_keeps _ _);have I4:=Inv.block (t':=w.toks) hh.symm I3 B f3 fo3 jo old;have bu:tn 0 h₁:=T.keep _ _ _ bf λb _ o e=>old b o e;have L:∀{H':Hp},(∀b∈K,H' b=ae)->∀b∈K,jb (cH X g j w.heap.objs.size w O K m) [] H' b:=λhn b A=>by
  obtain⟨f0,f1,f2',f3',f4,f5⟩:=f3 b A;refine⟨hn b A,λe=>?_,λhf=>?_,.inl A,λy c h=>?_,λp hp=>f5 p (by simpa[cH]using hp)⟩
  .obtain⟨o,ho⟩:=fo3 b A;exact absurd (bw ho) (by rw[show b=w.heap.objs.size from e];exact gf _)
  .rcases bF.mp (I3.stkSub b hf)with z|z
   .exact f1 z
   .exact f2' z
  .rcases I3.cbIn B h with⟨a1,a2⟩|⟨a1,a2⟩
   .rintro rfl;obtain⟨o,ho⟩:=fo3 _ A;exact uq (zw a1).2.1 (bw ho)
   .exact f4 y c a2
 have Y:lH (ar X.prog X.w) X.A (.compLoop (.ListComp elt [⟨tg,F,ifs,0⟩] g pos) 0 (.ref it) (.ref D.heap.objs.size) (compEnvC g (jx X g w.heap.objs.size) w.heap.objs.size X.env))
   (compPost (ar X.prog X.w) X.A X.xe use Q (.ref D.heap.objs.size) w.heap.objs.size) {w with heap:=h₁,toks:=w.toks}:=by
  refine E9 (λn s'=>∃i P N H',(∃pre:St,pre.length=k+1/\N=pre++(fG t l).drop k)/\Inv (cH X g j w.heap.objs.size w O K m) [] N H' s'/\tn i s'.heap/\(∀b∈K,H' b=ae)/\W i n P H') ?_ m0
   ⟨0,[],_,O,⟨(ae::fG t l).take (k+1),by simp[fG];lia,by rw[<-Cf (a:=ae)];exact(o_ _ _).symm⟩,I4,bu,λb A=>(f3 b A).1,w0⟩
  rintro n s5 ⟨i,P,σ5,H5,⟨pre,rO,rfl⟩,I5,bD,fr5,w5⟩;rcases turn i n P H5 w5 with⟨stop,q⟩|⟨go,step⟩
  .refine dO (T.done (cH X g j w.heap.objs.size w O K m) rfl rfl rfl hc i [] s5 _ H5 (λ_ _=>False) I5 (L fr5) bD stop) (λr s6 ⟨hr,I6⟩=>?_) (λ_ _ f=>f.elim);subst hr;exact fin I3 f3 I6 q
  .refine dO (T.item (cH X g j w.heap.objs.size w O K m) rfl rfl rfl hc i [] s5 _ H5 (λ_ _=>False) I5 (L fr5) bD go) (λr s6 ⟨u,hr,h6⟩=>?_) (λ_ _ f=>f.elim);subst hr;refine dO h6 (λ_ s7 ⟨v,H7,I7,r7,y7,Z,fr7⟩=>?_) (λ_ _ f=>f.elim);have I7':=I7.pinned (L fr7) (T.obj _ _ Z);have back:∀{M:St}{H8:Hp}{s8:ao},Inv (cH X g j w.heap.objs.size w O K m) ([]++qK K s7.heap) M H8 s8->tn (i+1) s8.heap/\(∀b∈K,H8 b=ae):=λ{M H8 s8} I8=>⟨T.keep _ _ _ Z λb A o e=>(I8.pin (b,o) (jM _ (jM _ (ua A e)))).1,λb A=>by obtain⟨o,e,d⟩:=T.obj _ _ Z b A;exact(I8.pin (b,o) (jM _ (jM _ (ua A e)))).2.1⟩
   obtain⟨S,gH,htg,step⟩:=step v H7 y7;refine aL (c8 _ _ _ _ _ _ s7 _ H7 v u (λM H8=>M=S++(fG t l).drop k/\H8=H7) I7' r7 ⟨S,gH,I7'.len,htg,by rw[uV ∅,List.drop_eq_nil_of_le ∅];rfl,rfl⟩) λ_ s8 ⟨M,H8,I8,e8,e8'⟩=>?_;subst e8 e8';refine aL (ht _ _ _ _ _ _ s8 _ _ _ I8 step) λb s9 ⟨H9,I9,q9⟩=>?_;cases b with
   |false=>
    obtain⟨m',hm,w9⟩:=(show ∃m',m'<n/\W (i+1) m' P H9 from q9)
    exact⟨m',hm,i+1,P,_,H9,⟨S,gH,rfl⟩,I9.unpinned,(back I9).1,(back I9).2,w9⟩
   |true=>refine aL (he _ _ _ _ _ _ s9 _ H9 _ I9 q9) λu10 s10 ⟨y,H10,I10,r10,hl10,hz10,m',hm,w10⟩=>?_;refine aL (Ay _ s10 _ H10 (.ref D.heap.objs.size) [y] _ [u10] (λz H11=>H11=upd H10 D.heap.objs.size (.lst (P++[y]))) I10 rfl (.cons r10 .nil) ⟨_,P,y,rfl,rfl,hl10,hz10,rfl⟩) λ_ s11 ⟨_,H11,I11,_,e11⟩=>?_;subst e11;exact⟨m',hm,i+1,P++[y],_,_,⟨S,gH,rfl⟩,I11.unpinned,(back I11).1,(back I11).2,w10⟩
 exact codeAny_compStart_list Y (T.self _ 0 _ _ _ bu Y)
theorem DK{w:Pos}(B:jC X g x j l):∀C b c i f,PG (cH X g j C b c i f) (.Name x w) λv d H Q=>∃n,n.length=0+1/\d.length=j.length/\BU v H n/\Q (n++d.drop (0+1)) H:=by
 intro C b c i f m s d H v u Q I r h;obtain⟨n,_,z,y,q⟩:=h;cases (show n=[aa v] from y);have A:Loc (cH X g j C b c i f).env.scope x:=B.loc.elim (λh=>.inl (lookup_relabel_local h)) (λh=>.inr (wd h));have o:(cH X g j C b c i f).fn x=ai\/(cH X g j C b c i f).env.scope.names.lookup x=aa .local:=B.loc.elim (λh=>.inr (lookup_relabel_local h)) (λh=>.inl (by show(g.names.lookup x == aa .cell)=ai;rw[h];rfl));have p:(cH X g j C b c i f).N[0]?=aa x:=by show j[0]?=aa x;rw[<-List.head?_eq_getElem?];exact B.hd
 refine uC B.nd p A o m s d H v u Q I r ?_;show Q (d.set 0 (aa v)) H;cases d with
 |nil=>rw[iS,B.len]at z;lia
 |cons a r=>exact q
theorem Gx{f b:az}{p pos:Pos}{d:List az}{wi:TI}{ts:TT}{te:TE}(B:jC X g x j l)(A:X.calm=ai)(y:PI X (.Name x p) b wi)(v:∀C a c o i,t6 (cH X g j C a c o i) d ts) (z:∀C a c o i,PE (cH X g j C a c o i) f te) (w:∀x,uG b X.env x=pure x:=by intro _;rfl):PE X (.ListComp f [⟨.Name x p,b,d,0⟩] g pos) (BN wi ts te l):=by intro m s t H Q I h;rw[eval_ListComp];exact IX (use:=ae) B (kM _) A y (DK B) v z w I h λD f3 r q=>by obtain⟨u,n,_⟩:=r.loc;exact⟨u,n,λE sb=>⟨.ref _,_,D.unblock f3 r sb,rfl,q⟩⟩
end
def Walk(J:It)(a:List V)(R:Hp->Prop):Prop :=
 ∀H,R H->∀i,(∀x,a[i]?=aa x->J.go i H/\∀y b,J.yld i H y b->b=H/\y=x)/\(i=a.length->J.stop i H)
theorem He{K:au}{a:af}{b:List V}:Walk (vM K a) b (λH=>bX K H a b):=λH h i=>⟨λx c=>⟨⟨b,x,h,c⟩,λy f z=>⟨z.1,by have:=z.2 b h;rw[c]at this;exact(dA this).symm⟩⟩,λd=>⟨b,h,jQ d.symm⟩⟩
theorem Dw{K:au}{a:af}{b:List V}:Walk (wL K a) b (λH=>bQ K H a b):=λH h i=>⟨λx c=>⟨⟨b,x,h,c⟩,λy f z=>⟨z.1,by have:=z.2 b h;rw[c]at this;exact(dA this).symm⟩⟩,λd=>⟨b,h,jQ d.symm⟩⟩
def oi(a:Int)(n:Nat):List V:=(cm n).map λi=>V.int (a+(i:Nat))
theorem vV(a:Int)(n:Nat):(oi a n).length=n:=by simp[oi]
theorem FO{b:Int}{n:Nat}:Walk (tX b n) (oi b n) (λ_=>True):=λH _ i=>by
 refine⟨λx a=>?_,λc=>by rw[vV]at c;exact jQ c.symm⟩;have d:i<n:=by have:=(cE.mp a).1;rw[vV]at this;exact this
 refine⟨d,λy g z=>⟨z.1,?_⟩⟩;unfold oi at a;rw[iq,Cg d]at a;have f:V.int (b+(i:Nat))=x:=dA a;rw[z.2,<-f]
def sg(c:Nat):V:=.str ⟨#[c]⟩
def qS(z:Str):It:=⟨λi _=>i<z.cps.size,λi H x a=>a=H/\∃c,z.cps[i]?=aa c/\x=sg c,λi _=>i=z.cps.size⟩
theorem HM{z:Str}:Walk (qS z) (z.cps.toList.map sg) (λ_=>True):=λH _ i=>by
 refine⟨λx a=>?_,λd=>by show i=z.cps.size;simpa using d⟩;rw[iq]at a;cases e:z.cps.toList[i]? with
 |none=>rw[e]at a;cases a
 |some c=>
  rw[e]at a;have f:i<z.cps.size:=by have:=(cE.mp e).1;simpa using this
  refine⟨f,λy h w=>⟨w.1,?_⟩⟩;obtain⟨g,b,rfl⟩:=w.2;have:z.cps[i]?=aa c:=by simpa using e
  rw[this]at b;cases b;exact(dA a)
section
variable{X:Cx}{a:az}
theorem IV{P:aK}{w:aD}{K:au}{z:Str}{d:af}{f:Nat->ay->Prop} (O:∀i h,f i h->∃o n r,h.get? d=aa o/\o.cls=.type n/\o.data=.fields r /\ ["enumerate","zip","dict_itemiterator","dict_reverseitemiterator","odict_iterator","itertools.zip_longest","itertools.pairwise"].contains n=aj)(K9:∀(A:aM) (i:Nat) (s:ao) (Q:ah->ao->Prop) (E:ah->ao->Prop),f i s.heap->Q (.ref d) s->aq (ar P w) A (kH (.ref d)) Q E s)(B:∀A:aM,A.handled=ae->Walks P w A d [d] [d] z.cps.size (SignAt z) f):n_ P w K a (qS z) [d] d f where
 mem:=by simp
 obj:=λi h g b j=>by
  have e:b=d:=by simpa using j
  subst e;obtain⟨o,n,r,G,_,F,_⟩:=O i h g;exact⟨o,G,λv q=>by rw[F]at q;cases q⟩
 keep:=λi h m g k=>by exact(B ({}:aM) rfl).frame i h m g k
 item:=by intro X C t D y i T s N H E I p g x;subst C t D;obtain⟨M,L,f2,f3,f4,J⟩:=p d (by simp);refine(B X.A (I.ok.hd y)).item i s _ _ x g λv m l Y S k=>?_;have I1:Inv X T N H {s with heap:=m,toks:=l}:=I.turned (t':=l) (λb o j e=>k b o (by simpa using j) e) M L f3 f4 J;obtain⟨o,n,r,G,h2,F,Z⟩:=O _ _ S;obtain⟨c,u,e1,rfl⟩:=Y;exact⟨_,rfl,pT (s:={s with heap:=m,toks:=l}) G h2 F Z ⟨sg c,H,I1,⟨u,rfl⟩,⟨rfl,c,e1,rfl⟩,S,λb j=>(p b j).1⟩⟩
 done:=by intro X C t D y i T s N H E I p g x;subst C t D;obtain⟨M,L,f2,f3,f4,J⟩:=p d (by simp);have W:i=z.cps.size:=x;subst W;exact(B X.A (I.ok.hd y)).done s _ _ g λm l k=>⟨rfl,I.turned (t':=l) (λb o j e=>k b o (by simpa using j) e) M L f3 f4 J⟩
 self:=K9
theorem Ii{J:It}{c:List V}{R:Hp->Prop}{g:TG}{n:TS}{D:jF}{b:St}{H:Hp}(B:Walk J c R)(d:Nat->St->Hp->Prop)(C:d 0 b H)(w:∀i b H,i<=c.length->d i b H->R H)(v:∀i x b H,c[i]?=aa x->d i b H->g x b H λh l=>n {D with nx:=d (i+1),ct:=d (i+1),bk:=D.nx} h l) (A:∀b H,d c.length b H->D.nx b H):∃W:Nat->Nat->St->Hp->Prop,(∃m,W 0 m b H)/\∀i m b H,W i m b H -> (J.stop i H/\D.nx b H)\/(J.go i H/\∃N:St->Hp->Prop,(∀j f,N j f->∃o,o<m/\W (i+1) o j f)/\∀x f,J.yld i H x f->g x b f λh l=>n {D with nx:=N,ct:=N,bk:=D.nx} h l):=by
 refine⟨λi m b H=>m=c.length-i/\i<=c.length/\d i b H,⟨c.length,by simp,kM _,C⟩,?_⟩;rintro i m b H ⟨rfl,z,p⟩;have q:=B H (w i b H z p) i;by_cases s:i<c.length
 .have r:c[i]?=aa c[i]:=by simp[s]
  obtain⟨E,t⟩:=q.1 c[i] r;refine .inr ⟨E,d (i+1),λj f u=>⟨c.length-(i+1),∅,rfl,s,u⟩,λx f y=>?_⟩;obtain⟨rfl,rfl⟩:=t x f y;exact v i _ b _ r p
 .have e:i=c.length:=∅
  subst e;exact .inl ⟨q.2 rfl,A b H p⟩
theorem J9{b:Type}(l:List b)(f:b->Bool)(d:Nat->Bool)(c:∀i x,l[i]?=aa x->d i=f x):(cm l.length).all d=l.all f:=by
 induction l generalizing d with
 |nil=>rfl
 |cons x r g=>rw[d8,uW,o7,uX,o7,c 0 x rfl];congr 1;exact g _ λi y h=>c (i+1) y (by simpa using h)
theorem Kr{bs:List Bool}{b:List ah}(r:bh (bs.map V.bl) b){i:Nat}{v:ah}(h:b.toArray[i]?=aa v):v=.bool (bs.getD i aj):=by
 have d:=r.length;rw[eT]at d;have g:i<b.length:=by have:=(pc.mp h).1;simpa using this
 have e:(bs.map V.bl)[i]?=aa (.bl (bs.getD i aj)):=by rw[iq,eG ∅];simp[List.getD,eG (show i<bs.length by lia)]
 obtain⟨u,c,f⟩:=r.get e;have:b[i]?=aa v:=by simpa using h
 rw[this]at c;cases c;exact f
theorem yF{A:aM}(h:A.handled=ae):A.in1.handled=ae:=h
theorem xp(j:X.calm=ai):fY X (.builtin "all") (λl H Q=>∃(p:af) (bs:List Bool),l=[.ref p]/\bX X.K H p (bs.map V.bl)/\Q (.bl (bs.all id)) H):=by
 intro M s t H l O Q I r h;obtain⟨p,bs,rfl,E,q⟩:=h;obtain⟨u,rfl,y⟩:=vals1 r;cases y;obtain⟨d,m,f,S⟩:=I.list E;have n:=m.length;rw[eT]at n;refine call_all_walk (Ch f.isList ?_);have L:p≠s.heap.objs.size:=by obtain⟨o,g,_⟩:=f.isList;exact cD (bw g)
 refine⟨s.heap.objs.size,_,_,_,_,_,λi=>bs.getD i aj,rfl,Walks.list (yF (I.ok.hd j)) s.heap.objs.size p L d.toArray,⟨⟨_,cg _ rfl,rfl,rfl⟩,?_⟩,λi v P W Y D K=>?_,λT w k=>?_⟩
 .obtain⟨o,g,j,G⟩:=f.isList;exact⟨o,bd _ g,j,G⟩
 .rw[Kr m D];exact kE K
 .have e:(cm d.toArray.size).all (λi=>bs.getD i aj)=bs.all id:=by
   rw[bM,<-n];exact J9 bs id _ λi x C=>by simp[List.getD,C]
  rw[e];have N:Inv X M t H {s with heap:=s.heap.push {cls:=.type "list_iterator",data:=.fields #[.ref p,.int 0 0]},toks:=s.toks}:=I.kept (t':=s.toks) λb o e=>bd _ e;exact⟨.bl _,H,Inv.turned (t':=w) N (it:=s.heap.objs.size) (λb o J e=>k b o (by simpa using J) e) I.fresh (lG I.lt) (.inr I.sz) (λx c e z=>by obtain⟨v,A⟩:=I.cell x c e;exact absurd A.lt (by rw[z];exact gf _)) (λB F z=>absurd (bw (I.pin B F).1) (by rw[z];exact gf _)),rfl,q⟩
end
section
variable{X:Cx}
def jB(z:Str)(a b:Option Int):Str:=⟨((z.cps.toList.drop (HT.sIx z.length 0 a)).take (HT.sIx z.length z.length b-HT.sIx z.length 0 a)).toArray⟩
theorem Ig(a b:Nat):sliceRange (a:Int) (b:Int) 1=(cm (b-a)).map λk=>a+k:=by
 unfold sliceRange;have e:(if(1:Int) > 0 then(if(a:Int)<(b:Int)then((b:Int)-a+1-1) / 1 else 0)else(if(a:Int) > b then((a:Int)-b-1-1) / (-1)else 0)).toNat=b-a:=by
  rw[if_pos (by decide)];split
  .rw[Int.ediv_one];lia
  .have:b-a=0:=∅
   rw[this];rfl
 show(cm (if(1:Int) > 0 then(if(a:Int)<(b:Int)then((b:Int)-a+1-1) / 1 else 0)else(if(a:Int) > b then((a:Int)-b-1-1) / (-1)else 0)).toNat).map _=_;rw[e];refine m8 λk _=>?_;lia
theorem Eb(a b:Option Int)(n:Nat):Builtin.Str.strSliceIndices a b 1 n=(cm (HT.sIx n n b-HT.sIx n 0 a)).map λk=>HT.sIx n 0 a+k:=by
 rw[<-Ig];have p:(1:Int) > 0:=by decide
 cases a <;> cases b <;> (unfold Builtin.Str.strSliceIndices HT.sIx;simp only[p,if_true];congr 1 <;> (try split) <;> lia)
theorem Fh{b:Type}(l:List b)(a k:Nat):((cm k).map λj=>a+j).filterMap (λi=>l[i]?)=(l.drop a).take k:=by
 induction k with
 |zero=>simp
 |succ k c=>
  rw[pe,uY,List.filterMap_append,c,List.take_succ];congr 1;simp[qZ];cases l[a+k]? <;> rfl
theorem Fd(z:Str)(t:Tok)(l u:Option (Int×Tok)):∃m,sliceMade z t l u ae=m/\(m=.val (.str z t)/\jB z (l.map (·.1)) (u.map (·.1))=z\/m=.str (jB z (l.map (·.1)) (u.map (·.1)))):=by
 refine⟨_,rfl,?_⟩;unfold sliceMade slicePicked;have e:=Eb (l.map (·.1)) (u.map (·.1)) z.length;simp only[Option.map_none,B_];rw[e];have d:=Fh z.cps.toList (HT.sIx z.length 0 (l.map (·.1))) (HT.sIx z.length z.length (u.map (·.1))-HT.sIx z.length 0 (l.map (·.1)));have b:(((cm (HT.sIx z.length z.length (u.map (·.1))-HT.sIx z.length 0 (l.map (·.1)))).map λk=>HT.sIx z.length 0 (l.map (·.1))+k).filterMap (z.cps[·]?)).toArray=(jB z (l.map (·.1)) (u.map (·.1))).cps:=by unfold jB;rw[<-d];simp
 split
 .rename_i h;left;refine⟨rfl,?_⟩;simp only[beq_self_eq_true,Bool.true_and,eT,Ci,beq_iff_eq]at h;have g:HT.sIx z.length z.length (u.map (·.1))<=z.length:=HT.sIx_le _ _ (aY _) _;have f:z.cps.toList.length=z.length:=by simp[lL]
  have a:HT.sIx z.length 0 (l.map (·.1))=0\/z.length=0:=∅
  unfold jB;rw[h];rcases a with a|a
  .rw[a,uZ,jR ∅]
  .have:z.cps.toList=[]:=jj ∅;rw[this];cases z;rename_i c;simp at this;subst this;simp
 .right;rw[show(⟨(((cm (HT.sIx z.length z.length (u.map (·.1))-HT.sIx z.length 0 (l.map (·.1)))).map λk=>HT.sIx z.length 0 (l.map (·.1))+k).filterMap (z.cps[·]?)).toArray⟩:Str)=jB z (l.map (·.1)) (u.map (·.1))from by rw[b]]
def Ak:V->Option Int->Option Int->Hp->VK->Prop:=λx a b H Q=>∃z,x=.str z/\z.length<=a9/\Q (.str (jB z a b)) H
theorem JO(z:Str)(a b:Option Int):(jB z a b).length<=z.length:=by unfold jB lL;simp;lia
theorem part_of{v:ah}{o:Option Int}(p:kK v o):∃q:Option (Int×Tok),v=partValue q/\q.map (·.1)=o:=by
 cases p with
 |none=>exact⟨ae,rfl,rfl⟩
 |int i t=>exact⟨aa (i,t),rfl,rfl⟩
theorem Lf:kr X Ak:=by
 intro y s n H x v p o r w a Q I b g d c h;obtain⟨z,rfl,f,q⟩:=h;obtain⟨t,rfl⟩:=b;obtain⟨l,rfl,rfl⟩:=part_of d;obtain⟨u,rfl,rfl⟩:=part_of c;refine⟨"str",_,F.slot_str_getitem.lookup,typeIs_str s z t,?_⟩;obtain⟨m,j,i⟩:=Fd z t l u;refine getItem_meets (typeIs_str s z t) (by decide) F.slot_str_getitem F.entry_str_getitem (F.args_str_getitem_2 _ _) (meets_str_getitem_slice z t a l u ae (by decide)) ⟨g,?_⟩;rw[j];rcases i with⟨rfl,e⟩|rfl
 .exact⟨.str z,H,I,⟨t,rfl⟩,by rw[e]at q;exact q⟩
 .exact⟨cn (JO z _ _) f,⟨.str _,H,I.tok _,⟨_,rfl⟩,q⟩⟩
def f_(K:au)(H:Hp)(d:Nat)(x y:V)(k:Bool):Prop :=
 ∀(X:Cx),X.K=K->∀(b:List (af×Obj)) (a:St) (s:ao) (u v:ah) (A:aM),Inv X b a H s->RelV x u->RelV y v->A.units+d<cLine->re A s u v k
theorem Eg{K:au}{H:Hp}{d:Nat}{x y:V}(f:fg x=ai)(c:fg y=ai):f_ K H d x y (cC x y):=λ_ _ _ _ _ _ _ _ _ b a _=>zT b a f c
def ez(e:Nat->Bool)(n m:Nat):Bool:=(cm (min n m)).all e&&n == m
theorem BR{A:aM}:A.in1.units=A.units+1:=rfl
theorem wm{H:Hp}{d:Nat}{a b:af}{f c:List V}{e:Nat->Bool}{E:List (af×Obj)}{p:St}{s:ao}{A:aM}(I:Inv X E p H s)(M:bX X.K H a f)(L:bX X.K H b c)(K:∀(j:Nat) x y,f[j]?=aa x->c[j]?=aa y->f_ X.K H d x y (e j)) (S:A.units+(d+1)<cLine):SeqAt.RcAt A s (.ref a) (.ref b) (ez e f.length c.length)/\SeqAt.RcNeAt A s (.ref a) (.ref b) (!ez e f.length c.length):=by
 obtain⟨h,r,o,_⟩:=I.list M;obtain⟨l,q,g,_⟩:=I.list L;have J:=r.length;have Q:=q.length;have z:∀j (C:j<h.toArray.size) (B:j<l.toArray.size),re A.in1 s h.toArray[j] l.toArray[j] (e j):=λj C B=>by
  have O:j<h.length:=by simpa using C
  have P:j<l.length:=by simpa using B
  have m:f[j]?=aa f[j]:=eG ∅;have D:c[j]?=aa c[j]:=eG ∅;obtain⟨u,w,G⟩:=r.get m;obtain⟨v,t,F⟩:=q.get D;have N:h[j]=u:=by rw[eG O]at w;exact dA w
  have f2:l[j]=v:=by rw[eG P]at t;exact dA t
  have:=K j f[j] c[j] m D X rfl E p s u v A.in1 I G F (by rw[BR];lia);simpa[N,f2]using this
 by_cases i:f.length=c.length
 .have n:h.toArray.size=l.toArray.size:=by simp;lia
  have m:ez e f.length c.length=(cm h.toArray.size).all e:=by unfold ez;rw[i,Nat.min_self,beq_self_eq_true,Bool.and_true,bM,<-J,i]
  rw[m];exact⟨.lists o.isList g.isList n ∅ z,.lists o.isList g.isList n ∅ z⟩
 .have m:ez e f.length c.length=aj:=by
   unfold ez;rw[beq_false_of_ne i,Bool.and_false]
  have n:(h.toArray.size != l.toArray.size)=ai:=by simp;lia
  rw[m];exact⟨.lists_lengths o.isList g.isList n ∅,.lists_lengths o.isList g.isList n ∅⟩
theorem xz{H:Hp}{d:Nat}{a b:af}{f c:List V}{e:Nat->Bool}{C:List (af×Obj)}{m:St}{s:ao}{A:aM}(I:Inv X C m H s)(L:bQ X.K H a f)(K:bQ X.K H b c)(J:∀(j:Nat) x y,f[j]?=aa x->c[j]?=aa y->f_ X.K H d x y (e j)) (P:A.units+(d+1)<cLine):SeqAt.RcAt A s (.ref a) (.ref b) (ez e f.length c.length)/\SeqAt.RcNeAt A s (.ref a) (.ref b) (!ez e f.length c.length):=by
 obtain⟨h,o,r,_⟩:=I.tuple L;obtain⟨g,n,i,_⟩:=I.tuple K;have F:=o.length;have G:=n.length;have t:∀j (z:j<h.toArray.size) (w:j<g.toArray.size),re A.in1 s h.toArray[j] g.toArray[j] (e j):=λj z w=>by
  have N:j<h.length:=by simpa using z
  have O:j<g.length:=by simpa using w
  have l:f[j]?=aa f[j]:=eG ∅;have B:c[j]?=aa c[j]:=eG ∅;obtain⟨u,q,E⟩:=o.get l;obtain⟨v,p,D⟩:=n.get B;have M:h[j]=u:=by rw[eG N]at q;exact dA q
  have f2:g[j]=v:=by rw[eG O]at p;exact dA p
  have:=J j f[j] c[j] l B X rfl C m s u v A.in1 I E D (by rw[BR];lia);simpa[M,f2]using this
 have l:ez e f.length c.length=((cm (min h.toArray.size g.toArray.size)).all e&&h.toArray.size == g.toArray.size):=by unfold ez;rw[bM,bM,<-F,<-G]
 rw[l];exact⟨.tuples r i ∅ t,.tuples r i ∅ t⟩
theorem Db{K:au}{H:Hp}{d:Nat}{a b:af}{f c:List V}{e:Nat->Bool}(n:bX K H a f)(m:bX K H b c)(p:a≠b)(l:∀(j:Nat) x y,f[j]?=aa x->c[j]?=aa y->f_ K H d x y (e j)):f_ K H (d+1) (.ref a) (.ref b) (ez e f.length c.length):=λX o r q s u v A I h g i=>by
 subst o;cases h;cases g;exact .of_refs p (wm I n m l i).1
theorem EV{K:au}{H:Hp}{d:Nat}{a b:af}{f c:List V}{e:Nat->Bool}(n:bQ K H a f)(m:bQ K H b c)(p:a≠b)(l:∀(j:Nat) x y,f[j]?=aa x->c[j]?=aa y->f_ K H d x y (e j)):f_ K H (d+1) (.ref a) (.ref b) (ez e f.length c.length):=λX o r q s u v A I h g i=>by
 subst o;cases h;cases g;exact .of_refs p (xz I n m l i).1
theorem yW{K:au}{H:Hp}{d:Nat}{a:af}:f_ K H d (.ref a) (.ref a) ai:=λX h i f s u v A I c b g=>by
 cases c;cases b;exact .same _
def qf(K:au)(g:Bool):R2:=λx y H Q=>∃a b f c d e,x=.ref a/\y=.ref b/\((bX K H a f/\bX K H b c)\/(bQ K H a f/\bQ K H b c))/\d<=8 /\
 (∀(j:Nat) x y,f[j]?=aa x->c[j]?=aa y->f_ K H d x y (e j))/\Q (.bl (if g then !ez e f.length c.length else ez e f.length c.length)) H
theorem Dr(n:X.A.units+64<cLine):bz X (dr .Eq) (qf X.K aj):=by
 intro p s j H x y v u Q I g f h;obtain⟨a,b,m,l,d,e,rfl,rfl,i,o,c,q⟩:=h;cases g;cases f;rcases i with⟨h1,h2⟩|⟨h1,h2⟩
 .exact(wm I h1 h2 c ∅).1 _ _ _ _ ⟨.bl _,H,I,rfl,q⟩
 .exact(xz I h1 h2 c ∅).1 _ _ _ _ ⟨.bl _,H,I,rfl,q⟩
theorem HX(n:X.A.units+64<cLine):bz X (dr .NotEq) (qf X.K ai):=by
 intro p s j H x y v u Q I g f h;obtain⟨a,b,m,l,d,e,rfl,rfl,i,o,c,q⟩:=h;cases g;cases f;rcases i with⟨h1,h2⟩|⟨h1,h2⟩
 .exact(wm I h1 h2 c ∅).2 _ _ _ _ ⟨.bl _,H,I,rfl,q⟩
 .exact(xz I h1 h2 c ∅).2 _ _ _ _ ⟨.bl _,H,I,rfl,q⟩
theorem Bj{y:V}:∀{a:List V}{b:List ah},bh a b->a.all fg=ai->b.countP (im y)=a.countP λz=>cC z y
 |_,_,.nil,_=>rfl
 |z::a,u::b,.cons r t,f=>by rw[o7,eU]at f;rw[List.countP_cons,List.countP_cons,tm r f.1,Bj t f.2]
def Fo(K:au):V->List V->Hp->VK->Prop:=λx b H Q=>∃(p:af) (a:List V) (y:V),x=.ref p/\b=[y]/\bQ K H p a/\fg y=ai/\a.all fg=ai/\Q (.int ((a.countP λz=>cC z y:Nat):Int)) H
theorem C5:qX X "tuple.count" (Fo X.K):=by
 intro J s B H x D v E Q I i j h;obtain⟨p,C,y,rfl,rfl,o,t,d,q⟩:=h;cases i;obtain⟨u,rfl,l⟩:=j.one;obtain⟨a,r,⟨⟨A,z,f,g⟩,e,c,n,b⟩,G⟩:=I.tuple o;simp only at c b;subst c b;refine uR F.slot_tuple_count ⟨_,e,rfl⟩ F.entry_tuple_count (F.args_tuple_count_2 _ _) (SeqAt.tuple_countAt p a.toArray n z g u (im y)) ⟨e,λw m=>p8 l t r d w (by simpa using m),?_⟩;exact⟨.int _,H,I.tok _,⟨_,by rw[Cj,Bj r d]⟩,q⟩
end
abbrev Tx:=List Nat
def tS(l:Tx):Str:=⟨l.toArray⟩
def tV(l:Tx):V:=.str (tS l)
def bA(ls:List Tx):List V:=ls.map tV
theorem i7(l:Tx):(tS l).cps.toList=l:=by simp[tS]
theorem jD(l:Tx):(tS l).length=l.length:=by simp[tS,lL]
theorem GS(z:Str):tS z.cps.toList=z:=by cases z;simp[tS]
theorem qj{a b:Tx}(h:tS a=tS b):a=b:=by rw[<-i7 a,h,i7]
theorem w_(a:List Tx):(bA a).length=a.length:=eT _
def cf(a b:Tx):Bool:=decide (a<=b)
def aO(ls:List Tx):List Tx:=ls.mergeSort cf
theorem zM(a b c:Tx)(f:cf a b=ai)(d:cf b c=ai):cf a c=ai:=by simp only[cf,decide_eq_true_eq]at *;exact List.le_trans f d
theorem Fc(a b:Tx):(cf a b||cf b a)=ai:=by simp only[cf,u0,decide_eq_true_eq];exact List.le_total a b
theorem Ib{a b:Tx}(d:cf a b=ai)(c:cf b a=ai):a=b:=by simp only[cf,decide_eq_true_eq]at *;exact List.le_antisymm d c
theorem et(ls:List Tx):(aO ls).Perm ls:=List.mergeSort_perm _ _
theorem oK(ls:List Tx):(aO ls).Pairwise (λa b=>cf a b=ai):=List.pairwise_mergeSort zM Fc _
theorem wS(ls:List Tx):(aO ls).length=ls.length:=(et ls).length_eq
theorem uc{c d:List Tx}(g:d.Perm c)(f:d.Pairwise (λa b=>cf a b=ai)):d=aO c :=List.Perm.eq_of_pairwise (le:=λa b=>cf a b=ai) (λ_ _ _ _ i h=>Ib i h) f (oK c) (g.trans (et c).symm)
theorem oH{ls:List Tx}(c:ls.Pairwise (λa b=>cf a b=ai)):aO ls=ls:=(uc (pf ls) c).symm
theorem sV{ls a:List Tx}(b:ls.Perm a):aO ls=aO a:=uc ((et ls).trans b) (oK ls)
theorem zK:∀(p:Str) (l:List Str),risingS p l=ai->(p::l).Pairwise (λa b=>cf a.cps.toList b.cps.toList=ai)
 |p,[],_=>List.pairwise_singleton _ _
 |p,x::r,h=>by
  have d:(!ltCps x.cps.toList p.cps.toList&&risingS x r)=ai:=h;rw[eU,ltCps_eq]at d;have q:=zK x r d.2;have f:cf p.cps.toList x.cps.toList=ai:=by simp only[cf,decide_eq_true_eq];intro g;simp[g]at d
  refine List.pairwise_cons.mpr ⟨λy c=>?_,q⟩;rcases bF.mp c with rfl|c
  .exact f
  .exact zM _ _ _ f (List.rel_of_pairwise_cons q c)
theorem Ka{c:List Str}(h:sortedS c=ai):(c.map λz=>z.cps.toList).Pairwise (λa b=>cf a b=ai):=by
 rw[List.pairwise_map];cases c with
 |nil=>exact List.Pairwise.nil
 |cons x r=>exact zK x r h
theorem vz:∀{ls:List Tx}{a:List ah},bh (bA ls) a->c7 a (ls.map tS)
 |[],_,.nil=>.nil
 |l::ls,_::_,.cons ⟨t,e⟩ r=>by subst e;exact .cons _ t (vz (ls:=ls) r)
theorem AH:∀{b:List Str}{a:List ah},c7 a b->bh (bA (b.map λz=>z.cps.toList)) a
 |_,_,.nil=>.nil
 |_,_,.cons y t h=>.cons ⟨t,by rw[GS]⟩ (AH h)
section
variable{X:Cx}
theorem Gf(z:Tx)(n:Nat):Txt.mul (tS z) (n:Int)=tS (cO n z).flatten:=by
 unfold Txt.mul;cases n with
 |zero=>simp[tS,fu]
 |succ n=>
  rw[if_neg ∅];split
  .rename_i h;simp only[u0,beq_iff_eq]at h;rcases h with h|h
   .have:n=0:=∅
    subst this;simp
   .rw[jD]at h;have:z=[]:=jj h;subst this;simp
  .unfold tS;congr 1;have b:∀(k:Nat) (a:Array Nat),(cO k z.toArray).foldl (·++·) a=a++(cO k z).flatten.toArray:=by
    intro k
    induction k with
    |zero=>intro a;simp
    |succ k c=>intro a;rw[Cd,m_,c,Cd,List.flatten_cons];simp[Array.append_assoc]
   have e:=b (n+1) #[];simp only[lJ];simpa using e
theorem HA:bz X (gg .Mult) (λx y H Q=>∃(z:Tx) (n:Nat),x=tV z/\y=.int n/\n<=100/\z.length<=100/\Q (tV (cO n z).flatten) H):=by
 intro w s j H x y v u Q I c b h;obtain⟨z,n,rfl,rfl,f,d,q⟩:=h;obtain⟨t,rfl⟩:=c;obtain⟨m,rfl⟩:=b;refine SB.mul ?_ λl k=>?_
 .have o:z.length*n<=10000:=cn (u5 d f) (by decide);refine⟨by rw[Bool.or_eq_false_iff];constructor <;> (apply decide_eq_false;lia),λi _=>?_,λi _=>?_⟩
  .rw[jD];intro g;have r:(2^63-1:Int) / n ≥ (2^63-1) / 100:=by
    have a:(0:Int)<n:=∅
    apply (Int.le_ediv_iff_mul_le a).mpr;have:((2^63-1:Int) / 100)*n<=((2^63-1) / 100)*100:=Int.mul_le_mul_of_nonneg_left ∅ (by decide);refine Int.le_trans this (by decide)
   have p:((2^63-1:Int) / 100) > 1000:=by decide
   lia
  .rw[jD,lJ];unfold Builtin.Str.tooLong;apply decide_eq_false;have:10000<a9:=by rw[mV];decide
   lia
 .rw[Gf];exact⟨tV _,H,I.tok _,⟨_,rfl⟩,q⟩
end
theorem Gn(t:iu)(j:Nat):(t.put j).1.led=t.led/\(t.put j).1.plain=t.plain:=⟨rfl,rfl⟩
theorem Df(t:iu)(n:Nat):(t.orStandIn n).led=t.led/\((t.orStandIn n).plain=t.plain\/(t.orStandIn n).plain=aj):=by
 unfold SetTable.orStandIn;split
 .exact⟨rfl,.inl rfl⟩
 .exact⟨rfl,.inr rfl⟩
theorem D9(t:iu)(c:Array (Int×ah))(h:Int)(x:ah):(layNew t c h x).2.1.led=t.led/\((layNew t c h x).2.1.plain=t.plain\/(layNew t c h x).2.1.plain=aj):=by
 unfold layNew;split
 .rename_i a b _;have f:=Gn t a;have d:=Df (t.put a).1 (SetTable.insertAt c (t.put a).2 (h,x)).size;exact⟨d.1.trans f.1,by rw[<-f.2];exact d.2⟩
 .exact⟨rfl,.inr rfl⟩
theorem Hm(t:iu)(c:Array (Int×ah))(a:Nat)(d:t.plain=aj):(ph t c a).2.1.led=t.led/\(ph t c a).2.1.plain=aj:=by
 unfold ph;split
 .rename_i t' b e;have q:t'.led=t.led/\t'.plain=t.plain:=by
   unfold SetTable.relaid SetTable.laid at e;cases q:SetTable.layClean (SetTable.sizeAbove a-1) (c.map (·.1))with
   |none=>rw[q]at e;cases e
   |some f=>rw[q]at e;cases e;exact⟨rfl,rfl⟩
  dsimp only;split
  .exact⟨q.1,q.2.trans d⟩
  .exact⟨rfl,rfl⟩
 .exact⟨rfl,rfl⟩
def cJ(w:aD):Bool:=w.params.followText "set-order"
structure iN(P:aK)(w:aD)(h:ay)(a:af)(ks:List Str):Prop where
 ex:∃(es:Array (Int×ah)) (ep:Nat) (t:iu) (ss:List Str),h.get? a=aa {cls:=.type "set",dict:=ae,data:=.set es ep t}/\c7 (es.toList.map (·.2)) ss/\ss.Perm ks/\ElemsOf (g7 P w) es.toList /\
  es.size<4090/\t.fits es.size=ai/\t.led=(!cJ w)/\(ks≠[]->t.plain=aj)
theorem iN.at{P:aK}{w:aD}{h b:ay}{a:af}{ks:List Str}(S:iN P w h a ks)(k:∀o,h.get? a=aa o->b.get? a=aa o):iN P w b a ks:=by obtain⟨es,c,t,ss,e,r⟩:=S.ex;exact⟨es,c,t,ss,k _ e,r⟩
theorem AX:∀{a:List ah}{b:List Str},c7 a b->∀x,x∈b↔∃t,Value.str x t∈a
 |_,_,.nil,x=>by simp
 |_,_,.cons y t h,x=>by
  rw[bF,AX h x];constructor
  .rintro(rfl|⟨t',q⟩)
   .exact⟨t,je ..⟩
   .exact⟨t',iO _ q⟩
  .rintro⟨t',q⟩;rcases bF.mp q with q|q
   .cases q;exact .inl rfl
   .exact .inr ⟨t',q⟩
theorem vY:∀{a b:List ah},a.Perm b->∀{c:List Str},c7 b c->∃d,c7 a d/\d.Perm c:=by intro a b p c h;refine⟨a.map strOf,strsAre_map a λv f=>h.all v (p.mem_iff.mp f),?_⟩;have:=p.map strOf;rwa[h.strs]at this
section
variable{P:aK}{w:aD}{A:aM}{E:ah->ao->Prop}{s:ao}
def ik(ks:List Str)(x:Str):List Str:=if x∈ks then ks else ks++[x]
theorem iN.put{h:ay}{a:af}{c es':Array (Int×ah)}{b:Nat}{t t':iu}(e:h.get? a=aa {cls:=.type "set",dict:=ae,data:=.set c b t}):(h.update a (Obj.putSet es' t')).get? a=aa {cls:=.type "set",dict:=ae,data:=.set es' (b+1) t'}:=by have:=mX (Obj.putSet es' t') e (by rw[putSet_of es' t' rfl];rfl);rw[putSet_of es' t' rfl]at this;exact this
theorem Ej{a:af}{ks:List Str}{x:Str}{g:Tok}{Q:Bool->ao->Prop}(S:iN P w s.heap a ks)(hn:ks.length<4000)(h:∀l b,jf a s.heap l->iN P w l a (ik ks x)->Q b {s with heap:=l}):aq (ar P w) A (setAddHashed a (.str x g) ((g7 P w).hash x)) Q E s:=by
 obtain⟨m,ep,t,ss,W,X,hp,C,hsz,hf,nr,c9⟩:=S.ex;have v:∀y t',(g7 P w).is x (.str y t')=decide (y=x):=λy t'=>by
  show oW x (.str y t')=_;rw[jN];simp[oW]
  try exact eq_comm
 have d9:(g7 P w).is x (.str x g)=ai:=by rw[v];simp
 have hb:m.size<scanBound:=xS hsz (by decide);unfold setAddHashed setAddHashedIn;refine io (ap (pi W rfl hf ?_));dsimp only;rw[byScan_of (knd:=g7 P w) (x:=.str x g) rfl hb C];simp only[if_true];unfold setAddByScan;refine ap (ap (kN (ap (wpAny_setScan_of d9 W rfl hf C ?_))));have p:x∈ks↔∃e∈m.toList,(g7 P w).is x e.2=ai:=by
  rw[<-hp.mem_iff,AX X x];constructor
  .rintro⟨t',q⟩;obtain⟨e,H,ee⟩:=cV.mp q;exact⟨e,H,by rw[ee,v];simp⟩
  .rintro⟨e,H,q⟩;obtain⟨y,t',ey⟩:=X.all e.2 (cV.mpr ⟨e,H,rfl⟩);rw[ey,v]at q;have:y=x:=of_decide_eq_true q;subst this;exact⟨t',cV.mpr ⟨e,H,ey⟩⟩
 have klen:ks.length=m.size:=by
  have Z:=hp.length_eq;have Y:ss.length=m.size:=by rw[<-X.strs];simp
  lia
 cases hr:List.findIdx? (λe=>(g7 P w).is x e.2) m.toList with
 |some j=>dsimp only;obtain⟨hj,hpj,_⟩:=KU.mp hr;have T:x∈ks:=p.mpr ⟨_,Ck hj,hpj⟩;refine aC (aC ?_);exact h s.heap _ (Heap.SameBut.refl a s.heap) (by unfold ik;rw[if_pos T];exact S)
 |none=>
  dsimp only;have T:¬x∈ks:=λhm=>by obtain⟨e,H,q⟩:=p.mp hm;have:=List.findIdx?_eq_none_iff.mp hr e H;rw[q]at this;exact Bool.noConfusion this
  have J:∀(b:Bool) {i:ao}{Q':Unit->ao->Prop},Q' () i->aq (ar P w) A (match b with|ai=>rule "set.scan.the-table-gave-way" |aj=>pure ()) Q' E i :=
   λb i Q' hq=>by cases b <;> first|exact aC hq|exact kN hq
  have F:=layNew_perm t m ((g7 P w).hash x) (.str x g);have M:=layNew_fits t m ((g7 P w).hash x) (.str x g);have z:=D9 t m ((g7 P w).hash x) (.str x g);generalize hL:layNew t m ((g7 P w).hash x) (.str x g)=L at F M z ⊢;obtain⟨c,t1,f,gave⟩:=L;dsimp only at F M z ⊢;rw[rk]at F;have u:ElemsOf (g7 P w) c.toList:=(C.push d9 rfl).perm F;have hsz1:c.size=m.size+1:=by have:=F.length_eq;simpa using this
  have hS1:∃G,c7 (c.toList.map (·.2)) G/\G.Perm (ik ks x):=by
   have p1:=F.map (λe:Int×ah=>e.2);rw[uY]at p1;have q1:c7 (m.toList.map (·.2)++[Value.str x g]) (ss++[x]):=by
    have gen:∀{vs:List ah}{zs:List Str},c7 vs zs->c7 (vs++[Value.str x g]) (zs++[x]):=by
     intro vs zs hh
     induction hh with
     |nil=>exact .cons x g .nil
     |cons y t _ ih=>exact .cons y t ih
    exact gen X
   obtain⟨G,O,N⟩:=vY p1 q1;refine⟨G,O,N.trans ?_⟩;unfold ik;rw[if_neg T];exact hp.append_right _
  obtain⟨G,O,N⟩:=hS1;have cB:ik ks x≠[]:=by unfold ik;rw[if_neg T];simp
  have o:∀d:iu,d.fits c.size=ai->d.led=(!cJ w)->d.plain=aj->aq (ar P w) A (do
    storeSet a c d
    if(!f&&d.tooFull)=ai then do
      (match (ph d c (pq c.size)).2.2 with|ai=>rule "set.scan.the-table-gave-way" |aj=>pure ())
      storeSet a (ph d c (pq c.size)).1 (ph d c (pq c.size)).2.1
      pure (aa ai)
     else pure (aa ai)) (λr s'=>∃l,r=aa ai/\s'={s with heap:=l}/\jf a s.heap l/\iN P w l a (ik ks x)) E s:=by
   intro d hf2 j8 fz;refine ap (wpAny_storeSet_of W rfl ?_ (fits_of_scanBound (xS (show c.size<4090 by lia) (by decide))));have o1:=iN.put (es':=c) (t':=d) W;have gJ:=ng s.heap a (Obj.putSet c d);split
   .have K:=relayAll_perm d c (pq c.size);have B:=relayAll_fits d c (pq c.size);have n:=Hm d c (pq c.size) fz;generalize hRl:ph d c (pq c.size)=Rl at K B n ⊢;obtain⟨D,t3,gave2⟩:=Rl;dsimp only at K B n ⊢;have hsz2:D.size=c.size:=by have:=K.length_eq;simpa using this
    refine ap (J _ ?_);refine ap (wpAny_storeSet_of o1 rfl ?_ (fits_of_scanBound (xS (show D.size<4090 by lia) (by decide))));obtain⟨ss2,u1,u2⟩:=vY (K.map (λe:Int×ah=>e.2)) O;refine aC ⟨_,rfl,rfl,gJ.trans (ng _ a _),⟨D,_,t3,ss2,iN.put o1,u1,u2.trans N,u.perm K,∅,B,n.1.trans j8,λ_=>n.2⟩⟩
   .exact aC ⟨_,rfl,rfl,gJ,⟨c,_,d,G,o1,O,N,u,∅,hf2,j8,λ_=>fz⟩⟩
  have CP:t1.led=(!cJ w):=z.1.trans nr;refine ap (J _ ?_);split
  .refine ap ?_;rw[hashByValue_scannable 8 (x:=.str x g) rfl];refine aC ?_;have hk:plainKind (.str x g)=aj:=rfl;rw[hk];simp only[jS,if_false];refine aL (o {t1 with plain:=aj} (SetTable.fits_plain_off M) CP rfl) λr s' ⟨l,Z,Y,e3,e4⟩=>?_;subst Z Y;exact aC (h l _ e3 e4)
  .rename_i I;refine ap (aC ?_);simp only[if_true];refine aL (o t1 M CP (by simpa using I)) λr s' ⟨l,Z,Y,e3,e4⟩=>?_;subst Z Y;exact aC (h l _ e3 e4)
end
def met(val:Nat->Str)(i:Nat):List Str:=((cm i).map val).foldl ik []
theorem AW(val:Nat->Str)(i:Nat):met val (i+1)=ik (met val i) (val i):=by unfold met;rw[pe,uY,List.foldl_append];rfl
theorem zY(val:Nat->Str){i:Nat}:∀{j:Nat},i<=j->(met val i).length<=(met val j).length
 |0,h=>by rw[show i=0 by lia];exact aY _
 |j+1,h=>by
  by_cases e:i=j+1
  .subst e;exact aY _
  .refine cn (zY val (j:=j) ∅) ?_;rw[AW];unfold ik;split
   .exact aY _
   .simp
section
variable{P:aK}{w:aD}{A:aM}{R:Result->ao->Prop}{I:af}{c a:List af}{G:Array GenState->Array GenState->Prop}{n:Nat}{d:Nat->ah->Prop}{St:Nat->ao->Prop}
theorem Fl(W:WalksS P w A.in1 I c a G n d St)(S:af)(q:S∉c){J:Nat->ay->Prop}(H:∀i h j,J i h->(∀b o,b∉a->h.get? b=aa o->j.get? b=aa o)->J i j)(M:∀(i:Nat) (v:ah) (s:ao) (E:ah->ao->Prop) (Q:Bool->ao->Prop),i<n->d i v->J i s.heap->(∀j t b,s.toks<=t->jf S s.heap j->J (i+1) j->Q b {s with heap:=j,toks:=t})->aq (ar P w) A.in1 (setAdd S v) Q E s):∀(k i:Nat) (s:ao),n-i=k->i<=n->St i s->J i s.heap -> (∀f,Moved (S::a) G s f->J n f.heap->R (.ok (.ret .none)) f)->lH (ar P w) A (.builtin "set.update.loop" ⟨[.ref S,.ref I],[]⟩) R s:=by
 have T:S∉a:=λh=>q (W.sub _ h);have D:∀b∈a,b∈S::a:=λb g=>iO _ g;intro k
 induction k with
 |zero=>
  intro i s N O z x y;obtain rfl:i=n:=∅
  refine lM KW ?_;rw[nh Cm _];show aq _ A.in1 (pyNext (.ref I) >>= _) _ _ s;refine ap (W.done s _ _ z λf p=>?_);show aq _ A.in1 (ret Value.none) _ _ f;exact aC (y f (p.mono D) (H _ _ _ x λb o g e=>p.heap b o g e))
 |succ k L=>
  intro i s N O z x y;have B:i<n:=∅
  refine lM KW ?_;rw[nh Cm _];show aq _ A.in1 (pyNext (.ref I) >>= _) _ _ s;refine ap (W.item i s _ _ B z λv f X l p=>?_);show aq _ A.in1 (lF [v] (setAdd S v) >>= _) _ _ f;refine ap (io (M i v f _ _ B X (H _ _ _ x λb o g e=>p.heap b o g e) λj t b C F K=>?_));refine aC ⟨ni Cm _,L (i+1) _ ∅ B (W.frame _ f _ _ l C λb g o e=>?_) K λu m r=>?_⟩
  .rw[F.2 b (λh:b=S=>q (by rw[<-h];exact g))];exact e
  .refine y u (Moved.trans W.gtrans ((p.mono D).then_heap C λb o g e=>?_) m) r;rw[F.2 b (λh:b=S=>g (by rw[h];exact je))];exact e
end
section
variable{P:aK}{w:aD}{A:aM}{E:ah->ao->Prop}{s:ao}
theorem FV(a:ah){Q:ah->ao->Prop} (h:iN P w (s.heap.push {cls:=.type "set",dict:=ae,data:=.set #[] 0 (.fresh 0 0 (!cJ w))}) s.heap.objs.size [] -> Q (.ref s.heap.objs.size) {s with heap:=s.heap.push {cls:=.type "set",dict:=ae,data:=.set #[] 0 (.fresh 0 0 (!cJ w))}}):lH (ar P w) A (.call (.builtin "set.__new__") ⟨[.type "set",a],[]⟩) (wants Q E) s:=by
 refine codeAny_of_tree ?_;show aq _ A.in1 (do checkBuiltinCall "set.__new__" ⟨[.type "set",a],[]⟩;again (.builtin "set.__new__" ⟨[.type "set",a],[]⟩)) _ _ s;refine ap (u6 (PySem.F.newCall_set_1 a) (aC ⟨ni F.plain_set_new _,lM F.entry_set_new ?_⟩));rw[nh F.plain_set_new _];unfold Builtin.«set.__new__» Builtin.Frozenset.newClass;have i:=sub_set_self;obtain⟨j,g,d,c,f⟩:=s;dsimp only
 wp_walk
 refine pr (aC ?_);dsimp only;simp only[newObj];refine ap (wpAny_alloc (aC ?_));refine aC (h ⟨#[],0,_,[],cg _ rfl,.nil,pf _,λe b=>by simp at b,by decide,rfl,rfl,λh=>absurd rfl h⟩)
end
end L2
set_option maxHeartbeats 8000000
namespace L2
theorem Dd:entryFor table "set.__iter__"=aa Builtin.«frozenset.__iter__»:=entryFor_alias (id':="frozenset.__iter__") (by kernel_rfl) rfl (by decide +kernel) (by kernel_rfl)
theorem zu:Slot "set_iterator" "__next__" "set_iterator.__next__" :=
 .of (owner:="set_iterator") (n:="__next__") (by rw[typeLookup_type,builtinLookup_eq_fast];kernel_rfl) (by decide +kernel) (by decide +kernel) (by decide +kernel) (by first|exact .inl (by decide +kernel)|exact .inr (by decide +kernel)) (by rw[isSubtype_type];kernel_rfl)
theorem F_:entryFor table "set_iterator.__next__"=aa Builtin.«set_iterator.__next__»:=entryFor_of_fast (by kernel_rfl)
theorem G5(a:ah):argsOk "set_iterator.__next__" ⟨[a],[]⟩:=by unfold argsOk;kernel_rfl
theorem yD:Slot "set_iterator" "__iter__" "set_iterator.__iter__" :=
 .of (owner:="set_iterator") (n:="__iter__") (by rw[typeLookup_type,builtinLookup_eq_fast];kernel_rfl) (by decide +kernel) (by decide +kernel) (by decide +kernel) (by first|exact .inl (by decide +kernel)|exact .inr (by decide +kernel)) (by rw[isSubtype_type];kernel_rfl)
theorem G3:entryFor table "set_iterator.__iter__"=aa Builtin.«dict_keyiterator.__iter__»:=entryFor_alias (id':="dict_keyiterator.__iter__") (by kernel_rfl) rfl (by decide +kernel) (by kernel_rfl)
theorem CZ(a:ah):argsOk "set_iterator.__iter__" ⟨[a],[]⟩:=by unfold argsOk;kernel_rfl
def gt(first:ah)(i:Nat)(a:af)(n b:Nat):Obj:={cls:=.type "set_iterator",data:=.fields #[first,.int i 0,.ref a,.int n 0,.int b 0]}
section
variable{P:aK}{w:aD}{A:aM}{E:ah->ao->Prop}{s:ao}
theorem sK{I a:af}{first:ah}{i n d:Nat}{Q:ah->ao->Prop}(h:s.heap.get? I=aa (gt first i a n d))(c:Q (.ref I) s):aq (ar P w) A (kH (.ref I)) Q E s:=by
 have b:s.TypeIs (.ref I) "set_iterator":=⟨_,h,rfl⟩
 refine wpAny_pyIter_slot b yD (q_ yD b G3 ?_ (CZ _));show aq _ _ (ret (.ref I)) _ _ s;exact aC ⟨_,rfl,"set_iterator",_,b,zu.lookup,c⟩
theorem mz{I a:af}{first:ah}{i:Nat}{f:Array (Int×ah)}{g:Nat}{t:iu}{Q:Option ah->ao->Prop}(n:s.heap.get? a=aa {cls:=.type "set",dict:=ae,data:=.set f g t})(m:t.fits f.size=ai)(l:s.heap.get? I=aa (gt first i a f.size g))(h:aq (ar P w) A.in1 (if let .int slot _:=first then do
    match <-kP a slot.toNat (i:Int).toNat (g:Int).toNat with
    |some (x,next)=>do
     kQ (.ref I) 0 (cN next)
     kQ (.ref I) 1 (cN ((i:Int)+1))
     ret x
    |none=>do kQ (.ref I) 2 .none;raiseNew (<-newExc (.type "StopIteration") [])
   else do
    let aa places <-seqItems? first|unsupported "internal:set_iterator"
    match places[(i:Int).toNat]? with
    |some (.int d _)=>do
     let x <-setNextDrawn a d.toNat (g:Int).toNat
     kQ (.ref I) 1 (cN ((i:Int)+1))
     ret x
    |some _=>unsupported "internal:set_iterator"
    |none=>do kQ (.ref I) 0 (cN 0);kQ (.ref I) 2 .none;raiseNew (<-newExc (.type "StopIteration") []))
   (λc b=>∃r,c=.done (.ret r)/\Q (aa r) b) (λe b=>aq (ar P w) A (do if <-isInstance e (.type "StopIteration")then pure ae else throw e) Q E b) s) :
  aq (ar P w) A (pyNext (.ref I)) Q E s:=by
 have j:s.TypeIs (.ref I) "set_iterator":=⟨_,l,rfl⟩
 unfold pyNext;refine ap (wpAny_attempt (wpAny_callSpecial?_slot (name:=q8 "__next__") j zu (q_ zu j F_ ?_ (G5 _))));unfold Builtin.«set_iterator.__next__» slotArgs;refine ap (aC ?_);refine ap (wpAny_fieldsOf l rfl ?_);show aq _ _ (setEntries a >>= _) _ _ s;refine ap (wpAny_setEntries_of n rfl m ?_);have u:(((f.size:Nat):Int) != ((f.size:Nat):Int))=aj:=by simp
 rw[u];simp only[jS,if_false];refine dO ?_ (λc b q=>?_) (λe b q=>q) (Q:=λc b=>∃r,c=.done (.ret r)/\Q (aa r) b) (E:=λe b=>aq (ar P w) A (do if <-isInstance e (.type "StopIteration")then pure ae else throw e) Q E b)
 .exact h
 .obtain⟨r,p,o⟩:=q;exact⟨r,p,aC o⟩
end
theorem xt{a:Type}:∀{l:List a}{i:Nat} (h:i<l.length),(l[i]::l.eraseIdx i).Perm l
 |[],i,h=>by simp at h
 |x::r,0,h=>by simp
 |x::r,i+1,h=>by have q:=xt (l:=r) (i:=i) (by simpa using h);simp only[List.getElem_cons_succ,xX];exact(List.Perm.swap x _ _).trans (List.Perm.cons x q)
theorem zN{f:Type}(next:Nat->Nat):∀(c k:Nat) (a:List f) (b:Array f),c=a.length->(pickOrder.go next c k a b).toList.Perm (b.toList++a)
 |0,k,a,b,h=>by have:a=[]:=jj h.symm;subst this;simp[pickOrder.go]
 |c+1,k,a,b,h=>by
  have d:next k % a.length<a.length:=Nat.mod_lt _ ∅
  unfold pickOrder.go;rw[eG d];dsimp only;have g:=zN next c (k+1) (a.eraseIdx (next k % a.length)) (b.push a[next k % a.length]) (by rw[List.length_eraseIdx,if_pos d];lia)
  refine g.trans ?_;rw[rk,jT];exact Cn _ (xt d)
theorem zC{b:Type}(next:Nat->Nat)(a:Array b):(rm next a).toList.Perm a.toList:=by
 have:=zN next a.size 0 a.toList #[] (by simp)
 simpa[rm]using this
section
variable{P:aK}{w:aD}{A:aM}{E:ah->ao->Prop}{s:ao}
theorem HS{a:Source}{n:Nat}{Q:Nat->ao->Prop}(b:n≠0)(h:∀k d,k<n->Q k {s with drawn:=d}):aq (ar P w) A (choose a n) Q E s:=λc p hΓ=>by unfold choose;rw[Sem.wp_choose];refine⟨b,?_⟩;exact h _ _ (Nat.mod_lt _ (Nat.pos_of_ne_zero b))
theorem zF{f:Type}:∀(n:Nat) (a:List f) (s:ao) (Q:List f->ao->Prop),n=a.length->(∀b d,b.Perm a->Q b {s with drawn:=d})->aq (ar P w) A (drawOrder n a) Q E s
 |0,[],s,Q,_,h=>by unfold drawOrder;exact aC (h [] s.drawn (pf _))
 |0,x::a,s,Q,hn,h=>by simp at hn
 |n+1,[],s,Q,hn,h=>by simp at hn
 |n+1,x::a,s,Q,hn,h=>by unfold drawOrder;refine ap (HS (by simp) λk d c=>?_);rw[eG c];dsimp only;refine ap (zF n ((x::a).eraseIdx k) _ _ (by rw[List.length_eraseIdx,if_pos c];lia) λb i g=>?_);refine aC (h _ i ?_);exact(List.Perm.cons _ g).trans (xt c)
theorem sR{Q:Option ah->ao->Prop}{R:Fin->ao->Prop}(f:A.handled=ae)(g:∀c,(∀b o,s.heap.get? b=aa o->c.get? b=aa o)->Q ae {s with heap:=c}):aq (ar P w) A.in1 (do raiseNew (<-newExc (.type "StopIteration") [])) R (λe d=>aq (ar P w) A (do if <-isInstance e (.type "StopIteration")then pure ae else throw e) Q E d) s:=by
 refine ap ?_;simp only[newExc,newTuple];refine ap (kL ?_ (by size_fits));refine ap (m:=firstArgMember _ _) (u6 (a:=Value.none) (by first|rfl | (simp only[firstArgMember];rfl)) ?_);refine kL ?_ (by size_fits);simp only[raiseNew];refine ap (wpAny_handled ?_);rw[show A.in1.handled=ae from f];refine ap (aC (wpAny_throw ?_));refine ap (Co (T:="StopIteration") (b:=ai) ⟨_,cg _ rfl,rfl⟩ isSubtype_stop ?_);exact aC (g _ λb o e=>bd _ (bd _ e))
theorem wN{I a:af}{first d:ah}{i n f:Nat}{Q:Unit->ao->Prop}(c:s.heap.get? I=aa (gt first i a n f))(h:∀b,jf I s.heap b->b.get? I=aa (gt d i a n f)->Q () {s with heap:=b}):aq (ar P w) A (kQ (.ref I) 0 d) Q E s:=by refine rq c rfl (by simp[gt]) (h _ (ng ..) ?_);rw[mX _ c (by rfl)];rfl
theorem vZ{I a:af}{first:ah}{i n d:Nat}{Q:Unit->ao->Prop}(c:s.heap.get? I=aa (gt first i a n d))(h:∀b,jf I s.heap b->b.get? I=aa (gt first (i+1) a n d)->Q () {s with heap:=b}):aq (ar P w) A (kQ (.ref I) 1 (cN ((i:Int)+1))) Q E s:=by refine rq c rfl (by simp[gt]) (h _ (ng ..) ?_);rw[mX _ c (by rfl)];rfl
theorem tG{I a:af}{first:ah}{i n d:Nat}{Q:Unit->ao->Prop}(c:s.heap.get? I=aa (gt first i a n d))(h:∀b,jf I s.heap b->(∃o,b.get? I=aa o)->Q () {s with heap:=b}):aq (ar P w) A (kQ (.ref I) 2 .none) Q E s:=by refine rq c rfl (by simp[gt]) (h _ (ng ..) ⟨_,mX _ c (by rfl)⟩)
abbrev mK(a:Array (Int×ah))(b:Nat)(t:iu):Obj:={cls:=.type "set",dict:=ae,data:=.set a b t}
theorem HF{I a:af}{d:Array (Int×ah)}{g:Nat}{t:iu}(x:a≠I)(m:t.fits d.size=ai)(f:cJ w=ai)(C:A.handled=ae):Walks P w A I [I,a] [I] d.size (λi v=>((rm (w.params.setOrder a g) d).toList.map (·.2))[i]?=aa v) (λi h=>h.get? I=aa (gt (cN 0) i a d.size g)/\h.get? a=aa (mK d g t)):=by
 have hsz:(rm (w.params.setOrder a g) d).size=d.size:=by have:=(zC (w.params.setOrder a g) d).length_eq;simpa using this
 have j:∀(s:ao) (i:Nat) (Q:Option (ah×Nat)->ao->Prop) (E:ah->ao->Prop),s.heap.get? a=aa (mK d g t) ->
   Q (((rm (w.params.setOrder a g) d)[i]?).map λe=>(e.2,0)) s->aq (ar P w) A.in1 (kP a (0:Int).toNat (i:Int).toNat (g:Int).toNat) Q E s:=λs i Q E u B=>by
  unfold kP;refine ap (pi u rfl m ?_);unfold u7;refine ap (ap (pr (aC ?_)));show aq _ _ (if cJ w=ai then _ else _) _ _ s;rw[if_pos f];simp only[lJ,bne_self_eq_false,jS,if_false];unfold setWalk;refine ap (ap (pi u rfl m ?_));unfold u7;refine ap (ap (pr (aC ?_)));show aq _ _ (if cJ w=ai then _ else _) _ _ s;rw[if_pos f];refine ap (pr (aC (aC ?_)));exact B
 refine⟨λb f=>by simp at f;simp[f],λi h H c k=>⟨k I (by simp) _ c.1,k a (by simp) _ c.2⟩,λi s Q E G c l=>?_,λs Q E c l=>?_,λi s Q E c l=>sK c.1 l⟩
 .refine mz c.2 m c.1 ?_;refine ap (j s i _ _ c.2 ?_);have y:i<(rm (w.params.setOrder a g) d).size:=∅
  rw[u8 y];dsimp only[Option.map_some];refine ap (wN c.1 λq n F=>?_);refine ap (vZ (s:={s with heap:=q}) F λp r D=>?_);refine aC ⟨_,rfl,l _ p s.toks ?_ ⟨D,?_⟩ λb o f e=>?_⟩
  .rw[iq];simp[u8 y]
  .exact(r.2 a x).trans ((n.2 a x).trans c.2)
  .exact(r.2 b (by simpa using f)).trans ((n.2 b (by simpa using f)).trans e)
 .refine mz c.2 m c.1 ?_;refine ap (j s d.size _ _ c.2 ?_);rw[Array.getElem?_eq_none ∅];dsimp only[Option.map_none];refine ap (tG c.1 λq n _=>?_);exact sR (s:={s with heap:=q}) C λp z=>l p s.toks λb o f e=>z b o ((n.2 b (by simpa using f)).trans e)
theorem KA{I a T:af}{f:Array (Int×ah)}{K:Nat}{t:iu}{c:List Nat}(cB:a≠I)(Y:T≠I)(D:t.fits f.size=ai)(H:c.Perm (cm f.size))(X:A.handled=ae):Walks P w A I [I,a,T] [I] f.size (λi v=>(c.filterMap λj=>(f[j]?).map (·.2))[i]?=aa v) (λi h=>h.get? I=aa (gt (.ref T) i a f.size K)/\h.get? a=aa (mK f K t)/\h.get? T=aa {cls:=.type "tuple",data:=.seq (c.map λ(k:Nat)=>cN k).toArray}):=by
 have B:c.length=f.size:=by simpa using H.length_eq
 have p:∀j∈c,j<f.size:=λj C=>by simpa using H.mem_iff.mp C
 have fm:∀(l:List Nat),(∀j∈l,j<f.size)->∀(i j:Nat),l[i]?=aa j->∃e:Int×ah,f[j]?=aa e/\(l.filterMap λj=>(f[j]?).map (·.2))[i]?=aa e.2:=by
  intro l
  induction l with
  |nil=>intro _ i j h;simp at h
  |cons x r N=>
   intro J i j h;have O:x<f.size:=J x (je ..);have G:f[x]?=aa f[x]:=u8 O;cases i with
   |zero=>simp at h;subst h;exact⟨_,G,by rw[qZ,G];rfl⟩
   |succ i=>obtain⟨e,z,y⟩:=N (λj C=>J j (iO _ C)) i j (by simpa using h);exact⟨e,z,by rw[qZ,G];simpa using y⟩
 have g:∀(s:ao) (Q:Option (Array ah)->ao->Prop) (E:ah->ao->Prop),s.heap.get? T=aa {cls:=.type "tuple",data:=.seq (c.map λ(k:Nat)=>cN k).toArray}->Q (aa (c.map λ(k:Nat)=>cN k).toArray) s->aq (ar P w) A.in1 (seqItems? (.ref T)) Q E s:=λs Q E S W=>by exact u9 S rfl W
 refine⟨λb m=>by simp at m;simp[m],λi h h' d k=>⟨k I (by simp) _ d.1,k a (by simp) _ d.2.1,k T (by simp) _ d.2.2⟩,λi s Q E hi d q=>?_,λs Q E d q=>?_,λi s Q E d q=>sK d.1 q⟩
 .refine mz d.2.1 D d.1 ?_;refine ap (g s _ _ d.2.2 ?_);have L:i<c.length:=∅
  have u:((c.map λ(k:Nat)=>cN k).toArray)[(i:Int).toNat]?=aa (cN (c[i]:Nat)):=by simp[L]
  dsimp only;rw[u];obtain⟨e,z,y⟩:=fm c p i c[i] (eG L);show aq _ _ (setNextDrawn a _ _ >>= _) _ _ s;refine ap ?_;unfold setNextDrawn;refine ap (pi d.2.1 rfl D ?_);simp only[lJ,bne_self_eq_false,jS,if_false];rw[z];refine aC ?_;refine ap (vZ d.1 λF n e2=>?_);refine aC ⟨_,rfl,q _ F s.toks y ⟨e2,(n.2 a cB).trans d.2.1,(n.2 T Y).trans d.2.2⟩ λb o m e=>(n.2 b (by simpa using m)).trans e⟩
 .refine mz d.2.1 D d.1 ?_;refine ap (g s _ _ d.2.2 ?_);have u:((c.map λ(k:Nat)=>cN k).toArray)[(f.size:Int).toNat]?=ae:=by simp[B]
  dsimp only;rw[u];refine ap (wN d.1 λh1 gJ u=>?_);refine ap (tG (s:={s with heap:=h1}) u λF n _=>?_);exact sR (s:={s with heap:=F}) X λZ M=>q Z s.toks λb o m e=>M b o ((n.2 b (by simpa using m)).trans ((gJ.2 b (by simpa using m)).trans e))
theorem DY(j k:Nat):KY #[j] k=if j<k then 1 else 0:=by
 unfold KY;simp only[bM,d8,iS];unfold Cp;simp;split
 .rename_i h;unfold Cp;simp
 .unfold Cp;simp
theorem Ea{I a:af}{g:Array (Int×ah)}{n:Nat}{t:iu}(L:a≠I)(r:t.fits g.size=ai)(f:cJ w=aj)(N:t.led=ai)(m:g.size=1)(S:A.handled=ae):Walks P w A I [I,a] [I] 1 (λi v=>(g.toList.map (·.2))[i]?=aa v) (λi h=>h.get? I=aa (gt (cN (if i=0 then 0 else((t.place.getD 0 0:Nat):Int)+1)) i a g.size n)/\h.get? a=aa (mK g n t)):=by
 have z:t.place.size=1:=by simp only[SetTable.fits,eU,beq_iff_eq]at r;lia
 obtain⟨j,H⟩:=Array.size_eq_one_iff.mp z;have K:((t.place.getD 0 0:Nat):Int)=(j:Int):=by rw[H];rfl
 obtain⟨e,J⟩:=Array.size_eq_one_iff.mp m;have l:∀(s:ao) (d:Nat) (i:Nat) (Q:Option (ah×Nat)->ao->Prop) (E:ah->ao->Prop),s.heap.get? a=aa (mK g n t) ->
   Q (if j<d then ae else aa (e.2,j+1)) s->aq (ar P w) A.in1 (kP a d i n) Q E s:=λs d i Q E T q=>by
  unfold kP;refine ap (pi T rfl r ?_);unfold u7;refine ap (ap (pr (aC ?_)));show aq _ _ (if cJ w=ai then _ else _) _ _ s;rw[if_neg (by rw[f];decide)];refine u_ (λB=>absurd (show(!t.plain&&decide (g.size > 1))=ai from B) (by rw[m];simp)) (λ_=>?_);refine ap ?_;refine dO (Q:=λ_ F=>F=s) (E:=E) ?_ (λ_ F y=>?_) (λ_ _ x=>x)
  .refine u_ (λB=>absurd (show(!t.led&&!g.isEmpty)=ai from B) (by rw[N];simp)) (λ_=>aC rfl)
  .subst y;rw[H,DY,J];by_cases M:j<d
   .rw[if_pos M]at q ⊢;exact aC q
   .rw[if_neg M]at q ⊢;exact aC q
 refine⟨λb f=>by simp at f;simp[f],λi h Y c k=>⟨k I (by simp) _ c.1,k a (by simp) _ c.2⟩,λi s Q E X c p=>?_,λs Q E c p=>?_,λi s Q E c p=>sK c.1 p⟩
 .obtain rfl:i=0:=∅
  refine mz c.2 r c.1 ?_;show aq _ _ (kP a (0:Int).toNat ((0:Nat):Int).toNat (n:Int).toNat >>= _) _ _ s;simp only[lJ,Int.toNat_zero];refine ap (l s 0 0 _ _ c.2 ?_);rw[if_neg (Nat.not_lt_zero j)];dsimp only;refine ap (wN c.1 λm u D=>?_);refine ap (vZ (s:={s with heap:=m}) D λC G W=>?_);refine aC ⟨_,rfl,p _ C s.toks ?_ ⟨?_,?_⟩ λb o f e=>?_⟩
  .rw[J];rfl
  .rw[W,if_neg (by decide),K];rfl
  .exact(G.2 a L).trans ((u.2 a L).trans c.2)
  .exact(G.2 b (by simpa using f)).trans ((u.2 b (by simpa using f)).trans e)
 .refine mz c.2 r c.1 ?_;rw[if_neg (by decide),K];show aq _ _ (kP a ((j:Int)+1).toNat ((1:Nat):Int).toNat (n:Int).toNat >>= _) _ _ s;have D:((j:Int)+1).toNat=j+1:=∅
  rw[D,lJ,lJ];refine ap (l s (j+1) 1 _ _ c.2 ?_);rw[if_pos (lN j)];dsimp only;refine ap (tG c.1 λm u _=>?_);exact sR (s:={s with heap:=m}) S λC O=>p C s.toks λb o f e=>O b o ((u.2 b (by simpa using f)).trans e)
theorem t4:∀{a:List ah}{b:List Str} (i:Nat) (v:ah),c7 a b->a[i]?=aa v->∃t,v=.str (b.getD i fu) t
 |_,_,i,v,.nil,h=>by simp at h
 |_,_,0,v,.cons y t _,h=>by simp at h;exact⟨t,by rw[<-h];rfl⟩
 |_,_,i+1,v,.cons y t hr,h=>by simp only[List.getElem?_cons_succ]at h;obtain⟨c,e⟩:=t4 i v hr h;exact⟨c,by rw[e];rfl⟩
end
theorem Bq{n:Nat}(h:n<=4096):n<a9:=xU h (by decide)
theorem Iu:typeLookup (.type "set") "__len__"=pure (aa (.builtin "set.__len__")):=F.slot_set_len.lookup
section
variable{P:aK}{w:aD}{A:aM}{E:ah->ao->Prop}{s:ao}
def qi(w:aD)(h:ay)(a:af)(b:Array (Int×ah)):Prop:=∃(c:Nat) (t:iu),h.get? a=aa {cls:=.type "set",dict:=ae,data:=.set b c t}/\b.size<4090/\t.fits b.size=ai/\t.led=(!cJ w)/\(b.size≠0->t.plain=aj)
theorem qi.at{w:aD}{h b:ay}{a:af}{es:Array (Int×ah)}(S:qi w h a es)(k:∀o,h.get? a=aa o->b.get? a=aa o):qi w b a es:=by obtain⟨c,t,e,r⟩:=S;exact⟨c,t,k _ e,r⟩
theorem iN.e{h:ay}{a:af}{ks:List Str}(S:iN P w h a ks):∃es ss,qi w h a es/\c7 (es.toList.map (·.2)) ss/\ss.Perm ks:=by
 obtain⟨es,l,t,ss,f,c,b,i,hsz,g,d,n⟩:=S.ex;refine⟨es,ss,⟨l,t,f,hsz,g,d,λj=>n λz=>j ?_⟩,c,b⟩;have m:=b.length_eq;have o:ss.length=es.size:=by rw[<-c.strs];simp
 rw[z,iS]at m;lia
structure AG(P:aK)(w:aD)(s s':ao)(a I:af)(es:Array (Int×ah))(fp:List af)(n:Nat)(Pv:Nat->ah->Prop)(St:Nat->ay->Prop):Prop where
 wk:∀A:aM,A.handled=ae->Walks P w A I fp [I] n Pv St
 st:St 0 s'.heap
 old:∀b o,s.heap.get? b=aa o->s'.heap.get? b=aa o
 new:s.heap.objs.size<=I
 lt:∀b∈fp,b<s'.heap.objs.size
 rest:s'={s with heap:=s'.heap,drawn:=s'.drawn}
 ord:∀aU:Array ah,ItemsOf Pv aU n->aU.toList.Perm (es.toList.map (·.2))
 len:n<4090
 fps:∀b∈fp,b=a\/s.heap.objs.size<=b
theorem t0{l:List ah}{a:Array ah}{n:Nat}(c:l.length=n)(h:ItemsOf (λi v=>l[i]?=aa v) a n):a.toList=l:=by
 refine xY λi=>?_;by_cases b:i<n
 .have:i<a.size:=by rw[h.1];exact b
  have q:=h.2 i a[i] (u8 this);rw[q];simp[this]
 .rw[vd (by rw[kF,h.1];lia),vd ∅]
theorem Ez{I a:af}{d:Array (Int×ah)}{j:Nat}{t:iu}(L:a≠I)(u:t.fits d.size=ai)(g:cJ w=aj)(n:d.size=0)(D:A.handled=ae):Walks P w A I [I,a] [I] 0 (λi v=>(d.toList.map (·.2))[i]?=aa v) (λi h=>h.get? I=aa (gt (cN 0) 0 a d.size j)/\h.get? a=aa (mK d j t)):=by
 have y:d=#[]:=Array.eq_empty_of_size_eq_zero n;have l:∀(s:ao) (f:Nat) (i:Nat) (Q:Option (ah×Nat)->ao->Prop) (E:ah->ao->Prop),s.heap.get? a=aa (mK d j t) ->
   Q ae s->aq (ar P w) A.in1 (kP a f i j) Q E s:=λs f i Q E F B=>by
  unfold kP;refine ap (pi F rfl u ?_);unfold u7;refine ap (ap (pr (aC ?_)));show aq _ _ (if cJ w=ai then _ else _) _ _ s;rw[if_neg (by rw[g];decide)];refine u_ (λq=>absurd (show(!t.plain&&decide (d.size > 1))=ai from q) (by rw[n];simp)) (λ_=>?_);refine ap ?_;refine dO (Q:=λ_ r=>r=s) (E:=E) ?_ (λ_ r p=>?_) (λ_ _ x=>x)
  .refine u_ (λq=>absurd (show(!t.led&&!d.isEmpty)=ai from q) (by rw[y];simp)) (λ_=>aC rfl)
  .subst p;rw[y];have J:∀k:Nat,(#[]:Array (Int×ah))[k]?=ae:=λk=>by simp
   dsimp only;rw[J];exact aC B
 refine⟨λb g=>by simp at g;simp[g],λi h K c k=>⟨k I (by simp) _ c.1,k a (by simp) _ c.2⟩,λi s Q E C c m=>absurd C (Nat.not_lt_zero i),λs Q E c m=>?_,λi s Q E c m=>sK c.1 m⟩;refine mz c.2 u c.1 ?_;show aq _ _ (kP a (0:Int).toNat ((0:Nat):Int).toNat (j:Int).toNat >>= _) _ _ s;simp only[lJ,Int.toNat_zero];refine ap (l s 0 0 _ _ c.2 ?_);dsimp only;refine ap (tG c.1 λn H _=>?_);exact sR (s:={s with heap:=n}) D λG z=>m G s.toks λb o g e=>z b o ((H.2 b (by simpa using g)).trans e)
theorem Go{a:af}{g:Array (Int×ah)}{Q:ah->ao->Prop}(S:qi w s.heap a g)(h:∀x I C n D St,AG P w s x a I g C n D St->Q (.ref I) x):aq (ar P w) A (kH (.ref a)) Q E s:=by
 obtain⟨M,t,l,hsz,p,nr,c9⟩:=S;have Y:s.TypeIs (.ref a) "set":=⟨_,l,rfl⟩
 have iF:=bw l;refine wpAny_pyIter_slot Y F.slot_set_iter (q_ F.slot_set_iter Y Dd ?_ (F.args_set_iter_1 _));unfold Builtin.«frozenset.__iter__» Builtin.Frozenset.slot0 slotArgs Builtin.Frozenset.addrOf Builtin.Frozenset.sizeOf;refine ap (aC ?_);refine ap (ap (wpAny_setEntries_of l rfl p (aC ?_)));unfold setDrawn;refine ap (ap (pi l rfl p ?_));unfold u7;refine ap (ap (pr (aC ?_)));refine aC ?_;have i:∀(first:ah) (u:ao) (C:List af) (n:Nat) (D:Nat->ah->Prop) (St:Nat->ay->Prop),u.heap.get? a=aa {cls:=.type "set",dict:=ae,data:=.set g M t} ->
   AG P w s {u with heap:=u.heap.push (gt first 0 a g.size M)} a u.heap.objs.size g C n D St ->
   aq (ar P w) A.in1 (do
    let e <-setEpoch a
    let f <-newFields "set_iterator" [first,cN 0,Value.ref a,cN (g.size:Nat),cN (e:Nat)]
    ret f) (λi x=>∃v,i=Fin.done (Flow.ret v)/\∃Z r,x.TypeIs v Z/\typeLookup (Value.type Z) (q8 "__next__")=pure (aa r)/\Q v x) E u:=λfirst u C n D St ha W=>by
  refine ap (wpAny_setEpoch_of ha rfl p ?_);refine ap (kL ?_);exact aC ⟨_,rfl,"set_iterator",_,⟨_,cg _ rfl,rfl⟩,zu.lookup,h _ _ C n D St W⟩
 refine u_ (λJ=>?_) (λJ=>?_)
 .have L:(!cJ w&&(!t.plain&&decide (g.size > 1)))=ai:=J;refine ap (zF g.size (cm g.size) s _ (by simp) λG d H=>?_);refine ap (wpAny_newTuple ?_ (hsz:=by rw[eT,H.length_eq,Ci];exact kC (Bq ∅)));refine i _ _ _ _ _ _ (bd _ l) ⟨λO q=>KA (T:=s.heap.objs.size) (cD (by rw[g8];exact jU iF)) (cD (by rw[g8];exact lN _)) p H q,⟨cg _ rfl,?_,?_⟩,?_,?_,?_,rfl,?_,hsz,?_⟩
  .exact bd _ (bd _ l)
  .exact bd _ (cg _ rfl)
  .exact λb o e=>bd _ (bd _ e)
  .rw[g8];exact rh _
  .intro b c;simp only[bF,iT,or_false]at c;rw[g8,g8];rcases c with rfl|rfl|rfl
   .rw[g8];exact lN _
   .exact jU (jU iF)
   .exact jU (lN _)
  .intro N m;have e0:(G.filterMap λj=>(g[j]?).map (·.2))=(G.filterMap λj=>g[j]?).map (·.2):=by rw[List.map_filterMap]
   have y:(G.filterMap λj=>g[j]?).Perm g.toList:=by have:=H.filterMap λj=>g[j]?;rwa[filterMap_getElem?_range]at this
   rw[e0]at m;rw[t0 (by rw[eT,y.length_eq];simp) m];exact y.map _
  .intro b c;simp only[bF,iT,or_false]at c;rcases c with rfl|rfl|rfl
   .rw[g8];exact .inr (rh _)
   .exact .inl rfl
   .exact .inr (aY _)
 .have L:¬(!cJ w&&(!t.plain&&decide (g.size > 1)))=ai:=J;refine ap (aC ?_);cases c:cJ w with
  |true=>
   refine i _ _ _ _ _ _ l ⟨λO q=>HF (cD iF) p c q,⟨cg _ rfl,bd _ l⟩,λb o e=>bd _ e,aY _,?_,rfl,?_,hsz,λb c=>?_⟩
   .intro b c;simp only[bF,iT,or_false]at c;rw[g8];rcases c with rfl|rfl
    .exact lN _
    .exact jU iF
   .intro N m;have y:=zC (w.params.setOrder a M) g;rw[t0 (by rw[eT,y.length_eq];simp) m];exact y.map _
   .simp only[bF,iT,or_false]at c;exact c.elim (λz=>.inr (jQ z.symm)) .inl
  |false=>
   have K:g.size=1\/g.size=0:=by
    by_cases X:g.size=0
    .exact .inr X
    .rw[c,c9 X]at L;simp at L;lia
   rcases K with B|B
   .refine i _ _ _ _ _ _ l ⟨λO q=>Ea (cD iF) p c (by rw[nr,c];rfl) B q,⟨cg _ rfl,bd _ l⟩,λb o e=>bd _ e,aY _,?_,rfl,?_,by decide,λb c=>?_⟩
    .intro b c;simp only[bF,iT,or_false]at c;rw[g8];rcases c with rfl|rfl
     .exact lN _
     .exact jU iF
    .intro N m;rw[t0 (by simp[B]) m]
    .simp only[bF,iT,or_false]at c;exact c.elim (λz=>.inr (jQ z.symm)) .inl
   .refine i _ _ _ _ _ _ l ⟨λO q=>Ez (cD iF) p c B q,⟨cg _ rfl,bd _ l⟩,λb o e=>bd _ e,aY _,?_,rfl,?_,by decide,λb c=>?_⟩
    .intro b c;simp only[bF,iT,or_false]at c;rw[g8];rcases c with rfl|rfl
     .exact lN _
     .exact jU iF
    .intro N m;rw[t0 (by simp[B]) m]
    .simp only[bF,iT,or_false]at c;exact c.elim (λz=>.inr (jQ z.symm)) .inl
theorem Dx{a:af}{m:Array (Int×ah)}{Q:List ah->ao->Prop}(J:A.handled=ae)(S:qi w s.heap a m)(h:∀(d:ao) (C:List ah),C.Perm (m.toList.map (·.2))->(∀b o,s.heap.get? b=aa o->d.heap.get? b=aa o)->d.gens=s.gens->d.os=s.os->Q C d):aq (ar P w) A (collect (.ref a)) Q E s:=by
 obtain⟨K,t,H,N,_⟩:=id S;have iF:=bw H;unfold collect;refine ap (wpAny_runValue (lM F.entry_proto_collect ?_));rw[nh F.plain_proto_collect _];show aq _ A.in1 (newList [] >>= λl=>again (.builtin "list.__iadd__" ⟨[l,.ref a],[]⟩)) _ _ s;refine ap (kL ?_);refine aC ⟨ni F.plain_list_iadd _,lM F.entry_list_iadd ?_⟩;rw[nh F.plain_list_iadd _];show aq _ A.in1 (Builtin.List.listExtendWith (.ref s.heap.objs.size) (.ref a) (.ref s.heap.objs.size)) _ _ _;unfold Builtin.List.listExtendWith;have j:∀u:ao,u.heap.get? a=aa {cls:=.type "set",dict:=ae,data:=.set m K t}->u.TypeIs (.ref a) "set":=λu e=>⟨_,e,rfl⟩
 have D:(s.heap.push {cls:=.type "list",data:=.seq ([]:List ah).toArray}).get? a=aa {cls:=.type "set",dict:=ae,data:=.set m K t}:=bd _ H;refine ap (wpAny_typeOf (j _ D) ?_);have X:Builtin.List.listSameRef (.ref s.heap.objs.size) (.ref a)=aj:=by have:¬(s.heap.objs.size=a):=lG iF;simp[Builtin.List.listSameRef,this]
 rw[if_neg (by rw[X];decide)];refine ap (Go (S.at λo e=>bd _ e) λr I Y n Pv St W=>?_);have B:=W.old a _ D;refine ap (io ?_);unfold Builtin.List.listLengthHint;refine ap (uS (j _ B) Iu ?_)
 wp_delta
 refine ap (Co (T:="set") (b:=ai) (j _ B) (by rw[isSubtype_type];kernel_rfl) ?_);show aq _ A.in1 (typeOf (Value.ref a) >>= _) _ _ _;refine ap (wpAny_typeOf (T:="set") (j _ B) ?_);refine aC ?_;rw[if_pos (by decide)];refine ap (kN ?_);have O:(s.heap.push {cls:=.type "list",data:=.seq ([]:List ah).toArray}).get? s.heap.objs.size=aa {cls:=.type "list",data:=.seq ([]:List ah).toArray}:=cg _ rfl;have i:=W.old _ _ O;unfold Builtin.List.listTouch;refine ap (ap (xZ i rfl ?_ (by decide) (by show 1<=a9+1;decide)));have g:=ve i (λa:Array ah=>a.push Value.none);refine xZ g rfl ?_ (by show 1<=a9;decide) (by show 0<=a9+1;decide);have y:=ve g (λa:Array ah=>a.pop);have L:s.heap.objs.size∉Y:=λz=>by
  rcases W.fps _ z with q|q
  .exact absurd iF (by rw[<-q];exact gf _)
  .rw[g8]at q;exact absurd (lN _) (Nat.not_lt.mpr q)
 have G:∀b o,b≠s.heap.objs.size->r.heap.get? b=aa o->(((r.heap.update s.heap.objs.size (fv λa=>a.push Value.none)).update s.heap.objs.size (fv λa=>a.pop))).get? b=aa o:=λb o f e=>by rw[Cq _ _ _ _ f,Cq _ _ _ _ f];exact e
 have Z:St 0 (((r.heap.update s.heap.objs.size (fv λa=>a.push Value.none)).update s.heap.objs.size (fv λa=>a.pop))):=(W.wk A.in1 J).frame 0 _ _ W.st λb f o e=>G b o (λz=>L (z ▸ f)) e;refine aC ⟨ni F.plain_extend_loop _,codeAny_extend_loopS (W.wk A.in1 J).toS (kC (Bq (by have:=W.len;lia))) _ L _ n 0 _ _ _ rfl (kM _) Z y (ItemsOf.nil _) λd c c' v x M=>?_⟩;show aq _ A (load s.heap.objs.size >>= _) _ _ d;refine ap (wpAny_load x ?_);refine aC (h d c.toList (W.ord c M) (λb o e=>?_) ?_ ?_)
 .have p:=bw e;refine v.heap b o (λf=>?_) (G b o (cD p) (W.old b o (bd _ e)));rcases bF.mp f with z|z
  .exact absurd p (by rw[z];exact gf _)
  .rw[eV.mp z]at p;have:=W.new;rw[g8]at this;exact absurd p (Nat.not_lt.mpr (Nat.le_of_succ_le this))
 .rw[v.gens,W.rest]
 .rw[v.os,W.rest]
theorem GG{a:af}{ks:List Str}{Q:List ah->ao->Prop}(p:A.handled=ae)(S:iN P w s.heap a ks)(h:∀(c:ao) (d:List ah) (ss:List Str),c7 d ss->ss.Perm ks->d.length<4090->(∀b o,s.heap.get? b=aa o->c.heap.get? b=aa o)->c.gens=s.gens->c.os=s.os->Q d c):aq (ar P w) A (collect (.ref a)) Q E s:=by
 obtain⟨r,ss,S,q,n⟩:=S.e;have m:r.size<4090:=by obtain⟨_,_,_,z,_⟩:=S;exact z
 refine Dx p S λc d pv l j i=>?_;obtain⟨t,g,f⟩:=vY pv q;exact h c d t g (f.trans n) (by have:=pv.length_eq;simp at this;lia) l j i
end
def b9(a:List Tx):List Tx:=a.foldl (λks x=>if x∈ks then ks else ks++[x]) []
theorem y9(b:List Tx):met (λi=>(b.map tS).getD i fu) b.length=(b9 b).map tS:=by
 have d:∀(l:List Tx) (a:List Tx),(l.map tS).foldl ik (a.map tS)=(l.foldl (λks x=>if x∈ks then ks else ks++[x]) a).map tS:=by
  intro l
  induction l with
  |nil=>intro a;rfl
  |cons x r g=>
   intro a;rw[ji,m_,m_];have:ik (a.map tS) (tS x)=(if x∈a then a else a++[x]).map tS:=by
    unfold ik;have f:tS x∈a.map tS↔x∈a:=by rw[cV];exact⟨λ⟨y,j,e⟩=>by rw[<-qj e];exact j,λh=>⟨x,h,rfl⟩⟩
    by_cases h:x∈a
    .rw[if_pos h,if_pos (f.mpr h)]
    .rw[if_neg h,if_neg (λz=>h (f.mp z)),uY];rfl
   rw[this,g]
 have e:(cm b.length).map (λi=>(b.map tS).getD i fu)=b.map tS:=by
  refine xY λi=>?_;rw[iq];by_cases c:i<b.length
  .rw[Cg c];simp[c]
  .rw[vd (by simpa using c),vd (by simpa using c)];rfl
 unfold met;rw[e];exact d b []
theorem Aw(l c:List Tx):(c.Nodup->(l.foldl (λks x=>if x∈ks then ks else ks++[x]) c).Nodup)/\∀x,x∈l.foldl (λks x=>if x∈ks then ks else ks++[x]) c↔x∈c\/x∈l:=by
 induction l generalizing c with
 |nil=>exact⟨λh=>h,λx=>by simp⟩
 |cons y r g=>
  rw[m_];obtain⟨m,j⟩:=g (if y∈c then c else c++[y]);refine⟨λh=>m ?_,λx=>?_⟩
  .split
   .exact h
   .rename_i d;rw[List.nodup_append];exact⟨h,by simp,λa i b f=>by simp at f;subst f;exact λe=>d (e ▸ i)⟩
  .rw[j x,bF];split
   .rename_i d;constructor
    .rintro(h|h)
     .exact .inl h
     .exact .inr (.inr h)
    .rintro(h|rfl|h)
     .exact .inl h
     .exact .inl d
     .exact .inr h
   .rw[iP,eV,or_assoc]
theorem Kd(l:List Tx):(b9 l).Nodup:=(Aw l []).1 List.nodup_nil
theorem lp(l:List Tx)(x:Tx):x∈b9 l↔x∈l:=by rw[b9,(Aw l []).2 x];simp
theorem A4(l:List Tx):(b9 l).length<=l.length:=by
 have b:∀(l a:List Tx),(l.foldl (λks x=>if x∈ks then ks else ks++[x]) a).length<=a.length+l.length:=by
  intro l
  induction l with
  |nil=>intro a;simp
  |cons x r c=>intro a;rw[m_];refine cn (c _) ?_;split <;> simp <;> lia
 simpa[b9]using b l []
section
variable{X:Cx}
def me(X:Cx)(a:af)(b:List Tx):HO:=.ext λh=>iN X.prog X.w h a (b.map tS)
end
structure cF(K:au)(mg:Str->Option ah)(x:Str)(st:a8):Prop where
 ex:∃f fd,mg x=aa (.ref f)/\mr K x x st f fd
theorem AS{H:Hp}{p:af}{o:HO}(h:H p=ae):Same H (upd H p o):=λb u q=>by rw[b7 (mq q h)];exact q
theorem AT{a:Type}{xs:List a}{k:Int}(b:0<=k)(h:k.toNat<xs.length):fc xs k=aa xs[k.toNat]:=by
 have e:((k.toNat:Nat):Int)=k:=∅
 have q:=IB (xs:=xs) (j:=k.toNat) (v:=xs[k.toNat]) (by simp[h]);rwa[e]at q
def zv(N:List Str)(d a:cL)(x:Str)(c:List Str)(b:List Nat):Bool :=
 decide (a.kind=.function)&&a.names.all (λy=>(decide (y.2≠.cell)||decide (a.names.lookup y.1=aa .cell))&&(decide (y.2≠.local)||decide (a.names.lookup y.1=aa .local))&&(decide (y.2≠.free)||decide (d.names.lookup y.1=aa .cell)||decide (d.names.lookup y.1=aa .free)))
 && (decide (a.names.lookup x=aa .local)||decide (a.names.lookup x=aa .cell))&&decide c.Nodup&&decide (c.head?=aa x)&&decide (c.length=b.length+1)&&(b.zip c.tail).all λp=>(decide (N[p.1]?=aa p.2)&&decide (a.names.lookup p.2=aa .free))||(decide (N.length<=p.1)&&decide (a.names.lookup p.2=aa .local))
theorem jC.of{X:Cx}{a:cL}{x:Str}{N':List Str}{cap:List Nat}(N:List Str)(d:cL)(l:X.N=N)(f:X.env.scope=d)(h:zv N d a x N' cap=ai):jC X a x N' cap:=by
 subst l f;simp only[zv,eU,decide_eq_true_eq,kR,u0]at h;obtain⟨⟨⟨⟨⟨⟨r,c⟩,q⟩,p⟩,o⟩,n⟩,m⟩:=h;refine⟨r,λy b e=>(c y b).1.1.elim (λz=>absurd e z) λz=>z,λy b e=>?_,q,λy b e=>?_,p,o,n,λi j y t s=>?_⟩
 .rcases(c y b).1.2 with z|z
  .exact absurd e z
  .exact z
 .rcases(c y b).2 with(z|z)|z
  .exact absurd e z
  .exact .inl z
  .exact .inr z
 .have g:(j,y)∈cap.zip N'.tail:=by
   refine Cr.mpr ⟨i,?_⟩;rw[List.getElem?_zip_eq_some];refine⟨s,?_⟩;rw[<-List.drop_one,List.getElem?_drop,Nat.add_comm];exact t
  exact m _ g
theorem BF(a b:Tx):cC (tV a) (tV b)=decide (a=b):=by show(tS a == tS b)=_;rw[jN];simp only[beq_iff_eq,decide_eq_true_eq];exact⟨qj,λh=>by rw[h]⟩
theorem EA(a:List Tx)(x:Tx):((bA a).countP λz=>cC z (tV x))=a.count x:=by unfold bA List.count;rw[List.countP_map];refine List.countP_congr λy _=>?_;simp only[Function.comp_apply,BF,decide_eq_true_eq,beq_iff_eq]
end L2
namespace Pu
open L2
abbrev St:=L2.St
inductive PV where
 |non|bl (b:Bool)|int (i:Int)|str (x:Tx)|tup (xs:List PV)|lst (xs:List PV)|raw (v:V)|exc (c:ah)
def FF(a:af)(c:ah):HO:=.ext λh=>∃o b,h.get? a=aa o/\o.cls=c/\o.data=.fields b/\o.dict=ae
def cA:Nat:=1000000
theorem jE:cA<=a9:=by rw[mV];decide
def dE:HO->Prop
 |.lst _=>True
 |.dK _=>True
 |.dT _=>True
 |.dN _=>True
 |.ins _ _ _=>True
 |.own _=>True
 |_=>False
mutual
def aJ(K:au)(H:Hp)(F:af->Prop):PV->V->Prop
 |.non,v=>v=.non
 |.bl b,v=>v=.bl b
 |.int i,v=>v=.int i
 |.str x,v=>v=tV x/\x.length<=cA
 |.tup f,v=>∃a d,v=.ref a/\H a=aa (.tup d)/\aX K H F f d
 |.lst f,v=>∃a d,v=.ref a/\Rd H a (.lst d)/\F a/\aX K H F f d
 |.raw u,v=>v=u
 |.exc c,v=>∃a,v=.ref a/\H a=aa (FF a c)
def aX(K:au)(H:Hp)(F:af->Prop):List PV->List V->Prop
 |[],a=>a=[]
 |x::b,a=>∃v r,a=v::r/\aJ K H F x v/\aX K H F b r
end
section
variable{K:au}{H H':Hp}{F b:af->Prop}
mutual
theorem aJ.mono(i:∀a,F a->b a)(g:∀a c,F a->Rd H a (.lst c)->Rd H' a (.lst c))(f:∀a o,H a=aa o->¬dE o->H' a=aa o):∀(x:PV) (v:V),aJ K H F x v->aJ K H' b x v
 |.non,_,h=>h
 |.bl _,_,h=>h
 |.int _,_,h=>h
 |.str _,_,h=>h
 |.raw _,_,h=>h
 |.exc _,_,⟨a,e,h⟩=>⟨a,e,f a _ h id⟩
 |.tup c,_,⟨a,d,e,l,j⟩=>⟨a,d,e,f a _ l id,aX.mono i g f c d j⟩
 |.lst c,_,⟨a,d,e,l,m,j⟩=>⟨a,d,e,g a d m l,i a m,aX.mono i g f c d j⟩
theorem aX.mono(i:∀a,F a->b a)(g:∀a c,F a->Rd H a (.lst c)->Rd H' a (.lst c))(f:∀a o,H a=aa o->¬dE o->H' a=aa o):∀(c:List PV) (d:List V),aX K H F c d->aX K H' b c d
 |[],_,h=>h
 |x::c,_,⟨v,r,e,l,j⟩=>⟨v,r,e,aJ.mono i g f x v l,aX.mono i g f c r j⟩
end
theorem aX.len:∀{a:List PV}{vs:List V},aX K H F a vs->vs.length=a.length
 |[],_,h=>by rw[show _=[] from h];rfl
 |_::_,_,⟨_,_,e,_,b⟩=>by rw[e,d8,d8,aX.len b]
theorem aX.get:∀{c:List PV}{d:List V}{i:Nat}{x:PV},aX K H F c d->c[i]?=aa x->∃v,d[i]?=aa v/\aJ K H F x v
 |[],_,_,_,_,e=>by simp at e
 |x::c,_,0,y,⟨v,r,e,h1,_⟩,q=>by simp at q;subst q;subst e;exact⟨v,rfl,h1⟩
 |x::c,_,i+1,y,⟨v,r,e,_,h2⟩,q=>by obtain⟨w,a,b⟩:=aX.get (i:=i) (x:=y) h2 (by simpa using q);subst e;exact⟨w,by simpa using a,b⟩
theorem aX.back:∀{c:List PV}{d:List V}{i:Nat}{v:V},aX K H F c d->d[i]?=aa v->∃x,c[i]?=aa x/\aJ K H F x v
 |[],_,_,_,h,e=>by rw[show _=[] from h]at e;simp at e
 |x::c,_,0,y,⟨v,r,e,h1,_⟩,q=>by subst e;simp at q;subst q;exact⟨x,rfl,h1⟩
 |x::c,_,i+1,y,⟨v,r,e,_,h2⟩,q=>by subst e;obtain⟨w,a,b⟩:=aX.back (i:=i) (v:=y) h2 (by simpa using q);exact⟨w,by simpa using a,b⟩
theorem aX.app:∀{a b:List PV}{d c:List V},aX K H F a d->aX K H F b c->aX K H F (a++b) (d++c)
 |[],_,_,_,h,g=>by rw[show _=[] from h];exact g
 |x::a,_,_,_,⟨v,r,e,i,f⟩,g=>by subst e;exact⟨v,_,rfl,i,aX.app f g⟩
theorem aX.one{x:PV}{v:V}(h:aJ K H F x v):aX K H F [x] [v]:=⟨v,[],rfl,h,rfl⟩
theorem aX.drop:∀(n:Nat) {a:List PV}{b:List V},aX K H F a b->aX K H F (a.drop n) (b.drop n)
 |0,_,_,h=>h
 |_+1,[],_,h=>by rw[show _=[] from h];rfl
 |n+1,_::_,_,⟨_,_,e,_,h2⟩=>by subst e;exact aX.drop n h2
theorem aX.take:∀(n:Nat) {a:List PV}{b:List V},aX K H F a b->aX K H F (a.take n) (b.take n)
 |0,_,_,_=>by rw[x0,x0];rfl
 |_+1,[],_,h=>by rw[show _=[] from h];rfl
 |n+1,_::_,_,⟨v,_,e,h1,h2⟩=>by subst e;exact⟨v,_,rfl,h1,aX.take n h2⟩
theorem aX.set{x:PV}{v:V}(c:aJ K H F x v):∀(n:Nat) {a:List PV}{b:List V},aX K H F a b->aX K H F (a.set n x) (b.set n v)
 |_,[],_,h=>by rw[show _=[] from h];rfl
 |0,_::_,_,⟨_,r,e,_,h2⟩=>by subst e;exact⟨v,r,rfl,c,h2⟩
 |n+1,_::_,_,⟨w,_,e,h1,h2⟩=>by subst e;exact⟨w,_,rfl,h1,aX.set c n h2⟩
end
structure bn(O O' F F':af->Prop)(H H':Hp):Prop where
 fro:∀a,F a->F' a
 keep:∀b o,H b=aa o->¬O b->H' b=aa o
 there:∀b o,H b=aa o->∃o',H' b=aa o'
 fnew:∀a,F' a->F a\/H a=ae\/O a
 onew:∀a,O' a->O a\/H a=ae
theorem bn.refl(O F:af->Prop)(H:Hp):bn O O F F H H:=⟨λ_ h=>h,λ_ _ h _=>h,λ_ o h=>⟨o,h⟩,λ_ h=>.inl h,λ_ h=>.inl h⟩
theorem bn.trans{O i f F m l:af->Prop}{H d j:Hp}(g:bn O i F m H d)(k:bn i f m l d j):bn O f F l H j where
 fro:=λa h=>k.fro a (g.fro a h)
 keep:=λb o h n=>k.keep b o (g.keep b o h n) λz=>(g.onew b z).elim n λq=>by rw[q]at h;cases h
 there:=λb o h=>let ⟨o',c⟩:=g.there b o h;k.there b o' c
 fnew:=λa h=>by
  have back:d a=ae->H a=ae\/O a:=λz=>by
   cases q:H a with
   |none=>exact .inl rfl
   |some o=>obtain⟨o',c⟩:=g.there a o q;rw[z]at c;cases c
  rcases k.fnew a h with z|z|z
  .exact g.fnew a z
  .exact .inr (back z)
  .exact .inr ((g.onew a z).symm)
 onew:=λa h=>by
  rcases k.onew a h with z|z
  .exact g.onew a z
  .cases q:H a with
   |none=>exact .inr rfl
   |some o=>obtain⟨o',c⟩:=g.there a o q;rw[z]at c;cases c
def Fit(O F:af->Prop)(H:Hp):Prop:=∀b,O b->¬F b/\∃o,H b=aa o/\dE o
section
variable{K:au}{O c F b:af->Prop}{H H':Hp}
theorem bn.imm(g:bn O c F b H H')(f:Fit O F H){a:af}{o:HO}(h:H a=aa o)(n:¬dE o):H' a=aa o :=
 g.keep _ _ h λz=>by
  obtain⟨_,j,d,i⟩:=f a z;rw[h]at d;cases d;exact n i
theorem bn.lst(g:bn O c F b H H')(f:Fit O F H){a:af}{d:List V}(i:F a)(h:Rd H a (.lst d)):Rd H' a (.lst d):=by
 have no:¬O a:=λz=>(f a z).1 i;rcases h with h|⟨o,h⟩
 .exact .inl (g.keep _ _ h no)
 .exact .inr ⟨o,g.keep _ _ h no⟩
theorem aJ.grow(g:bn O c F b H H')(f:Fit O F H){x:PV}{v:V}(h:aJ K H F x v):aJ K H' b x v:=aJ.mono g.fro (λ_ _ a q=>g.lst f a q) (λ_ _ q n=>g.imm f q n) x v h
theorem aX.grow(g:bn O c F b H H')(f:Fit O F H){x:List PV}{v:List V}(h:aX K H F x v):aX K H' b x v:=aX.mono g.fro (λ_ _ a q=>g.lst f a q) (λ_ _ q n=>g.imm f q n) x v h
end
theorem _root_.L2.Same.rd{H b:Hp}{a:af}{u:HO}(e:Same H b)(h:Rd H a u):Rd b a u:=h.elim (λz=>.inl (e _ _ z)) λ⟨o,z⟩=>.inr ⟨o,e _ _ z⟩
structure Al(F F':af->Prop)(H H':Hp):Prop where
 fro:∀a,F a->F' a
 same:Same H H'
 fnew:∀a,F' a->F a\/(H a=ae/\∃o,H' a=aa o)
theorem Al.refl(F:af->Prop)(H:Hp):Al F F H H:=⟨λ_ h=>h,Same.refl H,λ_ h=>.inl h⟩
theorem Al.grow{F d O:af->Prop}{H c:Hp}(a:Al F d H c):bn O O F d H c :=⟨a.fro,λb o h _=>a.same b o h,λb o h=>⟨o,a.same b o h⟩,λb h=>(a.fnew b h).imp id λz=>.inl z.1,λ_ h=>.inl h⟩
theorem Al.rep{K:au}{F c:af->Prop}{H b:Hp}(a:Al F c H b){x:PV}{v:V}(h:aJ K H F x v):aJ K b c x v:=aJ.mono a.fro (λ_ _ _ q=>a.same.rd q) (λ_ _ q _=>a.same _ _ q) x v h
theorem Al.reps{K:au}{F c:af->Prop}{H b:Hp}(a:Al F c H b){x:List PV}{v:List V}(h:aX K H F x v):aX K b c x v:=aX.mono a.fro (λ_ _ _ q=>a.same.rd q) (λ_ _ q _=>a.same _ _ q) x v h
theorem Al.trans{F i g:af->Prop}{H f d:Hp}(a:Al F i H f)(b:Al i g f d):Al F g H d :=
 ⟨λc h=>b.fro c (a.fro c h),a.same.trans b.same,λc h=>by
  rcases b.fnew c h with z|⟨z,w⟩
  .rcases a.fnew c z with y|⟨y,o,q⟩
   .exact .inl y
   .exact .inr ⟨y,o,b.same _ _ q⟩
  .exact .inr ⟨a.same.free z,w⟩⟩
theorem Al.new{F:af->Prop}{H:Hp}{l:af}{o:HO}(h:H l=ae):Al F (λa=>F a\/a=l) H (upd H l o) :=⟨λ_ h=>.inl h,AS h,λa z=>z.imp id λe=>by subst e;exact⟨h,o,cI⟩⟩
theorem Al.new0{F:af->Prop}{H:Hp}{l:af}{o:HO}(h:H l=ae):Al F F H (upd H l o):=⟨λ_ h=>h,AS h,λa z=>.inl z⟩
inductive PO where
 |lst (xs:List PV)|dK (kvs:List (bH×PV))|lls (iA:List (List PV))|ins (C:af) (fs:List (Str×PV))|dT (kvs:List (List bH×PV))|dN (kvs:List ((Tx×List Tx)×PV))|inl (C:af) (fs:List (Str×PV)) (y:Str) (xs:List PV)
def ga:PO->Bool
 |.lls _=>aj
 |.inl ..=>aj
 |_=>ai
inductive Slot where
 |none|val (v:PV)|own (o:PO)
abbrev ak:=List Slot
def uz(K:au)(H:Hp)(F:af->Prop)(a:List (bH×PV))(b:List (bH×V)):Prop:=jc (λ(p:bH×PV) (q:bH×V)=>p.1=q.1/\aJ K H F p.2 q.2) a b
def qp(K:au)(H:Hp)(F:af->Prop)(fs:List (Str×PV))(a:List (Str×V)):Prop:=jc (λ(p:Str×PV) (q:Str×V)=>p.1=q.1/\aJ K H F p.2 q.2) fs a
def uj(K:au)(H:Hp)(F:af->Prop)(a:List (List bH×PV))(b:List (List bH×V)):Prop:=jc (λ(p:List bH×PV) (q:List bH×V)=>p.1=q.1/\aJ K H F p.2 q.2) a b
def nS(k:Tx×List Tx):Str×List Str:=(tS k.1,k.2.map tS)
def jG(K:au)(H:Hp)(F:af->Prop)(a:List ((Tx×List Tx)×PV))(b:List ((Str×List Str)×V)):Prop:=jc (λ(p:(Tx×List Tx)×PV) (q:(Str×List Str)×V)=>nS p.1=q.1/\aJ K H F p.2 q.2) a b
def uw(K:au)(H:Hp)(F:af->Prop)(d:List (List PV))(f:List af):Prop:=jc (λ(c:List PV) (b:af)=>∃a,H b=aa (.lst a)/\aX K H F c a) d f
def dU(K:au)(H:Hp)(F:af->Prop)(l:PO)(a:af)(S:af->Prop):Prop :=
 match l with
 |.lst i=>(∃g,H a=aa (.lst g)/\aX K H F i g)/\∀b,S b↔b=a
 |.dK f=>(∃d,H a=aa (.dK d)/\uz K H F f d)/\∀b,S b↔b=a
 |.lls m=>∃h,H a=aa (.lst (h.map .ref))/\uw K H F m h/\h.Nodup/\a∉h/\∀b,S b↔b=a\/b∈h
 |.ins C fs=>(∃j d,H a=aa (.ins C j d)/\qp K H F fs d)/\∀b,S b↔b=a
 |.dT f=>(∃d,H a=aa (.dT d)/\uj K H F f d)/\∀b,S b↔b=a
 |.dN f=>(∃d,H a=aa (.dN d)/\jG K H F f d)/\∀b,S b↔b=a
 |.inl C fs y i=>∃j d b g,H a=aa (.ins C j (d++[(y,.ref b)]))/\qp K H F fs d/\fs.lookup y=ae/\H b=aa (.lst g)/\aX K H F i g/\a≠b/\∀c,S c↔c=a\/c=b
structure aI(K:au)(F:af->Prop)(S:Nat->af->Prop)(ε:ak)(σ:St)(H:Hp):Prop where
 len:ε.length=σ.length
 ex:∀a,F a->∃o,H a=aa o
 val:∀(i:Nat) (pv:PV),ε[i]?=aa (.val pv)->∃v,σ[i]?=aa (aa v)/\aJ K H F pv v
 own:∀(i:Nat) (po:PO),ε[i]?=aa (.own po)->∃a,σ[i]?=aa (aa (.ref a))/\dU K H F po a (S i)
 foot:∀(i:Nat) (b:af),S i b->(∃po,ε[i]?=aa (.own po))/\¬F b/\∃o,H b=aa o/\dE o
 dist:∀(i j:Nat) (b:af),S i b->S j b->i=j
def U(S:Nat->af->Prop)(b:af):Prop:=∃i,S i b
section
variable{K:au}{F d:af->Prop}{S:Nat->af->Prop}{g:ak}{f:St}{H H':Hp}
theorem aI.fit(r:aI K F S g f H):Fit (U S) F H:=λb ⟨i,h⟩=>(r.foot i b h).2
theorem uz.mono{a:List (bH×PV)}{b:List (bH×V)}(i:∀x v,aJ K H F x v->aJ K H' d x v)(h:uz K H F a b):uz K H' d a b:=by
 unfold uz at h ⊢
 induction h with
 |nil=>exact .nil
 |cons r _ c=>exact .cons ⟨r.1,i _ _ r.2⟩ c
theorem qp.mono{fs:List (Str×PV)}{a:List (Str×V)}(c:∀x v,aJ K H F x v->aJ K H' d x v)(h:qp K H F fs a):qp K H' d fs a:=by
 unfold qp at h ⊢
 induction h with
 |nil=>exact .nil
 |cons r _ b=>exact .cons ⟨r.1,c _ _ r.2⟩ b
theorem uj.mono{a:List (List bH×PV)}{b:List (List bH×V)}(i:∀x v,aJ K H F x v->aJ K H' d x v)(h:uj K H F a b):uj K H' d a b:=by
 unfold uj at h ⊢
 induction h with
 |nil=>exact .nil
 |cons r _ c=>exact .cons ⟨r.1,i _ _ r.2⟩ c
theorem jG.mono{a:List ((Tx×List Tx)×PV)}{b:List ((Str×List Str)×V)}(i:∀x v,aJ K H F x v->aJ K H' d x v)(h:jG K H F a b):jG K H' d a b:=by
 unfold jG at h ⊢
 induction h with
 |nil=>exact .nil
 |cons r _ c=>exact .cons ⟨r.1,i _ _ r.2⟩ c
theorem uw.mono{c:List (List PV)}{a:List af}(l:∀x v,aX K H F x v->aX K H' d x v)(i:∀b o,b∈a->H b=aa o->H' b=aa o)(h:uw K H F c a):uw K H' d c a:=by
 unfold uw at h ⊢
 induction h with
 |nil=>exact .nil
 |cons r _ m=>obtain⟨j,q,p⟩:=r;exact .cons ⟨j,i _ _ (by simp) q,l _ _ p⟩ (m λb o n=>i b o (by simp[n]))
theorem dU.mono{r:PO}{a:af}{t:af->Prop}(l:∀x v,aJ K H F x v->aJ K H' d x v)(p:∀x v,aX K H F x v->aX K H' d x v)(i:∀b o,t b->H b=aa o->H' b=aa o)(h:dU K H F r a t):dU K H' d r a t:=by
 cases r with
 |lst u=>obtain⟨⟨m,e,q⟩,w⟩:=h;exact⟨⟨m,i a _ ((w a).mpr rfl) e,p _ _ q⟩,w⟩
 |dK j=>obtain⟨⟨c,e,q⟩,w⟩:=h;exact⟨⟨c,i a _ ((w a).mpr rfl) e,q.mono l⟩,w⟩
 |lls J=>obtain⟨I,e,q,D,B,w⟩:=h;exact⟨I,i a _ ((w a).mpr (.inl rfl)) e,q.mono p λb o E=>i b o ((w b).mpr (.inr E)),D,B,w⟩
 |ins C fs=>obtain⟨⟨s,c,e,q⟩,w⟩:=h;exact⟨⟨s,c,i a _ ((w a).mpr rfl) e,q.mono l⟩,w⟩
 |dT j=>obtain⟨⟨c,e,q⟩,w⟩:=h;exact⟨⟨c,i a _ ((w a).mpr rfl) e,q.mono l⟩,w⟩
 |dN j=>obtain⟨⟨c,e,q⟩,w⟩:=h;exact⟨⟨c,i a _ ((w a).mpr rfl) e,q.mono l⟩,w⟩
 |inl C fs y u=>obtain⟨s,c,b,m,e,q,n,G,z,A,w⟩:=h;exact⟨s,c,b,m,i a _ ((w a).mpr (.inl rfl)) e,q.mono l,n,i b _ ((w b).mpr (.inr rfl)) G,p _ _ z,A,w⟩
theorem aI.al(r:aI K F S g f H)(a:Al F d H H'):aI K d S g f H' where
 len:=r.len
 ex:=λb h=>(a.fnew b h).elim (λz=>let ⟨o,q⟩:=r.ex b z;⟨o,a.same _ _ q⟩) λz=>z.2
 val:=λi pv e=>let ⟨v,l,j⟩:=r.val i pv e;⟨v,l,a.rep j⟩
 own:=λi n e=>let ⟨b,l,j⟩:=r.own i n e;⟨b,l,j.mono (λ_ _ q=>a.rep q) (λ_ _ q=>a.reps q) λc o _ q=>a.same _ _ q⟩
 foot:=λi b h=>by
  obtain⟨l,j,o,m,p⟩:=r.foot i b h;refine⟨l,λz=>?_,o,a.same _ _ m,p⟩;rcases a.fnew b z with y|⟨y,_⟩
  .exact j y
  .rw[m]at y;cases y
 dist:=r.dist
end
inductive R(α:Type) where
 |ok (a:α) (ε:ak)|er (c:ah) (ε:ak)|no
def R.bind{d b:Type}(r:R d)(k:d->ak->R b):R b:=match r with
 |.ok a ε=>k a ε
 |.er c ε=>.er c ε
 |.no=>.no
def aZ{b:Type}(o:Option b)(c:ak):R b:=match o with
 |some a=>.ok a c
 |none=>.no
@[simp] theorem R.bind_ok{c d:Type}(a:c)(b:ak)(k:c->ak->R d):(R.ok a b).bind k=k a b:=rfl
@[simp] theorem R.bind_er{b d:Type}(c:ah)(a:ak)(k:b->ak->R d):(R.er c a:R b).bind k=.er c a:=rfl
@[simp] theorem R.bind_no{a b:Type}(k:a->ak->R b):(R.no:R a).bind k=.no:=rfl
@[simp] theorem dJ{c:Type}(a:c)(b:ak):aZ (aa a) b=.ok a b:=rfl
@[simp] theorem Ls{b:Type}(a:ak):aZ (ae:Option b) a=.no:=rfl
def Ok(K:au)(E:XK)(h:St)(F:af->Prop)(S:Nat->af->Prop)(H:Hp){i:Type}(r:R i)(C:i->ak->(af->Prop)->(Nat->af->Prop)->Hp->Prop):Prop:=match r with
 |.ok a b=>∀g f d,aI K g f b h d->bn (U S) (U f) F g H d->C a b g f d
 |.er c b=>∀x g f d,aI K g f b h d->bn (U S) (U f) F g H d->E c x d
 |.no=>False
section
variable{K:au}{E:XK}{b:St}{F:af->Prop}{S:Nat->af->Prop}{H:Hp}{d i:Type}{C C':d->ak->(af->Prop)->(Nat->af->Prop)->Hp->Prop}{D:i->ak->(af->Prop)->(Nat->af->Prop)->Hp->Prop}
theorem Ok.imp{r:R d}(h:Ok K E b F S H r C)(f:∀a j n l m,aI K n l j b m->bn (U S) (U l) F n H m->C a j n l m->C' a j n l m):Ok K E b F S H r C':=by
 cases r with
 |ok a j=>exact λn l m r g=>f a j n l m r g (h n l m r g)
 |er c j=>exact h
 |no=>exact h
theorem Ok.from{r:R i}{q:af->Prop}{o:Nat->af->Prop}{p:Hp}(h:Ok K E b F S H r D)(g:bn (U S) (U o) F q H p):Ok K E b q o p r D:=by
 cases r with
 |ok a f=>exact λn l m j g'=>h n l m j (g.trans g')
 |er c f=>exact λx n l m j g'=>h x n l m j (g.trans g')
 |no=>exact h
theorem Ok.bind{r:R d}{k:d->ak->R i}(h:Ok K E b F S H (r.bind k) D):Ok K E b F S H r (λa ε1 m j l=>Ok K E b m j l (k a ε1) D):=by
 cases r with
 |ok a f=>exact λp n o r g=>Ok.from h g
 |er c f=>exact h
 |no=>exact h
end
structure Bx(p:Prop):Prop where
 run:p
def ig(X:Cx)(e:az):TE:=λa H Q=>Bx (∀b s,Inv X b a H s->aq (ar X.prog X.w) X.A (aP e X.env) (EP X b a Q) X.xe s)
def vD(X:Cx)(e:az):TT:=λa H Q=>Bx (∀b s,Inv X b a H s->aq (ar X.prog X.w) X.A (kD e X.env (aP e X.env)) (TP X b a Q) X.xe s)
def wpS(X:Cx)(c:a8):TS:=λD b H=>Bx (∀a s,Inv X a b H s->aq (ar X.prog X.w) X.A (exec c X.env) (SP X a D) X.xe s)
def ol(X:Cx)(c:List a8):TS:=λD b H=>Bx (∀a s,Inv X a b H s->aq (ar X.prog X.w) X.A (execs c X.env) (SP X a D) X.xe s)
section
variable{X:Cx}{e:az}{b:a8}{a:List a8}
theorem bt:PE X e (ig X e):=λc s _ _ _ I h=>h.run c s I
theorem ou:PT X e (vD X e):=λc s _ _ _ I h=>h.run c s I
theorem zx:PS X b (wpS X b):=λc s _ _ _ I h=>h.run c s I
theorem qI:jI X a (ol X a):=λc s _ _ _ I h=>h.run c s I
theorem bW{t:TE}(h:PE X e t){c:St}{H:Hp}{Q:VK}(q:t c H Q):ig X e c H Q:=⟨λd s I=>h d s c H Q I q⟩
theorem qQ{t:TT}(h:PT X e t){c:St}{H:Hp}{Q:Bool->Hp->Prop}(q:t c H Q):vD X e c H Q:=⟨λd s I=>h d s c H Q I q⟩
theorem gW{t:TS}(h:PS X b t){c:St}{H:Hp}{D:jF}(q:t D c H):wpS X b D c H:=⟨λd s I=>h d s c H D I q⟩
theorem wW{t:TS}(h:jI X a t){c:St}{H:Hp}{D:jF}(q:t D c H):ol X a D c H:=⟨λd s I=>h d s c H D I q⟩
end
def DE(X:Cx)(E:XK)(e:az)(d:ak->R PV):Prop :=
 ∀F S b a H Q,aI X.K F S b a H->Ok X.K E a F S H (d b) (λpv _ f _ c=>∀v,aJ X.K c f pv v->Q v c)->ig X e a H Q
def DN(X:Cx)(E:XK)(e:az)(d:ak->R PO):Prop :=
 ∀F S g c H Q,aI X.K F S g c H->Ok X.K E c F S H (d g) (λj _ i l f=>∀a h,dU X.K f i j a h->(∀b,h b->H b=ae/\¬i b/\¬U l b/\∃o,f b=aa o/\dE o)->Q (.ref a) f)->ig X e c H Q
def DT(X:Cx)(E:XK)(e:az)(d:ak->R Bool):Prop :=
 ∀F S c a H Q,aI X.K F S c a H->Ok X.K E a F S H (d c) (λb _ _ _ f=>Q b f)->vD X e a H Q
end Pu
namespace Pu
open L2
section
variable{X:Cx}{E:XK}{a b c:az}{m db A:ak->R PV}{pos:Pos}
def dC(pv:PV):ak->R PV:=λε=>.ok pv ε
theorem bv{i j pos}:DE X E (.Constant (.int i) j pos) (dC (.int i)):=λF S f d H Q r h=>bW J4 (h F S H r (bn.refl ..) _ rfl)
theorem qv{i j pos}:DE X E (.Constant (.bool i) j pos) (dC (.bl i)):=λF S f d H Q r h=>bW Hv (h F S H r (bn.refl ..) _ rfl)
theorem mM(l:Tx){x:Str}{j pos}(d:x=tS l:=by decide +kernel)(f:l.length<=cA:=by decide):DE X E (.Constant (.str x) j pos) (dC (.str l)):=λF S i g H Q r h=>bW GF (h F S H r (bn.refl ..) _ (by rw[d];exact⟨rfl,f⟩))
def dV(i:Nat):ak->R PV:=λε=>match ε[i]? with
 |some (.val pv)=>.ok pv ε
 |_=>.no
theorem aw(i:Nat){x:Str}{pos:Pos}(g:X.N[i]?=aa x:=by rfl)(d:fE X.env.scope x:=by eq_refl)(f:(x==("__debug__":Str))=aj:=by decide)(n:(x==("__classdict__":Str))=aj:=by decide):DE X E (.Name x pos) (dV i):=λF S q o H Q r h=>by
 unfold dV at h;split at h
 .rename_i p e;obtain⟨v,l,j⟩:=r.val i p e;exact bW (gT g d f n) ⟨v,l,h F S H r (bn.refl ..) v j⟩
 .exact h.elim
theorem Bk{x:Str}{i:Int}{pos:Pos}(h:∃t,X.mg x=aa (.int i t))(d:Gl X x:=by rfl)(f:(x==("__debug__":Str))=aj:=by decide):DE X E (.Name x pos) (dC (.int i)):=λF S j g H Q r q=>by obtain⟨t,e⟩:=h;exact bW (AM (v:=.int i) d e ⟨t,rfl⟩ f) (q F S H r (bn.refl ..) _ rfl)
theorem JE{x:Str}{l:Tx}{pos:Pos}(h:∃t,X.mg x=aa (.str (tS l) t))(f:Gl X x:=by rfl)(d:l.length<=cA:=by decide)(g:(x==("__debug__":Str))=aj:=by decide):DE X E (.Name x pos) (dC (.str l)):=λF S j i H Q r q=>by obtain⟨t,e⟩:=h;exact bW (AM (v:=tV l) f e ⟨t,rfl⟩ g) (q F S H r (bn.refl ..) _ ⟨rfl,d⟩)
def aI.frz{K:au}{F:af->Prop}{S:Nat->af->Prop}{p:ak}{t:St}{H:Hp}{i:Nat}{s:List PV}(r:aI K F S p t H)(e:p[i]?=aa (.own (.lst s))):∃a y J,aI K y J (p.set i (.val (.lst s))) t H/\bn (U S) (U J) F y H H/\t[i]?=aa (aa (.ref a))/\aJ K H y (.lst s) (.ref a):=by
 obtain⟨a,I,⟨L,D,M⟩,G⟩:=r.own i _ e;have C:i<p.length:=(cE.mp e).1;have g:∀b,F b->F b\/b=a:=λb h=>.inl h;have mono:∀x v,aJ K H F x v->aJ K H (λb=>F b\/b=a) x v:=aJ.mono g (λ_ _ _ q=>q) (λ_ _ q _=>q);have d:∀x v,aX K H F x v->aX K H (λb=>F b\/b=a) x v:=aX.mono g (λ_ _ _ q=>q) (λ_ _ q _=>q);have B:aJ K H (λb=>F b\/b=a) (.lst s) (.ref a):=⟨a,L,rfl,.inl D,.inr rfl,d _ _ M⟩
 refine⟨a,λb=>F b\/b=a,λj b=>S j b/\j≠i,⟨by rw[gi];exact r.len,λb h=>?_,λj pv q=>?_,λj w q=>?_,λj b h=>?_,λj k b O N=>r.dist j k b O.1 N.1⟩,?_,I,B⟩
 .rcases h with h|rfl
  .exact r.ex b h
  .exact⟨_,D⟩
 .by_cases f:i=j
  .subst f;rw[fq C]at q;cases q;exact⟨_,I,B⟩
  .rw[dq f]at q;obtain⟨v,n,l⟩:=r.val j pv q;exact⟨v,n,mono _ _ l⟩
 .by_cases f:i=j
  .subst f;rw[fq C]at q;cases q
  .rw[dq f]at q;obtain⟨v,n,l⟩:=r.own j w q;refine⟨v,n,?_⟩;have u:=l.mono (H':=H) mono d λ_ _ _ z=>z;have P:(λb=>S j b/\j≠i)=S j:=by funext b;simp[fk f]
   rw[P];exact u
 .obtain⟨⟨w,n⟩,l,u⟩:=r.foot j b h.1;refine⟨⟨w,by rw[dq (fk h.2)];exact n⟩,λz=>?_,u⟩;rcases z with z|rfl
  .exact l z
  .exact h.2 (r.dist j i b h.1 ((G b).mpr rfl))
 .refine⟨λ_ h=>.inl h,λb o h _=>h,λb o h=>⟨o,h⟩,λb h=>?_,λb ⟨j,h⟩=>.inl ⟨j,h.1⟩⟩;rcases h with h|rfl
  .exact .inl h
  .exact .inr (.inr ⟨i,(G b).mpr rfl⟩)
def dM(i:Nat):ak->R PV:=λε=>match ε[i]? with
 |some (.own (.lst d))=>.ok (.lst d) (ε.set i (.val (.lst d)))
 |_=>.no
theorem Kl(i:Nat){x:Str}{pos:Pos}(l:X.N[i]?=aa x:=by rfl)(f:fE X.env.scope x:=by eq_refl)(j:(x==("__debug__":Str))=aj:=by decide)(q:(x==("__classdict__":Str))=aj:=by decide):DE X E (.Name x pos) (dM i):=λF S v u H Q r h=>by
 unfold dM at h;split at h
 .rename_i p e;obtain⟨a,t,s,d,g,o,n⟩:=r.frz e;exact bW (gT l f j q) ⟨_,o,h t s H d g _ n⟩
 .exact h.elim
def P2(K:au)(r:R2)(f:PV->PV->Option PV):Prop:=∀(F:af->Prop) (H:Hp) (x y:PV) (v u:V) (Q:VK) (pv:PV),aJ K H F x v->aJ K H F y u->f x y=aa pv->(∀w g d,Al F g H d->aJ K d g pv w->Q w d)->r v u H Q
def d2(f:PV->PV->Option PV)(m db:ak->R PV):ak->R PV:=λε=>(m ε).bind λx ε1=>(db ε1).bind λy d=>aZ (f x y) d
theorem ul{r:R2}{f:PV->PV->Option PV}(G:P2 X.K r f)(J:DE X E a m)(I:DE X E b db){F:af->Prop}{S:Nat->af->Prop}{l:ak}{d:St}{H:Hp}{Q:VK}(C:aI X.K F S l d H)(h:Ok X.K E d F S H (d2 f m db l) (λpv _ q _ i=>∀v,aJ X.K i q pv v->Q v i)):ig X a d H λx p=>ig X b d p λy o=>r x y o Q:=by
 refine J F S l d H _ C ((Ok.bind h).imp λx j P N p s T K v z=>?_);refine I P N j d p _ s ((Ok.bind K).imp λy t O M o D L g u B=>?_);cases e:f x y with
 |none=>rw[e]at g;exact g.elim
 |some pv=>rw[e]at g;exact G O o x y v u Q pv (z.grow L s.fit) B e λw q i al n=>g q M i (D.al al) al.grow w n
theorem b0{d:Operator}{r:R2}{f:PV->PV->Option PV}(j:bz X (gg d) r)(i:P2 X.K r f)(n:DE X E a m)(l:DE X E b db):DE X E (.BinOp a d b pos) (d2 f m db):=λF S p o H Q g h=>bW (C3 j bt bt) (ul i n l g h)
theorem mO{d:CmpOp}{r:R2}{f:PV->PV->Option PV}(j:bz X (dr d) r)(i:P2 X.K r f)(o:DE X E a m)(n:DE X E b db)(l:mU d b=aj):DE X E (.Compare a [d] [b] pos) (d2 f m db):=λF S q p H Q g h=>bW (IF j bt bt l) (ul i o n g h)
def ke:PV->Option Bool
 |.bl b=>aa b
 |_=>ae
def dB(d:ak->R PV):ak->R Bool:=λε=>(d ε).bind λx ε1=>aZ (ke x) ε1
theorem Bw{K:au}{H:Hp}{F:af->Prop}{x:PV}{v:V}{k:Bool}(h:aJ K H F x v)(e:ke x=aa k):v=.bl k:=by
 cases x <;> simp[ke]at e;subst e;exact h
theorem pW{F:af->Prop}{S:Nat->af->Prop}{j:ak}{i:St}{H:Hp}{Q:Bool->Hp->Prop}{d:ak->R PV}(h:Ok X.K E i F S H (dB d j) (λk _ _ _ g=>Q k g)):Ok X.K E i F S H (d j) (λpv _ s _ g=>∀v,aJ X.K g s pv v->∃k,v=.bl k/\Q k g):=by
 refine(Ok.bind h).imp λx l r p q o t f v n=>?_;cases e:ke x with
 |none=>rw[e]at f;exact f.elim
 |some k=>rw[e]at f;exact⟨k,Bw n e,f r p q o (bn.refl ..)⟩
theorem jy{d:CmpOp}{r:R2}{f:PV->PV->Option PV}(j:bz X (dr d) r)(i:P2 X.K r f)(o:DE X E a m)(n:DE X E b db)(l:mU d b=aj):DT X E (.Compare a [d] [b] pos) (dB (d2 f m db)):=λF S s q H Q g h=>qQ (Fz j bt bt l) (ul (Q:=λx p=>∃k,x=.bl k/\Q k p) i o n g (pW h))
theorem mT{e:az}{d:ak->R PV}(n:DE X E e d)(l:∀f,kD e X.env f=(do let v <-f;standAt e.pos;lF [v] (truthy v)):=by intro _;rfl):DT X E e (dB d):=λF S i g H Q j h=>qQ (IM bt l) (n F S i g H _ j (pW h))
def mC(f g:PV->PV->Option PV)(m db A:ak->R PV):ak->R PV:=λj=>(m j).bind λx i=>(db i).bind λy d=>(aZ ((f x y).bind ke) d).bind λk d=>
 match k with
 |true=>(A d).bind λz h=>aZ (g y z) h
 |false=>.ok (.bl aj) d
theorem Bn{r N:R2}{f g:PV->PV->Option PV}(hp:P2 X.K r f)(gm:P2 X.K N g)(ha:DE X E a m)(hb:DE X E b db)(hc:DE X E c A){F:af->Prop}{S:Nat->af->Prop}{t:ak}{j:St}{H:Hp}{Q:VK}(rl:aI X.K F S t j H)(h:Ok X.K E j F S H (mC f g m db A t) (λpv _ l _ i=>∀v,aJ X.K i l pv v->Q v i)):vQ r N (ig X a) (ig X b) (ig X c) j H Q:=by
 refine ha F S t j H _ rl ((Ok.bind h).imp λx s F1 S1 H1 M g1 h1 v Z=>?_);refine hb F1 S1 s j H1 _ M ((Ok.bind h1).imp λy n P K O r2 g2 d u L=>?_);cases e:f x y with
 |none=>rw[e]at d;exact d.elim
 |some pv=>
  rw[e]at d;refine hp P O x y v u _ pv (Z.grow g2 M.fit) L e λw l i al C=>?_;cases J:ke pv with
  |none=>rw[iw,J]at d;exact d.elim
  |some k=>
   rw[iw,J]at d;refine⟨k,Bw C J,?_⟩;have G:=r2.al al;cases k with
   |false=>exact nZ (Ok.from d al.grow l K i G (bn.refl ..) _ rfl)
   |true=>
    have h3:Ok X.K E j P K O ((A n).bind λz q=>aZ (g y z) q) (λpv _ l _ i=>∀v,aJ X.K i l pv v->Q v i):=d;refine oC (hc l K n j i _ G ((Ok.bind (Ok.from h3 al.grow)).imp λz T F4 S4 H4 r4 g4 p Y D=>?_));cases I:g y z with
    |none=>rw[I]at p;exact p.elim
    |some pz=>rw[I]at p;exact gm F4 H4 y z u Y Q pz ((al.rep L).grow g4 G.fit) D I λW F5 H5 o B=>p F5 S4 H5 (r4.al o) o.grow W B
theorem J_{i d:CmpOp}{r j:R2}{f g:PV->PV->Option PV}(o:bz X (dr i) r)(v:bz X (dr d) j)(n:P2 X.K r f)(u:P2 X.K j g)(t:DE X E a m)(s:DE X E b db)(q:DE X E c A)(p:lastMarks [i,d] [b,c]=aj:=by with_unfolding_all rfl):DE X E (.Compare a [i,d] [b,c] pos) (mC f g m db A):=λF S x w H Q l h=>bW (HD o v bt bt bt p) (Bn n u t s q l h)
theorem Ep{i d:CmpOp}{r j:R2}{f g:PV->PV->Option PV}(o:bz X (dr i) r)(v:bz X (dr d) j)(n:P2 X.K r f)(u:P2 X.K j g)(t:DE X E a m)(s:DE X E b db)(q:DE X E c A)(p:lastMarks [i,d] [b,c]=aj:=by with_unfolding_all rfl):DT X E (.Compare a [i,d] [b,c] pos) (dB (mC f g m db A)):=λF S z y H Q l h=>qQ (HZ o v bt bt bt p) (Bn (Q:=λx w=>∃k,x=.bl k/\Q k w) n u t s q l (pW h))
variable{n B:ak->R Bool}{rest:List az}
def DW(X:Cx)(E:XK)(e:az)(d:ak->R Bool):Prop:=∀F S g f H Q,aI X.K F S g f H->Ok X.K E f F S H (d g) (λb _ _ _ i=>Q b i)->∀(h:Sem ah) ag s,Inv X ag f H s->aq (ar X.prog X.w) X.A (kD e X.env h) (TP X ag f Q) X.xe s
def EY(X:Cx)(e:az):TT:=λd H Q=>∀(f:Sem ah) ag s,Inv X ag d H s->aq (ar X.prog X.w) X.A (kD e X.env f) (TP X ag d Q) X.xe s
theorem Jy{e:az}:PW X e (EY X e):=λd f s _ _ _ I h=>h d f s I
theorem DW.dt{e:az}{d:ak->R Bool}(h:DW X E e d):DT X E e d:=λF S ε f H Q g q=>⟨λi s I=>h F S ε f H Q g q _ i s I⟩
def vI(n B:ak->R Bool):ak->R Bool:=λf=>(n f).bind λk d=>match k with
 |true=>B d
 |false=>.ok aj d
def nK(n B:ak->R Bool):ak->R Bool:=λf=>(n f).bind λk d=>match k with
 |true=>.ok ai d
 |false=>B d
def kh(n:ak->R Bool):ak->R Bool:=λf=>(n f).bind λk d=>.ok (!k) d
theorem vH(h:DT X E a n):DW X E (.BoolOp .Or [a] pos) n:=λF S f d H Q g q i j s I=>Gp ou i j s d H Q I (h F S f d H Q g q)
theorem vL(t:DT X E a n)(r:DW X E (.BoolOp .Or (b::rest) pos) B):DW X E (.BoolOp .Or (a::b::rest) pos) (nK n B):=λF S o d H Q p q u v s I=>by
 refine HC ou Jy u v s d H Q I (t F S o d H _ p ((Ok.bind q).imp λk f l i j g w h=>?_));cases k with
 |true=>exact oC (h l i j g (bn.refl ..))
 |false=>exact nZ (r l i f d j Q g h)
theorem nX(j:DT X E a n):DT X E (.UnaryOp .Not a pos) (kh n):=λF S g d H Q h q=>qQ (EI ou) (j F S g d H _ h ((Ok.bind q).imp λk f r o p i s l=>l r o p i (bn.refl ..)))
def li(m db:ak->R PV):ak->R PV:=λf=>(dB m f).bind λk d=>match k with
 |true=>db d
 |false=>.ok (.bl aj) d
def AI(m db:ak->R PV):ak->R PV:=λf=>(dB m f).bind λk d=>match k with
 |true=>.ok (.bl ai) d
 |false=>db d
def uk(m:ak->R PV):ak->R PV:=λf=>(dB m f).bind λk d=>.ok (.bl (!k)) d
theorem Bo{d:ak->R PV}{q:Type}{D:q->ak->(af->Prop)->(Nat->af->Prop)->Hp->Prop}{k:Bool->ak->R q}{F:af->Prop}{S:Nat->af->Prop}{p:ak}{o:St}{H:Hp}{P:Bool->Hp->Prop}(h:Ok X.K E o F S H ((dB d p).bind k) D) (f:∀c g l j i,aI X.K l j g o i->bn (U S) (U j) F l H i->Ok X.K E o l j i (k c g) D->P c i):Ok X.K E o F S H (d p) (λpv _ x _ r=>∀v,aJ X.K r x pv v->∃c,v=.bl c/\P c r):=by have t:=(Ok.bind h).imp (C':=λc g l j i=>P c i) λc g l j i s w u=>f c g l j i s w u;exact pW t
theorem sM{op}{d:ak->R PV}(h:DE X E a d):DE X E (.BoolOp op [a] pos) d:=λF S g f H Q i q=>bW (Fp bt) (h F S g f H Q i q)
theorem qH(s:DE X E a m)(r:DE X E (.BoolOp .And (b::rest) pos) db):DE X E (.BoolOp .And (a::b::rest) pos) (li m db):=λF S o f H Q p q=>by
 refine bW (Dc bt bt) (s F S o f H _ p (Bo q λk d l i j g t h=>?_));cases k with
 |true=>exact oC (r l i d f j Q g h)
 |false=>exact nZ (h l i j g (bn.refl ..) _ rfl)
theorem IJ(j:DE X E a m):DE X E (.UnaryOp .Not a pos) (uk m):=λF S g d H Q h q=>bW (Jj bt) (j F S g d H _ h (Bo q λk f r o p i s l=>l r o p i (bn.refl ..) _ rfl))
def df{d:Type}(t:ak->R Bool)(m db:ak->R d):ak->R d:=λf=>(t f).bind λk ε1=>match k with
 |true=>m ε1
 |false=>db ε1
theorem Hq(r:DT X E c n)(t:DE X E a m)(s:DE X E b db):DE X E (.IfExp c a b pos) (df n m db):=λF S o f H Q p q=>by
 refine bW (Gg ou bt bt) (r F S o f H _ p ((Ok.bind q).imp λk d l i j g u h=>?_));cases k with
 |true=>exact oC (t l i d f j Q g h)
 |false=>exact nZ (s l i d f j Q g h)
def P1(K:au)(r:V->Hp->VK->Prop)(f:PV->Option PV):Prop:=∀(F:af->Prop) (H:Hp) (x:PV) (v:V) (Q:VK) (pv:PV),aJ K H F x v->f x=aa pv->(∀w g d,Al F g H d->aJ K d g pv w->Q w d)->r v H Q
def d1(f:PV->Option PV)(m:ak->R PV):ak->R PV:=λg=>(m g).bind λx d=>aZ (f x) d
theorem HL{r:V->Hp->VK->Prop}{f:PV->Option PV}(y:P1 X.K r f)(z:DE X E a m){F:af->Prop}{S:Nat->af->Prop}{j:ak}{d:St}{H:Hp}{Q:VK}(t:aI X.K F S j d H)(h:Ok X.K E d F S H (d1 f m j) (λpv _ p _ i=>∀v,aJ X.K i p pv v->Q v i)):ig X a d H λx o=>r x o Q:=by
 refine z F S j d H _ t ((Ok.bind h).imp λx q D C o u G g v s=>?_);cases e:f x with
 |none=>rw[e]at g;exact g.elim
 |some pv=>rw[e]at g;exact y D o x v Q pv s e λw p i al l=>g p C i (u.al al) al.grow w l
theorem G_{d:UnaryOp}{r:V->Hp->VK->Prop}{f:PV->Option PV}(j:uA X (unaryOp d) r)(i:P1 X.K r f)(l:DE X E a m):DE X E (.UnaryOp d a pos) (d1 f m):=λF S p o H Q g h=>bW (IZ j bt) (HL i l g h)
end
def l9(X:Cx)(d:List az):TA:=λb H Q=>Bx (∀a c s,Inv X c b H s->aq (ar X.prog X.w) X.A (spliced (cM a (aN d X.env))) (AP X c b Q) X.xe s)
def DA(X:Cx)(E:XK)(h:List az)(d:ak->R (List PV)):Prop :=
 ∀F S c a H Q,aI X.K F S c a H->Ok X.K E a F S H (d c) (λb _ i _ g=>∀f,aX X.K g i b f->Q f g)->l9 X h a H Q
section
variable{X:Cx}{E:XK}{a b c e:az}{es:List az}{B db D d:ak->R PV}{j:ak->R (List PV)}{pos:Pos}
theorem fN{es:List az}:PA X es (l9 X es):=λpos f s _ _ _ I h=>h.run pos f s I
theorem mo{t:TA}(h:PA X es t){f:St}{H:Hp}{Q:List V->Hp->Prop}(q:t f H Q):l9 X es f H Q:=⟨λpos g s I=>h pos g s f H Q I q⟩
def aH:ak->R (List PV):=λε=>.ok [] ε
def aB(d:ak->R PV)(j:ak->R (List PV)):ak->R (List PV):=λε=>(d ε).bind λx ε1=>(j ε1).bind λg f=>.ok (x::g) f
theorem ba:DA X E [] aH:=λF S i g H Q f h=>mo i5 (h F S H f (bn.refl ..) _ rfl)
theorem GD(t:DE X E e d)(s:DA X E es j)(r:aN (e::es) X.env=(aj,aP e X.env)::aN es X.env:=by rfl):DA X E (e::es) (aB d j):=λF S m g H Q p h=>by refine mo (gU bt fN r) (t F S m g H _ p ((Ok.bind h).imp λx f K C I i M w v o=>?_));refine s K C f g I _ i ((Ok.bind w).imp λL l J A G q z u n y=>?_);exact u J A G q (bn.refl ..) _ ⟨v,n,rfl,o.grow z i.fit,y⟩
theorem aI.more{K:au}{F N:af->Prop}{S:Nat->af->Prop}{n:ak}{m:St}{H:Hp}(r:aI K F S n m H)(p:∀b,N b->¬U S b/\∃o,H b=aa o):aI K (λb=>F b\/N b) S n m H:=by
 have mono:∀x v,aJ K H F x v->aJ K H (λb=>F b\/N b) x v:=aJ.mono (λ_ h=>.inl h) (λ_ _ _ q=>q) (λ_ _ q _=>q);have f:∀x v,aX K H F x v->aX K H (λb=>F b\/N b) x v:=aX.mono (λ_ h=>.inl h) (λ_ _ _ q=>q) (λ_ _ q _=>q);refine⟨r.len,λb h=>h.elim (r.ex b) λz=>(p b z).2,λi pv e=>?_,λi s e=>?_,λi b h=>?_,r.dist⟩
 .obtain⟨v,l,g⟩:=r.val i pv e;exact⟨v,l,mono _ _ g⟩
 .obtain⟨v,l,g⟩:=r.own i s e;exact⟨v,l,g.mono mono f λ_ _ _ z=>z⟩
 .obtain⟨l,g,t⟩:=r.foot i b h;exact⟨l,λz=>z.elim g λw=>(p b w).1 ⟨i,h⟩,t⟩
def vP:PO->Option PV
 |.lst f=>aa (.lst f)
 |_=>ae
def dF(d:ak->R PO):ak->R PV:=λε=>(d ε).bind λf ε1=>aZ (vP f) ε1
theorem DN.de{d:ak->R PO}(h:DN X E e d):DE X E e (dF d):=λF S ε r H Q v q=>by
 unfold dF at q;refine h F S ε r H Q v ?_;cases i:d ε with
 |no=>rw[i]at q;exact q.elim
 |er c s=>rw[i]at q;exact q
 |ok A ε1=>
  rw[i]at q;intro N l m x g a p G n;cases A with
  |dK f=>exact q.elim
  |lls O=>exact q.elim
  |ins C fs=>exact q.elim
  |dT f=>exact q.elim
  |dN f=>exact q.elim
  |inl C fs y t=>exact q.elim
  |lst t=>
   have L:∀b,p b->¬U l b/\∃o,m b=aa o:=λb z=>let ⟨_,_,x3,o,x4,_⟩:=n b z;⟨x3,o,x4⟩
   obtain⟨⟨u,J,I⟩,K⟩:=G;have M:bn (U S) (U l) F (λb=>N b\/p b) H m:=⟨λb z=>.inl (g.fro b z),g.keep,g.there,λb z=>z.elim (g.fnew b) λw=>.inr (.inl (n b w).1),g.onew⟩
   exact q _ l m (x.more L) M _ ⟨a,u,rfl,.inl J,.inr ((K a).mpr rfl),aX.mono (λ_ z=>.inl z) (λ_ _ _ z=>z) (λ_ _ z _=>z) _ _ I⟩
def fh(f:List PV):Option PV:=if f.length<=1000 then aa (.tup f)else ae
def fF(f:List PV):Option PO:=if f.length<=1000 then aa (.lst f)else ae
def dL{g:Type}(f:List PV->Option g)(j:ak->R (List PV)):ak->R g:=λε=>(j ε).bind λh ε1=>aZ (f h) ε1
def PL(K:au)(r:List V->Hp->VK->Prop)(f:List PV->Option PV):Prop:=∀(F:af->Prop) (H:Hp) (h:List PV) (i:List V) (Q:VK) (pv:PV),aX K H F h i->f h=aa pv->(∀w l g,Al F l H g->aJ K g l pv w->Q w g)->r i H Q
def km(K:au)(r:List V->Hp->VK->Prop)(f:List PV->Option PO):Prop:=∀(F:af->Prop) (H:Hp) (i:List PV) (l:List V) (Q:VK) (m:PO),(∀a,F a->∃o,H a=aa o)->aX K H F i l->f i=aa m ->
 (∀a h g n,Al F h H g->dU K g h m a n->(∀b,n b->H b=ae/\¬h b/\∃o,g b=aa o/\dE o)->Q (.ref a) g)->r l H Q
theorem wI{r:List V->Hp->VK->Prop}{f:List PV->Option PV}(y:PL X.K r f)(z:DA X E es j){F:af->Prop}{S:Nat->af->Prop}{n:ak}{g:St}{H:Hp}{Q:VK}(u:aI X.K F S n g H)(h:Ok X.K E g F S H (dL f j n) (λpv _ q _ m=>∀v,aJ X.K m q pv v->Q v m)):l9 X es g H λi p=>r i p Q:=by
 refine z F S n g H _ u ((Ok.bind h).imp λi s G C p x I l t A=>?_);cases e:f i with
 |none=>rw[e]at l;exact l.elim
 |some pv=>rw[e]at l;exact y G p i t Q pv A e λw q m al o=>l q C m (x.al al) al.grow w o
theorem mi{O i F l:af->Prop}{H f:Hp}(g:bn O i F l H f){b:af}(h:f b=ae):H b=ae:=by
 cases q:H b with
 |none=>rfl
 |some o=>obtain⟨o',e⟩:=g.there b o q;rw[h]at e;cases e
theorem tQ{r:List V->Hp->VK->Prop}{f:List PV->Option PO}(M:km X.K r f)(N:DA X E es j){F:af->Prop}{S:Nat->af->Prop}{s:ak}{l:St}{H:Hp}{Q:VK}(K:aI X.K F S s l H)(h:Ok X.K E l F S H (dL f j s) (λu _ q Y g=>∀a p,dU X.K g q u a p->(∀b,p b->H b=ae/\¬q b/\¬U Y b/\∃o,g b=aa o/\dE o)->Q (.ref a) g)):l9 X es l H λm v=>r m v Q:=by
 refine N F S s l H _ K ((Ok.bind h).imp λm A Z W v t P n J O=>?_);cases e:f m with
 |none=>rw[e]at n;exact n.elim
 |some u=>
  rw[e]at n;refine M Z v m J Q u t.ex O e λa q g p al L T=>n q W g (t.al al) al.grow a p L λb z=>?_;obtain⟨x,I,o,G,C⟩:=T b z;refine⟨mi P x,I,λ⟨i,w⟩=>?_,o,G,C⟩;obtain⟨_,_,o',y,_⟩:=t.foot i b w;rw[x]at y;cases y
theorem v9{n:Nat}(h:n<=1000):n<=a9:=kC (Is h)
theorem FM{K:au}:PL K (λf H Q=>f.length<=a9/\∀p,H p=ae->Q (.ref p) (upd H p (.tup f))) fh:=λF H f i Q pv g e q=>by
 unfold fh at e;split at e
 .cases e;refine⟨by rw[g.len];exact v9 (by assumption),λp h=>q _ F _ (Al.new0 h) ⟨p,i,rfl,cI,(Al.new0 h).reps g⟩⟩
 .cases e
theorem tx{K:au}{F:af->Prop}{H:Hp}{l:af}{g:List PV}{f:List V}(i:H l=ae)(h:aX K H F g f):dU K (upd H l (.lst f)) F (.lst g) l (λb=>b=l):=⟨⟨f,cI,(Al.new0 i).reps h⟩,λb=>Iff.rfl⟩
theorem tP{F:af->Prop}{H:Hp}{l:af}{o:HO}(g:H l=ae)(i:∀a,F a->∃o,H a=aa o)(h:dE o):∀b,b=l->H b=ae/\¬F b/\∃f,(upd H l o) b=aa f/\dE f:=λb z=>by
 subst z;exact⟨g,(λw=>by obtain⟨o,q⟩:=i b w;rw[g]at q;cases q),o,cI,h⟩
theorem JA{K:au}:km K (λf H Q=>f.length<=a9/\∀p,H p=ae->Q (.ref p) (upd H p (.lst f))) fF:=λF H f l Q m i h e q=>by
 unfold fF at e;split at e
 .cases e;exact⟨by rw[h.len];exact v9 (by assumption),λp g=>q p F _ _ (Al.new0 g) (tx g h) (tP g i trivial)⟩
 .cases e
theorem qd{x1}(h:DA X E es j):DE X E (.Tuple es x1 pos) (dL fh j):=λF S i g H Q f q=>bW (EB fN) (wI FM h f q)
theorem s_(h:DA X E es j):DN X E (.List es pos) (dL fF j):=λF S i g H Q f q=>bW (JQ fN) (tQ JA h f q)
theorem qG(h:DA X E es j):DE X E (.List es pos) (dF (dL fF j)):=(s_ h).de
variable{x:Str}{p:Pos}{m T:String}{r:List V->Hp->VK->Prop}{f:List PV->Option PV}{A:List PV->Option PO}
theorem dI(t:fY X (.builtin m) r)(i:PL X.K r f)(n:X.mg x=ae)(h:dm x=aa (.builtin m))(u:DA X E (e::es) j)(o:Gl X x:=by rfl)(l:x≠"__name__":=by decide)(v:(x==("__debug__":Str))=aj:=by decide)(s:aN (e::es) X.env=(aj,aP e X.env)::aN es X.env:=by rfl) (w:(cM pos (aN es X.env)).any (·.1)=aj:=by rfl):DE X E (.Call (.Name x p) (e::es) [] pos) (dL f j):=λF S z y H Q g q=>bW (qR t o n h fN l v s w) (wI i u g q)
theorem qc(t:fY X (.builtin m) r)(i:km X.K r A)(n:X.mg x=ae)(h:dm x=aa (.builtin m))(u:DA X E (e::es) j)(o:Gl X x:=by rfl)(l:x≠"__name__":=by decide)(v:(x==("__debug__":Str))=aj:=by decide)(s:aN (e::es) X.env=(aj,aP e X.env)::aN es X.env:=by rfl) (w:(cM pos (aN es X.env)).any (·.1)=aj:=by rfl):DN X E (.Call (.Name x p) (e::es) [] pos) (dL A j):=λF S z y H Q g q=>bW (qR t o n h fN l v s w) (tQ i u g q)
theorem ux(t:fY X (.type T) r)(i:PL X.K r f)(n:X.mg x=ae)(h:dm x=aa (.type T))(u:DA X E (e::es) j)(o:Gl X x:=by rfl)(l:x≠"__name__":=by decide)(v:(x==("__debug__":Str))=aj:=by decide)(s:aN (e::es) X.env=(aj,aP e X.env)::aN es X.env:=by rfl) (w:(cM pos (aN es X.env)).any (·.1)=aj:=by rfl):DE X E (.Call (.Name x p) (e::es) [] pos) (dL f j):=λF S z y H Q g q=>bW (wZ t o n h fN l v s w) (wI i u g q)
theorem wa(t:fY X (.type T) r)(i:km X.K r A)(n:X.mg x=ae)(h:dm x=aa (.type T))(u:DA X E (e::es) j)(o:Gl X x:=by rfl)(l:x≠"__name__":=by decide)(v:(x==("__debug__":Str))=aj:=by decide)(s:aN (e::es) X.env=(aj,aP e X.env)::aN es X.env:=by rfl) (w:(cM pos (aN es X.env)).any (·.1)=aj:=by rfl):DN X E (.Call (.Name x p) (e::es) [] pos) (dL A j):=λF S z y H Q g q=>bW (wZ t o n h fN l v s w) (tQ i u g q)
theorem gQ{r:R2}{f:PV->PV->Option PV}(l:j_ X r)(n:P2 X.K r f)(q:DE X E a B)(o:DE X E b db)(i:AD b:=by exact λ_ _=>rfl):DE X E (.Subscript a b pos) (d2 f B db):=λF S t s H Q g h=>bW (F9 l bt bt i) (ul n q o g h)
def wE(X:Cx)(e:Option az):TO:=λg H Q=>Bx (∀h s,Inv X h g H s->aq (ar X.prog X.w) X.A (evalPart e X.env) (λu l=>∃o i,Inv X h g i l/\kK u o/\Q o i) X.xe s)
theorem yN{o:Option az}:L2.PO X o (wE X o):=λg s _ _ _ I h=>h.run g s I
theorem BG{o:Option az}{t:TO}(h:L2.PO X o t){g:St}{H:Hp}{Q:Option Int->Hp->Prop}(q:t g H Q):wE X o g H Q:=⟨λi s I=>h i s g H Q I q⟩
def DO(X:Cx)(E:XK)(e:Option az)(d:ak->R (Option Int)):Prop:=∀F S h g H Q,aI X.K F S h g H->Ok X.K E g F S H (d h) (λo _ _ _ i=>Q o i)->wE X e g H Q
def jz:ak->R (Option Int):=λg=>.ok ae g
def xk:PV->Option Int
 |.int i=>aa i
 |_=>ae
def eA(d:ak->R PV):ak->R (Option Int):=λε=>(d ε).bind λx g=>aZ ((xk x).map aa) g
theorem tN:DO X E ae jz:=λF S l i H Q g h=>BG FW (h F S H g (bn.refl ..))
theorem lh(u:DE X E e d):DO X E (aa e) (eA d):=λF S o l H Q s h=>by
 refine BG (Ho bt) (u F S o l H _ s ((Ok.bind h).imp λx n z w y t C g v q=>?_));cases x <;> first|exact(show False from g).elim|skip
 rename_i i;exact⟨i,q,g z w y t (bn.refl ..)⟩
def fZ{n:Type}(f:PV->Option Int->Option Int->Option n)(d:ak->R PV)(q o:ak->R (Option Int)):ak->R n:=λε=>(d ε).bind λx i=>(q i).bind λl h=>(o h).bind λu g=>aZ (f x l u) g
def Ap(K:au)(r:V->Option Int->Option Int->Hp->VK->Prop)(f:PV->Option Int->Option Int->Option PV):Prop:=∀(F:af->Prop) (H:Hp) (x:PV) (h i:Option Int) (v:V) (Q:VK) (pv:PV),aJ K H F x v->f x h i=aa pv->(∀w l g,Al F l H g->aJ K g l pv w->Q w g)->r v h i H Q
theorem oM{r:V->Option Int->Option Int->Hp->VK->Prop}{f:PV->Option Int->Option Int->Option PV}{z C:Option az}{I G:ak->R (Option Int)}{O:Pos}(W:kr X r)(Y:Ap X.K r f)(he:DE X E e d)(Z:DO X E z I)(P:DO X E C G):DE X E (.Subscript e (.Slice z C ae O) pos) (fZ f d I G):=λF S K i H Q M h=>by
 refine bW (GL W bt yN yN) (he F S K i H _ M ((Ok.bind h).imp λx o F1 S1 H1 y g1 h1 v L=>?_));refine Z F1 S1 o i H1 _ y ((Ok.bind h1).imp λl n F2 S2 H2 t g2 h2=>?_);refine P F2 S2 n i H2 _ t ((Ok.bind h2).imp λu J F3 S3 H3 N g3 g=>?_);cases s:f x l u with
 |none=>rw[s]at g;exact g.elim
 |some pv=>rw[s]at g;exact Y F3 H3 x l u v Q pv ((L.grow g2 y.fit).grow g3 t.fit) s λw F' H' al q=>g F' S3 H' (N.al al) al.grow w q
end
inductive aR where
 |next|ret (s:Slot)|brk|cont
def qD(K:au)(H:Hp)(F:af->Prop)(s:Slot)(v:V)(c:af->Prop):Prop:=match s with
 |.val pv=>aJ K H F pv v/\∀b,¬c b
 |.own d=>∃a,v=.ref a/\dU K H F d a c
 |.none=>False
def h_(b:List Nat)(c a:St):Prop:=∀i∈b,a[i]?=c[i]?
theorem h_.refl(a:List Nat)(b:St):h_ a b b:=λ_ _=>rfl
theorem h_.trans{c:List Nat}{g f d:St}(a:h_ c g f)(b:h_ c f d):h_ c g d:=λi h=>(b i h).trans (a i h)
theorem h_.set{a:List Nat}{b:St}{i:Nat}{x:Option V}(h:i∉a):h_ a b (b.set i x):=λj c=>by rw[dq (by rintro rfl;exact h c)]
def um(f:af->Prop)(c:Nat->af->Prop)(d:Hp)(a:af->Prop):Prop:=∀b,a b->¬f b/\¬U c b/\∃o,d b=aa o/\dE o
def iL(K:au)(E:XK)(i:List Nat)(j:St)(F:af->Prop)(S:Nat->af->Prop)(H:Hp)(r:R aR)(D:jF):Prop:=match r with
 |.ok .next f=>∀g h a d,aI K g h f a d->bn (U S) (U h) F g H d->h_ i j a->D.nx a d
 |.ok .brk f=>∀g h a d,aI K g h f a d->bn (U S) (U h) F g H d->h_ i j a->D.bk a d
 |.ok .cont f=>∀g h a d,aI K g h f a d->bn (U S) (U h) F g H d->h_ i j a->D.ct a d
 |.ok (.ret s) f=>∀v g h a d l,aI K g h f a d->bn (U S) (λb=>U h b\/l b) F g H d->h_ i j a->qD K d g s v l->um g h d l->D.rt v d
 |.er c f=>∀x g h a d,aI K g h f a d->bn (U S) (U h) F g H d->h_ i j a->E c x d
 |.no=>False
def DS(X:Cx)(E:XK)(b:List Nat)(f:a8)(d:ak->R aR):Prop:=∀F S c a H D,aI X.K F S c a H->iL X.K E b a F S H (d c) D->wpS X f D a H
def gq(X:Cx)(E:XK)(b:List Nat)(f:List a8)(d:ak->R aR):Prop:=∀F S c a H D,aI X.K F S c a H->iL X.K E b a F S H (d c) D->ol X f D a H
section
variable{K:au}{E:XK}{b:List Nat}{d i:St}{F m:af->Prop}{S j:Nat->af->Prop}{H l:Hp}{D:jF}
theorem iL.from{r:R aR}(h:iL K E b d F S H r D)(g:bn (U S) (U j) F m H l)(p:h_ b d i):iL K E b i m j l r D:=by
 cases r with
 |no=>exact h
 |er c w=>exact λx u q a t n g' o=>h x u q a t n (g.trans g') (p.trans o)
 |ok f w=>
  cases f with
  |next=>exact λu q a t n g' o=>h u q a t n (g.trans g') (p.trans o)
  |brk=>exact λu q a t n g' o=>h u q a t n (g.trans g') (p.trans o)
  |cont=>exact λu q a t n g' o=>h u q a t n (g.trans g') (p.trans o)
  |ret s=>exact λv u q a t y n g' o=>h v u q a t y n (g.trans g') (p.trans o)
theorem iL.bindE{o:Type}{r:R o}{k:o->ak->R aR}(h:iL K E b d F S H (r.bind k) D):Ok K E d F S H r (λa f m j l=>iL K E b d m j l (k a f) D):=by
 cases r with
 |no=>exact h
 |er c g=>exact λx t q s p n=>h x t q d s p n (h_.refl _ _)
 |ok a g=>exact λt q s p n=>h.from n (h_.refl _ _)
end
section
variable{X:Cx}{E:XK}{pin:List Nat}{l:a8}{rest:List a8}{d d1 d2:ak->R aR}{e:az}{de:ak->R PV}{pos:Pos}
def eD:ak->R aR:=λa=>.ok .next a
theorem iD:gq X E pin [] eD:=λF S c a H D b h=>wW Eo (h F S a H b (bn.refl ..) (h_.refl _ _))
def br(d1 d2:ak->R aR):ak->R aR:=λε=>match d1 ε with
 |.ok .next ε1=>d2 ε1
 |r=>r
theorem bU(t:DS X E pin l d1)(q:gq X E pin rest d2):gq X E pin (l::rest) (br d1 d2):=λF S i m H D n h=>by
 refine wW (Dm zx qI) (t F S i m H {D with nx:=ol X rest D} n ?_);unfold br at h;split at h
 .rename_i g v;rw[v];exact λy w b x o u p=>q y w g b x D o (h.from u p)
 .rename_i r j;generalize d1 i=r1 at h j;cases r1 with
  |no=>exact h
  |er c a=>exact h
  |ok f a=>
   cases f with
   |next=>exact absurd rfl (j a)
   |brk=>exact h
   |cont=>exact h
   |ret s=>exact h
theorem bB(f:DS X E pin l d1):gq X E pin [l] d1:=λF S b a H D c h=>wW (Ei zx) (f F S b a H D c h)
def BD(f:aR):ak->R aR:=λa=>.ok f a
def Bs(d:ak->R PV):ak->R aR:=λb=>(d b).bind λ_ a=>.ok .next a
def b8(d:ak->R PV):ak->R aR:=λb=>(d b).bind λx a=>.ok (.ret (.val x)) a
theorem bn.cup{O c F i:af->Prop}{H f:Hp}(g:bn O c F i H f):bn O (λb=>c b\/False) F i H f:=⟨g.fro,g.keep,g.there,g.fnew,λa h=>h.elim (g.onew a) jP⟩
theorem cK(j:DE X E e de):DS X E pin (.Return (aa e) pos) (b8 de):=λF S c a H D g h=>gW (vS bt) (j F S c a H _ g (h.bindE.imp λx b p n o i q m v f=>m v p n a o (λ_=>False) i (bn.refl ..).cup (h_.refl _ _) ⟨f,λ_ z=>z⟩ λ_ z=>z.elim))
def l8(d:ak->R PO):ak->R aR:=λε=>(d ε).bind λx ε1=>.ok (.ret (.own x)) ε1
theorem z8{dn:ak->R PO}(t:DN X E e dn):DS X E pin (.Return (aa e) pos) (l8 dn):=λF S j g H D p h=>by
 refine gW (vS bt) (t F S j g H _ p ?_);unfold l8 at h;cases i:dn j with
 |no=>rw[i]at h;exact h.elim
 |er c o=>rw[i]at h;exact λx I A C r u=>h x I A g C r u (h_.refl _ _)
 |ok J n=>rw[i]at h;intro G y B q f a v s m;exact h _ G y g B v q ⟨f.fro,f.keep,f.there,f.fnew,λb z=>z.elim (f.onew b) λw=>.inr (m b w).1⟩ (h_.refl _ _) ⟨a,rfl,s⟩ λb z=>let ⟨_,x2,x3,x4⟩:=m b z;⟨x2,x3,x4⟩
theorem aI.drop{K:au}{F:af->Prop}{S:Nat->af->Prop}{c:ak}{o:St}{H:Hp}(r:aI K F S c o H)(i:Nat):aI K F (λj b=>S j b/\j≠i) (c.set i .none) o H:=by
 have no:∀{j s},(c.set i .none)[j]?=aa s->s≠.none->j≠i/\c[j]?=aa s:=λ{j s} e t=>by
  by_cases f:i=j
  .subst f;by_cases u:i<c.length
   .rw[fq u]at e;exact absurd (dA e).symm t
   .rw[vd (by rw[gi];lia)]at e;cases e
  .rw[dq f]at e;exact⟨fk f,e⟩
 refine⟨by rw[gi];exact r.len,r.ex,λj pv e=>r.val j pv (no e (by intro z;cases z)).2,λj g e=>?_,λj b h=>?_,λj k b n m=>r.dist j k b n.1 m.1⟩
 .obtain⟨f,e⟩:=no e (by intro z;cases z);obtain⟨a,n,m⟩:=r.own j g e;have v:(λb=>S j b/\j≠i)=S j:=by funext b;simp[f]
  exact⟨a,n,by rw[v];exact m⟩
 .obtain⟨⟨g,q⟩,p⟩:=r.foot j b h.1;exact⟨⟨g,by rw[dq (fk h.2)];exact q⟩,p⟩
theorem aI.set{K:au}{F:af->Prop}{S:Nat->af->Prop}{f:ak}{m:St}{H:Hp}{i:Nat}{pv:PV}{v:V}(r:aI K F S f m H)(h:aJ K H F pv v):aI K F (λj b=>S j b/\j≠i) (f.set i (.val pv)) (m.set i (aa v)) H:=by
 have s:=r.drop i;have len:(f.set i (.val pv)).length=(m.set i (aa v)).length:=by rw[gi,gi];exact r.len
 refine⟨len,r.ex,λj p e=>?_,λj n e=>?_,λj b h=>?_,s.dist⟩
 .by_cases c:i=j
  .subst c;have g:i<f.length:=by have:=(cE.mp e).1;rw[gi]at this;exact this
   rw[fq g]at e;cases e;exact⟨v,fq (by rw[<-r.len];exact g),h⟩
  .rw[dq c]at e;obtain⟨w,q,o⟩:=r.val j p e;exact⟨w,by rw[dq c];exact q,o⟩
 .have c:i≠j:=by
   rintro rfl;have g:i<f.length:=by have:=(cE.mp e).1;rw[gi]at this;exact this
   rw[fq g]at e;cases e
  rw[dq c]at e;obtain⟨a,q,o⟩:=r.own j n e;have x:(λb=>S j b/\j≠i)=S j:=by funext b;simp[fk c]
  exact⟨a,by rw[dq c];exact q,by rw[x];exact o⟩
 .obtain⟨⟨n,t⟩,u⟩:=s.foot j b h;refine⟨⟨n,?_⟩,u⟩;rw[dq (fk h.2)]at t ⊢;exact t
theorem bn.less{S:Nat->af->Prop}{F:af->Prop}{H:Hp}(i:Nat):bn (U S) (U λj b=>S j b/\j≠i) F F H H:=⟨λ_ z=>z,λ_ _ z _=>z,λ_ o z=>⟨o,z⟩,λ_ z=>.inl z,λb ⟨j,z⟩=>.inl ⟨j,z.1⟩⟩
theorem aI.setOwn{K:au}{F:af->Prop}{S:Nat->af->Prop}{q:ak}{v:St}{H:Hp}{i:Nat}{s:PO}{a:af}{n:af->Prop}(r:aI K F S q v H)(o:i<q.length)(h:dU K H F s a n)(t:um F S H n):aI K F (λj b=>(S j b/\j≠i)\/(j=i/\n b)) (q.set i (.own s)) (v.set i (aa (.ref a))) H:=by
 have A:=r.drop i;refine⟨by rw[gi,gi];exact r.len,r.ex,λj p e=>?_,λj g e=>?_,λj b h=>?_,λj k b f c=>?_⟩
 .have m:i≠j:=by rintro rfl;rw[fq o]at e;cases e
  rw[dq m]at e;obtain⟨w,f,c⟩:=r.val j p e;exact⟨w,by rw[dq m];exact f,c⟩
 .by_cases m:i=j
  .subst m;rw[fq o]at e;cases e;have u:(λb=>(S i b/\i≠i)\/(i=i/\n b))=n:=by funext b;simp
   exact⟨a,fq (by rw[<-r.len];exact o),by rw[u];exact h⟩
  .rw[dq m]at e;obtain⟨C,f,c⟩:=r.own j g e;have u:(λb=>(S j b/\j≠i)\/(j=i/\n b))=S j:=by funext b;simp[fk m]
   exact⟨C,by rw[dq m];exact f,by rw[u];exact c⟩
 .rcases h with h|⟨rfl,h⟩
  .obtain⟨⟨g,x⟩,B⟩:=A.foot j b h;refine⟨⟨g,?_⟩,B⟩;rw[dq (fk h.2)]at x ⊢;exact x
  .obtain⟨z,D,y⟩:=t b h;exact⟨⟨s,fq o⟩,z,y⟩
 .rcases f with f|⟨rfl,f⟩ <;> rcases c with c|⟨rfl,c⟩
  .exact r.dist j k b f.1 c.1
  .exact absurd ⟨j,f.1⟩ (t b c).2.1
  .exact absurd ⟨k,c.1⟩ (t b f).2.1
  .rfl
def cS(i:Nat)(d:ak->R PV):ak->R aR:=λε=>(d ε).bind λx ε1=>.ok .next (ε1.set i (.val x))
theorem gs(i:Nat){x:Str}{p:Pos}(t:X.N.Nodup)(s:DE X E e de)(o:i∉pin:=by decide)(q:X.N[i]?=aa x:=by rfl)(m:Loc X.env.scope x:=by first|exact Or.inl rfl|exact Or.inr rfl)(n:kG e (aa (.Name x p)) pos.line X.env=pure aj:=by rfl)(r:X.fn x=ai\/X.env.scope.names.lookup x=aa .local:=by first|exact .inl rfl|exact .inr rfl):DS X E pin (.Assign [.Name x p] e pos) (cS i de):=λF S c a H D g h=>gW (Bz t q m bt n r) (s F S c a H _ g (h.bindE.imp λx b y A w j z u v f=>u y _ _ w (j.set f) (bn.less i) (h_.set o)))
def iK(i:Nat)(d:ak->R PO):ak->R aR:=λε=>(d ε).bind λx ε1=>if i<ε1.length then .ok .next (ε1.set i (.own x))else .no
theorem qE(i:Nat){x:Str}{p:Pos}{dn:ak->R PO}(J:X.N.Nodup)(I:DN X E e dn)(B:i∉pin:=by decide)(C:X.N[i]?=aa x:=by rfl)(y:Loc X.env.scope x:=by first|exact Or.inl rfl|exact Or.inr rfl)(A:kG e (aa (.Name x p)) pos.line X.env=pure aj:=by rfl)(G:X.fn x=ai\/X.env.scope.names.lookup x=aa .local:=by first|exact .inl rfl|exact .inr rfl):DS X E pin (.Assign [.Name x p] e pos) (iK i dn):=λF S q o H D t h=>by
 refine gW (Bz J C y bt A G) (I F S q o H _ t ?_);unfold iK at h;cases n:dn q with
 |no=>rw[n]at h;exact h.elim
 |er c s=>rw[n]at h;exact λx P L N v K=>h x P L o N v K (h_.refl _ _)
 |ok Q g=>
  rw[n]at h;simp only[R.bind_ok]at h;intro O W M u f a T w r;by_cases m:i<g.length
  .rw[if_pos m]at h;refine h O _ _ M (u.setOwn m w λb z=>(r b z).2) ⟨f.fro,f.keep,f.there,f.fnew,λb ⟨j,z⟩=>?_⟩ (h_.set B);rcases z with z|⟨_,z⟩
   .exact f.onew b ⟨j,z.1⟩
   .exact .inr (r b z).1
  .rw[if_neg m]at h;exact h.elim
theorem iH{c:az}{a b:List a8}{t:ak->R Bool}(r:DT X E c t)(u:gq X E pin a d1)(s:gq X E pin b d2):DS X E pin (.If c a b pos) (df t d1 d2):=λF S p g H D q h=>by
 refine gW (J0 ou qI qI) (r F S p g H _ q (h.bindE.imp λk f o m n i v j=>?_));cases k with
 |true=>exact oC (u o m f g n D i j)
 |false=>exact nZ (s o m f g n D i j)
def zX:ak->R aR:=λ_=>.no
theorem JV{a:List a8}:gq X E pin a zX:=λ_ _ _ _ _ _ _ h=>h.elim
def ff(r:R aR):R aR:=match r with
 |.er _ _=>.no
 |r=>r
theorem n5(h:DS X.nox E0 pin l d):DS X E pin l (λa=>ff (d a)):=λF S a b H D i q=>Bx.mk λm s I=>by
 have q:iL X.K E pin b F S H (ff (d a)) D:=q;have j:iL X.K E0 pin b F S H (d a) D:=by
  cases e:d a with
  |no=>rw[e]at q;exact q
  |er c g=>rw[e]at q;exact q.elim
  |ok f g=>rw[e]at q;cases f <;> exact q
 exact dO ((h F S a b H D i j).run m s (I.wish _)) (λ_ _ z=>z.unwish) λ_ _ z=>z.elim
def qU(X:Cx)(f a:az):TI:=λb H h=>Bx (∀c s,Inv X c b H s->aq (ar X.prog X.w) X.A (aP a X.env) (λv g=>aq (ar X.prog X.w) X.A (kH v) (pY X c b f h) X.xe g) X.xe s)
theorem BV{b a:az}:PI X b a (qU X b a):=λc s _ _ _ I h=>h.run c s I
theorem zy{f a:az}{t:TI}(h:PI X f a t){b:St}{H:Hp}{c:It->Hp->Prop}(q:t b H c):qU X f a b H c:=⟨λg s I=>h g s b H c I q⟩
def DI(X:Cx)(E:XK)(q a:az)(d:ak->R (List PV)):Prop:=∀F S m c H n,aI X.K F S m c H ->
 Ok X.K E c F S H (d m) (λg _ p r i=>∀J f o,aX X.K i p g f->f.length<=a9->Walk J f o->(∀h j b,bn (U r) (U h) p j i b->o b)->n J i)->qU X q a c H n
def eC(i:Nat)(db:ak->R aR):List PV->ak->R aR
 |[],ε=>.ok .next ε
 |x::b,ε=>match db (ε.set i (.val x))with
  |.ok .next a=>eC i db b a
  |.ok .cont a=>eC i db b a
  |.ok .brk a=>.ok .next a
  |r=>r
def dW(i:Nat)(b:ak->R (List PV))(db:ak->R aR):ak->R aR:=λε=>(b ε).bind λa ε1=>eC i db a ε1
theorem mx(i:Nat){x:Str}{p:Pos}{o:az}{r:List a8}{di:ak->R (List PV)}{C:ak->R aR}(O:PassesOwn (ar X.prog X.w) X.A X.env X.xe)(hc:X.calm=ai)(hN:X.N.Nodup)(hi:DI X E (.Name x p) o di)(hb:gq X E pin r C)(hp:i∉pin:=by decide) (A:X.N[i]?=aa x:=by rfl) (P:Loc X.env.scope x:=by first|exact Or.inl rfl|exact Or.inr rfl) (hs:∀x,uG o X.env x=pure x:=by intro _;rfl)(hf:X.fn x=ai\/X.env.scope.names.lookup x=aa .local:=by first|exact .inl rfl|exact .inr rfl):DS X E pin (.For (.Name x p) o r [] pos) (dW i di C):=λF S ε σ H D rl h=>by
 refine gW (GP O hc BV (uC hN A P hf) qI hs) (hi F S ε σ H _ rl (h.bindE.imp λy I F1 S1 H1 Z g1 h1 J vs RR Y hz hw keep=>?_));refine Ii hw (λk a n=>∃t u m,aI X.K t u m a n/\bn (U S1) (U u) F1 t H1 n/\iL X.K E pin a t u n (eC i C (y.drop k) m) D) ⟨F1,S1,I,Z,bn.refl ..,h1⟩ (λk a n _ ⟨t,u,m,_,g,_⟩=>keep u t n g) ?_ ?_
 .rintro k v a n hv ⟨t,u,m,M,B,q⟩;obtain⟨x,A,rx⟩:=Y.back hv;have hk:k<y.length:=(cE.mp A).1;have ed:y.drop k=x::y.drop (k+1):=by rw[vf hk];congr 1;exact(cE.mp A).2
  rw[ed]at q;have K:=rx.grow B Z.fit;have r2:=M.set (i:=i) K;have Q:bn (U u) (U λj b=>u j b/\j≠i) t t n n:=bn.less i;show ol X r _ (a.set i (aa v)) n;refine hb t _ _ _ n _ r2 ?_;unfold eC at q;have q:=q.from Q (h_.set (x:=aa v) hp);cases e:C (m.set i (.val x))with
  |no=>rw[e]at q;exact q
  |er c w=>rw[e]at q;exact q
  |ok f w=>
   rw[e]at q;cases f with
   |next=>exact λW T G H3 L z N=>⟨W,T,w,L,(B.trans Q).trans z,q.from z N⟩
   |cont=>exact λW T G H3 L z N=>⟨W,T,w,L,(B.trans Q).trans z,q.from z N⟩
   |brk=>exact q
   |ret s=>exact q
 .rintro a n ⟨t,u,m,M,B,q⟩;have P:vs.length=y.length:=Y.len;rw[P,List.drop_length]at q;exact q t u a n M (bn.refl ..) (h_.refl _ _)
end
def ug(K:au)(E:XK)(i:List V)(F:af->Prop)(S:Nat->af->Prop)(H:Hp)(r:R Slot)(Q:VK):Prop:=match r with
 |.ok s h=>∀v d f a g,aI K d f h (i.map aa) a->bn (U S) (λb=>U f b\/g b) F d H a->qD K a d s v g->um d f a g->(∀b,g b->H b=ae)->Q v a
 |.er c h=>∀x d f a,aI K d f h (i.map aa) a->bn (U S) (U f) F d H a->E c x a
 |.no=>False
def bP(K:au)(g:ak->R Slot):Sp:=λa H Q E=>∃F S b,aI K F S b (a.map aa) H/\ug K E a F S H (g b) Q
structure cG(CX:eK)(P:aK)(w:aD)(K:au)(mg:Str->Option ah)(base:ay)(x:Str)(k:Nat)(ps:List Str)(sp:Sp):Prop where
 ex:∃f fd,mg x=aa (.ref f)/\iZ P w K mg base CX k f fd ps sp/\Binds K fd ps []/\q0 K (.ref f)=ai
def back:ak->ak->Option ak
 |[],_=>aa []
 |.own _::a,.own c::b=>(back a b).map (.own c::·)
 |.own _::_,_=>ae
 |s::a,_::b=>(back a b).map (s::·)
 |_::_,[]=>ae
theorem tO:∀{a c b:ak},back a c=aa b->b.length=a.length/\∀(i:Nat) (s:Slot),b[i]?=aa s->(∃g f,a[i]?=aa (.own g)/\c[i]?=aa (.own f)/\s=.own f)\/(a[i]?=aa s/\∀g,s≠.own g)
 |[],_,b,h=>by cases h;exact⟨rfl,λi s e=>by simp at e⟩
 |.own g::a,.own f::c,b,h=>by
  unfold back at h;cases e:back a c with
  |none=>rw[e]at h;cases h
  |some r=>
   rw[e]at h;cases h;obtain⟨l,q⟩:=tO e;refine⟨by simp[l],λi s d=>?_⟩;cases i with
   |zero=>simp at d;subst d;exact .inl ⟨g,f,rfl,rfl,rfl⟩
   |succ i=>simpa using q i s (by simpa using d)
 |.own g::a,.none::c,b,h=>by cases h
 |.own g::a,.val _::c,b,h=>by cases h
 |.own g::a,[],b,h=>by cases h
 |.none::a,[],b,h=>by cases h
 |.val _::a,[],b,h=>by cases h
 |.none::a,x::c,b,h=>by
  have h:(back a c).map (Slot.none::·)=aa b:=by unfold back at h;cases x <;> exact h
  cases e:back a c with
  |none=>rw[e]at h;cases h
  |some r=>
   rw[e]at h;cases h;obtain⟨l,q⟩:=tO e;refine⟨by simp[l],λi s d=>?_⟩;cases i with
   |zero=>simp at d;subst d;exact .inr ⟨rfl,λ_ z=>by cases z⟩
   |succ i=>simpa using q i s (by simpa using d)
 |.val pv::a,x::c,b,h=>by
  have h:(back a c).map (Slot.val pv::·)=aa b:=by unfold back at h;cases x <;> exact h
  cases e:back a c with
  |none=>rw[e]at h;cases h
  |some r=>
   rw[e]at h;cases h;obtain⟨l,q⟩:=tO e;refine⟨by simp[l],λi s d=>?_⟩;cases i with
   |zero=>simp at d;subst d;exact .inr ⟨rfl,λ_ z=>by cases z⟩
   |succ i=>simpa using q i s (by simpa using d)
def bE(n:Nat)(d:ak->R aR):ak->R Slot:=λf=>match d (f++cO n .none)with
 |.ok (.ret r) a=>(aZ (back f a) []).bind λb _=>.ok r b
 |.ok .next a=>(aZ (back f a) []).bind λb _=>.ok (.val .non) b
 |.er c a=>(aZ (back f a) []).bind λb _=>.er c b
 |_=>.no
section
variable{K:au}{F u:af->Prop}{S o:Nat->af->Prop}{c l m:ak}{f:St}{H t:Hp}{d:List V}
theorem aI.start(r:aI K F S c (d.map aa) H)(n:Nat):aI K F S (c++cO n .none) (d.map aa++cO n ae) H:=by
 have y:c.length=(d.map aa).length:=r.len;have no:∀{j:Nat}{s:Slot},(c++cO n Slot.none)[j]?=aa s->s≠.none->c[j]?=aa s:=λ{j s} e x=>by
  by_cases A:j<c.length
  .rw[gF A]at e;exact e
  .rw[mW ∅,List.getElem?_replicate]at e;split at e
   .exact absurd (dA e).symm x
   .cases e
 have p:∀{j:Nat}{v:Option V},(d.map aa)[j]?=aa v->(d.map aa++cO n ae)[j]?=aa v:=λ{j v} e=>by rw[gF (cE.mp e).1];exact e
 refine⟨by simp[y],r.ex,λj pv e=>?_,λj a e=>?_,λj b h=>?_,r.dist⟩
 .obtain⟨v,i,g⟩:=r.val j pv (no e (by intro z;cases z));exact⟨v,p i,g⟩
 .obtain⟨v,i,g⟩:=r.own j a (no e (by intro z;cases z));exact⟨v,p i,g⟩
 .obtain⟨⟨a,q⟩,w⟩:=r.foot j b h;exact⟨⟨a,by rw[gF (cE.mp q).1];exact q⟩,w⟩
theorem zA{i:PO}{a:af}{n:af->Prop}(h:dU K H F i a n)(j:ga i=ai):∀b,n b↔b=a:=by
 cases i with
 |lst p=>exact h.2
 |dK g=>exact h.2
 |lls q=>cases j
 |ins C fs=>exact h.2
 |dT g=>exact h.2
 |dN g=>exact h.2
 |inl C fs y p=>cases j
theorem FY{g:PO}{a:af}{i:af->Prop}(h:dU K H F g a i):i a:=by
 cases g with
 |lst j=>exact(h.2 a).mpr rfl
 |dK b=>exact(h.2 a).mpr rfl
 |lls n=>obtain⟨p,_,_,_,_,w⟩:=h;exact(w a).mpr (.inl rfl)
 |ins C fs=>exact(h.2 a).mpr rfl
 |dT b=>exact(h.2 a).mpr rfl
 |dN b=>exact(h.2 a).mpr rfl
 |inl C fs y j=>obtain⟨_,_,_,_,_,_,_,_,_,_,w⟩:=h;exact(w a).mpr (.inl rfl)
theorem aI.back{X:af->Prop}{C:List Nat}{n:Nat}(B:aI K F S c (d.map aa) H)(r:aI K u o l f t)(g:bn (U S) X F u H t)(p:h_ C (d.map aa++cO n ae) f)(P:∀(i:Nat) (s:PO),c[i]?=aa (.own s)->i∈C)(Q:back c l=aa m):∃A,aI K u A m (d.map aa) t/\(∀b,U A b->U o b)/\((∀(i:Nat) (s:PO),c[i]?=aa (.own s)->ga s=ai)->∀b,U S b->U A b):=by
 obtain⟨L,E⟩:=tO Q;have inj:∀(i:Nat) (s:PO),c[i]?=aa (.own s)->∃a,(d.map aa)[i]?=aa (aa (.ref a))/\f[i]?=aa (aa (.ref a))/\dU K H F s a (S i):=λi s e=>by obtain⟨a,x,y⟩:=B.own i s e;refine⟨a,x,?_,y⟩;rw[p i (P i s e),gF (cE.mp x).1];exact x
 have bk:∀(i:Nat) (s:PO),c[i]?=aa (.own s)->∃w,m[i]?=aa (.own w)/\l[i]?=aa (.own w):=λi s e=>by
  have M:i<m.length:=by rw[L];exact(cE.mp e).1
  rcases E i m[i] (by simp[M])with⟨p1,p2,q1,q2,q3⟩|⟨q1,q2⟩
  .exact⟨p2,by rw[eG M,q3],q2⟩
  .rw[e]at q1;exact absurd (dA q1).symm (q2 s)
 refine⟨λi b=>o i b/\∃s,c[i]?=aa (.own s),⟨by rw[L];exact B.len,r.ex,λi pv e=>?_,λi s e=>?_,λi b h=>?_,λi j b x y=>r.dist i j b x.1 y.1⟩,λb ⟨i,h⟩=>⟨i,h.1⟩,λO b ⟨i,h⟩=>?_⟩
 .rcases E i _ e with⟨_,_,_,_,z⟩|⟨q1,_⟩
  .cases z
  .obtain⟨v,x,y⟩:=B.val i pv q1;exact⟨v,x,y.grow g B.fit⟩
 .rcases E i _ e with⟨p1,p2,q1,q2,q3⟩|⟨_,q2⟩
  .cases q3;obtain⟨a,x,y,N⟩:=inj i p1 q1;obtain⟨W,D,G⟩:=r.own i s q2;rw[y]at D;cases D;refine⟨a,x,?_⟩;have T:(λb=>o i b/\∃s,c[i]?=aa (.own s))=o i:=by funext b;exact propext ⟨λz=>z.1,λz=>⟨z,p1,q1⟩⟩
   rw[T];exact G
  .exact absurd rfl (q2 s)
 .obtain⟨s,q⟩:=h.2;obtain⟨w,J,I⟩:=bk i s q;exact⟨⟨w,J⟩,(r.foot i b h.1).2⟩
 .obtain⟨⟨s,q⟩,_⟩:=B.foot i b h;obtain⟨a,x,y,N⟩:=inj i s q;obtain⟨w,J,I⟩:=bk i s q;obtain⟨W,D,G⟩:=r.own i w I;rw[y]at D;cases D;have e:b=a:=(zA N (O i s q) b).mp h;exact⟨i,e ▸ FY G,s,q⟩
end
theorem ud{K:au}{E:XK}{a:List V}{F:af->Prop}{S:Nat->af->Prop}{H:Hp}{r:R Slot}{Q:VK}(h:ug K E a F S H r Q):r≠.no:=λz=>by rw[z]at h;exact h
theorem D0{K:au}{g:ak->R Slot}{m:Nat}(f:∀a,g a≠.no->a.length=m):∀b H Q E,bP K g b H Q E->b.length=m:=λb H Q E ⟨F,S,a,c,ok⟩=>by have:=f a (ud ok);have d:=c.len;rw[eT]at d;lia
theorem Ki{X:Cx}{E:XK}{t:List a8}{N O:List Str}{s:List V}{H:Hp}{Q:VK}{n:Nat}{g:ak->R Slot}{d:ak->R aR}{y:List Nat}(hn:N.length=O.length+n)(aW:∀a,g a≠.no->a.length=O.length) (iX:∀a,g a≠.no->∀(i:Nat) po,a[i]?=aa (.own po)->i∈y) (Y:∀a p m,g a=.ok p m->(∃pv,p=.val pv)\/∀(i:Nat) po,a[i]?=aa (.own po)->ga po=ai) (hg:∀a,g a≠.no->bE n d a=g a)(hb:gq X E y t d) (j6:bP X.K g s H Q E):ol X t {nx:=λ_ l=>Q .non l,rt:=Q} (L2.start N s) H:=by
 obtain⟨F,S,a,K,ok⟩:=j6;have hl:=aW a (ud ok);have h2:=K.len;rw[eT]at h2;have es:L2.start N s=s.map aa++cO n ae:=by unfold L2.start;rw[show N.length-s.length=n by lia]
 rw[es];refine hb F S _ _ H _ (K.start n) ?_;have T:=iX a (ud ok);have Z:=hg a (ud ok);have J:=Y a;rw[<-Z]at ok J;unfold bE at ok J;generalize d (a++cO n .none)=r at ok J ⊢;cases r with
 |no=>exact ok
 |er c h=>
  intro x q B j l C f D;have ok:ug X.K E s F S H ((aZ (back a h) []).bind λm _=>.er c m) Q:=ok;cases e:back a h with
  |none=>rw[e]at ok;exact ok.elim
  |some m=>rw[e]at ok;obtain⟨A,u,o,_⟩:=K.back C f D T e;exact ok x q A l u ⟨f.fro,f.keep,f.there,f.fnew,λb z=>f.onew b (o b z)⟩
 |ok fl h=>
  have G:∀(p:Slot),(∀m,back a h=aa m->(∃pv,p=.val pv)\/∀(i:Nat) po,a[i]?=aa (.own po)->ga po=ai)->ug X.K E s F S H ((aZ (back a h) []).bind λm _=>.ok p m) Q->∀(v:V) q B j l I,aI X.K q B h j l->bn (U S) (λb=>U B b\/I b) F q H l->h_ y (s.map aa++cO n ae) j->qD X.K l q p v I->um q B l I->Q v l:=by
   intro p M ok v q B j l I C f D P L;cases e:back a h with
   |none=>rw[e]at ok;exact ok.elim
   |some m=>
    rw[e]at ok;obtain⟨A,u,o,W⟩:=K.back C f D T e;refine ok v q A l I u ⟨f.fro,f.keep,f.there,f.fnew,λb z=>f.onew b (z.imp (o b) id)⟩ P (λb z=>⟨(L b z).1,λw=>(L b z).2.1 (o b w),(L b z).2.2⟩) λb z=>?_;rcases M m e with⟨pv,rfl⟩|hf
    .exact absurd z (P.2 b)
    rcases f.onew b (.inr z)with w|w
    .exact absurd (o b (W hf b w)) (L b z).2.1
    .exact w
  cases fl with
  |brk=>exact ok.elim
  |cont=>exact ok.elim
  |ret p=>exact G p (λm e=>J p m (by show(aZ (back a h) []).bind _=_;rw[e];rfl)) ok
  |next=>exact λq B j l C f D=>G (.val .non) (λ_ _=>.inl ⟨_,rfl⟩) ok .non q B j l (λ_=>False) C ⟨f.fro,f.keep,f.there,f.fnew,λb z=>z.elim (f.onew b) jP⟩ D ⟨rfl,λ_ z=>z⟩ λ_ z=>z.elim
theorem yR{f:af}{p:gh}{C:eK}{P:aK}{w:aD}{K:au}{u:Str->Option ah}{j:ay}{x b:Str}{h:a8}{N l:List Str}{k n:Nat}{g:ak->R Slot}{d:ak->R aR}{m:List Nat}(Y:mr K x b h f p)(X:cr N l (a6 h))(O:N.length=l.length+n)(hb:∀(kV o t:ah) (y:Option af) (B v:ah) (q:List ah),q.length=l.length->eF (ir x b (iG h) (fi h) (a6 h) .none kV o t y B v) ⟨q,[]⟩=pure (l.zip q))(z:∀c,g c≠.no->c.length=l.length) (L:∀c,g c≠.no->∀(i:Nat) po,c[i]?=aa (.own po)->i∈m) (F:∀c r W,g c=.ok r W->(∃pv,r=.val pv)\/∀(i:Nat) po,c[i]?=aa (.own po)->ga po=ai) (S:∀c,g c≠.no->bE n d c=g c)(J:∀(A:aM) (a:List Env) (s:ao) (H:Hp) (E:XK),Room k (A.deeper (ip b (a6 h) s.heap.objs.size f p.code))->gq (gv C P w K u j N b (a6 h) f p.code A a s H E) E m (fi h) d):iZ P w K u j C (k+1) f p l (bP K g):=by obtain⟨oc,od,kV,o,t,y,B,v,D,rfl,G,T⟩:=Y.ex;exact De G T X (D0 z) λA a s H Z Q E M I=>⟨_,qI,Ki O z L F S (J A a s H E M) I⟩
theorem Ao{f:af}{t:gh}{z:eK}{P:aK}{w:aD}{K:au}{v:Str->Option ah}{l:ay}{x b:Str}{j:a8}{N m:List Str}{k n:Nat}{g:ak->R Slot}{d:ak->R aR}{p:List Nat}(O:mr K x b j f t)(M:cr N m (a6 j))(D:N.length=m.length+n)(G:∀(kV u B:ah) (J:Option af) (q I:ah) (r:List ah),r.length=m.length->eF (ir x b (iG j) (fi j) (a6 j) .none kV u B J q I) ⟨r,[]⟩=pure (m.zip r))(L:∀c,g c≠.no->c.length=m.length) (y:∀c,g c≠.no->∀(i:Nat) o,c[i]?=aa (.own o)->i∈p/\ga o=ai) (F:∀c,g c≠.no->bE n d c=g c)(C:∀(f:af) (q:ah) (A:aM) (a:List Env) (s:ao) (H:Hp) (E:XK),Room k (A.deeper (ip b (a6 j) s.heap.objs.size f q))->gq (gv z P w K v l N b (a6 j) f q A a s H E) E p (fi j) d):iZ P w K v l z (k+1) f t m (bP K g):=yR O M D G L (λc h i o e=>(y c h i o e).1) (λc Q S h=>.inr λi o e=>(y c (by rw[h];exact nofun) i o e).2) F λA a s H E=>C f t.code A a s H E
theorem Ky{u:eK}{P:aK}{w:aD}{K:au}{p:Str->Option ah}{c:ay}{x:Str}{b:a8}{N j:List Str}{k n:Nat}{g:ak->R Slot}{d:ak->R aR}{l:List Nat}(D:cF K p x b)(M:cr N j (a6 b))(B:N.length=j.length+n)(t:∀(kV q v:ah) (J:Option af) (m I:ah) (o:List ah),o.length=j.length->eF (ir x x (iG b) (fi b) (a6 b) .none kV q v J m I) ⟨o,[]⟩=pure (j.zip o))(L:∀a,g a≠.no->a.length=j.length) (z:∀a,g a≠.no->∀(i:Nat) po,a[i]?=aa (.own po)->i∈l/\ga po=ai) (F:∀a,g a≠.no->bE n d a=g a)(y:∀(f:af) (m:ah) (A:aM) (h:List Env) (s:ao) (H:Hp) (E:XK),Room k (A.deeper (ip x (a6 b) s.heap.objs.size f m))->gq (gv u P w K p c N x (a6 b) f m A h s H E) E l (fi b) d):cG u P w K p c x (k+1) j (bP K g):=by obtain⟨f,G,C,r⟩:=D.ex;exact⟨f,G,C,Ao r M B t L z F y,r.binds t,r.kp⟩
abbrev bL:=Sum PV Nat
def gP(K:au)(b:St)(F:af->Prop)(H:Hp):List bL->List V->Prop
 |[],a=>a=[]
 |.inl pv::c,a=>∃v r,a=v::r/\aJ K H F pv v/\gP K b F H c r
 |.inr i::c,a=>∃v r,a=v::r/\b[i]?=aa (aa v)/\gP K b F H c r
def DG(X:Cx)(E:XK)(g:List az)(d:ak->R (List bL)):Prop :=
 ∀F S b a H Q,aI X.K F S b a H->Ok X.K E a F S H (d b) (λh _ i _ f=>∀c,gP X.K a i f h c->Q c f)->l9 X g a H Q
section
variable{X:Cx}{E:XK}{e:az}{b:List az}{de:ak->R PV}{c:ak->R (List bL)}{f:Pos}
def bK:ak->R (List bL):=λε=>.ok [] ε
def gV(d:ak->R PV)(c:ak->R (List bL)):ak->R (List bL):=λε=>(d ε).bind λx ε1=>(c ε1).bind λg a=>.ok (.inl x::g) a
def gO(i:Nat)(c:ak->R (List bL)):ak->R (List bL):=λd=>match d[i]? with
 |some (.own _)=>(c d).bind λg a=>.ok (.inr i::g) a
 |_=>.no
theorem bR:DG X E [] bK:=λF S g d H Q a h=>mo i5 (h F S H a (bn.refl ..) _ rfl)
theorem Er(r:DE X E e de)(q:DG X E b c)(p:aN (e::b) X.env=(aj,aP e X.env)::aN b X.env:=by rfl):DG X E (e::b) (gV de c):=λF S j d H Q n h=>by refine mo (gU bt fN p) (r F S j d H _ n ((Ok.bind h).imp λx a D z B g I t v m=>?_));refine q D z a d B _ g ((Ok.bind t).imp λG i C y A o w s l u=>?_);exact s C y A o (bn.refl ..) _ ⟨v,l,rfl,m.grow w g.fit,u⟩
theorem gR(i:Nat){x:Str}{p:Pos}(t:DG X E b c)(v:X.N[i]?=aa x:=by rfl)(r:fE X.env.scope x:=by eq_refl)(u:(x==("__debug__":Str))=aj:=by decide)(z:(x==("__classdict__":Str))=aj:=by decide) (s:aN (.Name x p::b) X.env=(aj,aP (.Name x p) X.env)::aN b X.env:=by rfl):DG X E (.Name x p::b) (gO i c):=λF S m j H Q d h=>by
 unfold gO at h;split at h
 .rename_i q e;obtain⟨a,g,_⟩:=d.own i q e;refine mo (gU (gT v r u z) fN s) ⟨_,g,t F S m j H _ d ((Ok.bind h).imp λD l C A B o G w n y=>?_)⟩;exact w C A B o (bn.refl ..) _ ⟨_,n,rfl,g,y⟩
 .exact h.elim
end
def fj(a:ak):List bL->Option ak
 |[]=>aa []
 |.inl pv::b=>(fj a b).map (.val pv::·)
 |.inr i::b=>match a[i]? with
  |some (.own c)=>(fj a b).map (.own c::·)
  |_=>ae
def f8:ak->List bL->ak->ak
 |a,.inl _::c,_::b=>f8 a c b
 |a,.inr i::c,s::b=>f8 (a.set i s) c b
 |a,_,_=>a
def cz:List bL->List Nat
 |[]=>[]
 |.inl _::as=>cz as
 |.inr i::as=>i::cz as
theorem z6:∀{as:List bL}{i:Nat},i∈cz as↔∃k:Nat,as[k]?=aa (.inr i)
 |[],i=>by simp[cz]
 |.inl _::as,i=>by
  unfold cz;rw[z6];constructor
  .rintro⟨k,h⟩;exact⟨k+1,by simpa using h⟩
  .rintro⟨k,h⟩;cases k with
   |zero=>simp at h
   |succ k=>exact⟨k,by simpa using h⟩
 |.inr j::as,i=>by
  unfold cz;rw[bF,z6];constructor
  .rintro(rfl|⟨k,h⟩)
   .exact⟨0,rfl⟩
   .exact⟨k+1,by simpa using h⟩
  .rintro⟨k,h⟩;cases k with
   |zero=>simp at h;exact .inl h.symm
   |succ k=>exact .inr ⟨k,by simpa using h⟩
theorem t8{d:ak}:∀{a:List bL}{c:ak},fj d a=aa c->c.length=a.length/\∀(k:Nat) (s:Slot),c[k]?=aa s->(∃pv,a[k]?=aa (.inl pv)/\s=.val pv)\/∃i f,a[k]?=aa (.inr i)/\d[i]?=aa (.own f)/\s=.own f
 |[],c,h=>by cases h;exact⟨rfl,λk s e=>by simp at e⟩
 |.inl pv::a,c,h=>by
  unfold fj at h;cases e:fj d a with
  |none=>rw[e]at h;cases h
  |some r=>
   rw[e]at h;cases h;obtain⟨l,q⟩:=t8 e;refine⟨by simp[l],λk s b=>?_⟩;cases k with
   |zero=>simp at b;exact .inl ⟨pv,rfl,b.symm⟩
   |succ k=>simpa using q k s (by simpa using b)
 |.inr i::a,c,h=>by
  unfold fj at h;split at h
  .rename_i f g;cases e:fj d a with
   |none=>rw[e]at h;cases h
   |some r=>
    rw[e]at h;cases h;obtain⟨l,q⟩:=t8 e;refine⟨by simp[l],λk s b=>?_⟩;cases k with
    |zero=>simp at b;exact .inr ⟨i,f,rfl,g,b.symm⟩
    |succ k=>simpa using q k s (by simpa using b)
  .cases h
theorem sZ:∀(c:List bL) (a b:ak),(f8 a c b).length=a.length
 |[],a,b=>by cases b <;> rfl
 |.inl _::c,a,[]=>rfl
 |.inr _::c,a,[]=>rfl
 |.inl _::c,a,s::b=>sZ c a b
 |.inr i::c,a,s::b=>by show(f8 (a.set i s) c b).length=_;rw[sZ,gi]
theorem oO:∀(a:List bL) (b c:ak) (j:Nat),j∉cz a->(f8 b a c)[j]?=b[j]?
 |[],b,c,j,_=>by cases c <;> rfl
 |.inl _::a,b,[],j,_=>rfl
 |.inr _::a,b,[],j,_=>rfl
 |.inl _::a,b,s::c,j,h=>oO a b c j h
 |.inr i::a,b,s::c,j,h=>by
  have d:¬(j=i\/j∈cz a):=by simpa[cz]using h
  show(f8 (b.set i s) a c)[j]?=_;rw[oO a _ c j λz=>d (.inr z),dq λz=>d (.inl z.symm)]
theorem pM:∀(a:List bL) (b c:ak) (j k:Nat) (s:Slot),(cz a).Nodup->j<b.length->a[k]?=aa (.inr j)->c[k]?=aa s->(f8 b a c)[j]?=aa s
 |[],b,c,j,k,s,_,_,h,_=>by simp at h
 |_::a,b,[],j,k,s,_,_,_,h=>by simp at h
 |.inl _::a,b,t::c,j,0,s,_,_,h,_=>by simp at h
 |.inl _::a,b,t::c,j,k+1,s,nd,hj,h,g=>pM a b c j k s nd hj (by simpa using h) (by simpa using g)
 |.inr i::a,b,t::c,j,0,s,nd,hj,h,g=>by simp at h g;subst h g;have d:i∉cz a:=(lI.mp nd).1;show(f8 (b.set i t) a c)[i]?=_;rw[oO a _ c i d,fq hj]
 |.inr i::a,b,t::c,j,k+1,s,nd,hj,h,g=>pM a (b.set i t) c j k s (lI.mp nd).2 (by rw[gi];exact hj) (by simpa using h) (by simpa using g)
theorem gP.len{K:au}{b:St}{F:af->Prop}{H:Hp}:∀{a:List bL}{vs:List V},gP K b F H a vs->vs.length=a.length
 |[],_,h=>by rw[show _=[] from h];rfl
 |.inl _::a,_,⟨v,r,e,_,h⟩=>by rw[e,d8,d8,gP.len h]
 |.inr _::a,_,⟨v,r,e,_,h⟩=>by rw[e,d8,d8,gP.len h]
theorem gP.val{K:au}{d:St}{F:af->Prop}{H:Hp}:∀{as:List bL}{c:List V}{k:Nat}{pv:PV},gP K d F H as c->as[k]?=aa (.inl pv)->∃v,c[k]?=aa v/\aJ K H F pv v
 |[],_,k,_,_,e=>by simp at e
 |.inl x::as,_,0,pv,⟨v,r,e,h,_⟩,q=>by simp at q;subst q e;exact⟨v,rfl,h⟩
 |.inr _::as,_,0,pv,_,q=>by simp at q
 |.inl x::as,_,k+1,pv,⟨v,r,e,_,h⟩,q=>by obtain⟨w,a,b⟩:=gP.val (k:=k) h (by simpa using q);subst e;exact⟨w,by simpa using a,b⟩
 |.inr x::as,_,k+1,pv,⟨v,r,e,_,h⟩,q=>by obtain⟨w,a,b⟩:=gP.val (k:=k) h (by simpa using q);subst e;exact⟨w,by simpa using a,b⟩
theorem gP.own{K:au}{c:St}{F:af->Prop}{H:Hp}:∀{as:List bL}{d:List V}{k i:Nat},gP K c F H as d->as[k]?=aa (.inr i)->∃v,d[k]?=aa v/\c[i]?=aa (aa v)
 |[],_,k,_,_,e=>by simp at e
 |.inr x::as,_,0,pv,⟨v,r,e,h,_⟩,q=>by simp at q;subst q e;exact⟨v,rfl,h⟩
 |.inl _::as,_,0,pv,_,q=>by simp at q
 |.inl x::as,_,k+1,pv,⟨v,r,e,_,h⟩,q=>by obtain⟨w,a,b⟩:=gP.own (k:=k) h (by simpa using q);subst e;exact⟨w,by simpa using a,b⟩
 |.inr x::as,_,k+1,pv,⟨v,r,e,_,h⟩,q=>by obtain⟨w,a,b⟩:=gP.own (k:=k) h (by simpa using q);subst e;exact⟨w,by simpa using a,b⟩
section
variable{K:au}{F y:af->Prop}{S m:Nat->af->Prop}{c s f:ak}{t:St}{H u:Hp}{as:List bL}{d:List V}
def ku(as:List bL)(S:Nat->af->Prop)(k:Nat)(b:af):Prop:=∃i,as[k]?=aa (.inr i)/\S i b
theorem tU(b:af)(h:U (ku as S) b):U S b:=let ⟨_,i,_,h⟩:=h;⟨i,h⟩
theorem uy:∀{as:List bL}{i k l:Nat},(cz as).Nodup->as[k]?=aa (.inr i)->as[l]?=aa (.inr i)->k=l
 |[],_,_,_,_,h,_=>by simp at h
 |.inl _::as,i,0,_,_,h,_=>by simp at h
 |.inl _::as,i,_,0,_,_,h=>by simp at h
 |.inl _::as,i,k+1,l+1,nd,h1,h2=>by rw[uy (as:=as) (i:=i) (k:=k) (l:=l) nd (by simpa using h1) (by simpa using h2)]
 |.inr j::as,i,0,0,_,_,_=>rfl
 |.inr j::as,i,0,l+1,nd,h1,h2=>by simp at h1;subst h1;exact absurd (z6.mpr ⟨l,by simpa using h2⟩) (lI.mp nd).1
 |.inr j::as,i,k+1,0,nd,h1,h2=>by simp at h2;subst h2;exact absurd (z6.mpr ⟨k,by simpa using h1⟩) (lI.mp nd).1
 |.inr j::as,i,k+1,l+1,nd,h1,h2=>by rw[uy (as:=as) (i:=i) (k:=k) (l:=l) (lI.mp nd).2 (by simpa using h1) (by simpa using h2)]
theorem aI.cal(r:aI K F S c t H)(B:gP K t F H as d)(J:fj c as=aa s)(I:(cz as).Nodup):aI K F (ku as S) s (d.map aa) H:=by
 obtain⟨E,A⟩:=t8 J;have C:∀{k:Nat}{v:V},d[k]?=aa v->(d.map aa)[k]?=aa (aa v):=λ{k v} e=>by rw[iq,e];rfl
 refine⟨by rw[E,eT,B.len],r.ex,λk pv e=>?_,λk D e=>?_,λk b h=>?_,λk l b g o=>?_⟩
 .rcases A k _ e with⟨p,q1,n⟩|⟨_,_,_,_,z⟩
  .cases n;obtain⟨v,x,w⟩:=B.val q1;exact⟨v,C x,w⟩
  .cases z
 .rcases A k _ e with⟨_,_,z⟩|⟨i,p,q1,n,q3⟩
  .cases z
  .cases q3;obtain⟨v,x,w⟩:=B.own q1;obtain⟨a,b1,b2⟩:=r.own i D n;rw[w]at b1;cases b1;have L:ku as S k=S i:=by
    funext b;exact propext ⟨λ⟨j,g,o⟩=>by rw[q1]at g;cases g;exact o,λh=>⟨i,q1,h⟩⟩
   exact⟨a,C x,by rw[L];exact b2⟩
 .obtain⟨i,g,o⟩:=h;obtain⟨⟨D,q⟩,n⟩:=r.foot i b o;have G:k<s.length:=by rw[E];exact(cE.mp g).1
  refine⟨?_,n⟩;rcases A k s[k] (by simp[G])with⟨_,z,_⟩|⟨j,p,z1,z2,z3⟩
  .rw[g]at z;cases z
  .exact⟨p,by rw[eG G,z3]⟩
 .obtain⟨i,x,w⟩:=g;obtain⟨j,b1,b2⟩:=o;have:=r.dist i j b w b2;subst this;exact uy I x b1
theorem aI.called{O':af->Prop}(r:aI K F S c t H)(ha:gP K t F H as d)(hs:fj c as=aa s)(O:(cz as).Nodup)(M:aI K y m f (d.map aa) u)(g:bn (U (ku as S)) O' F y H u)(hO:∀b,U m b->O' b)(Z:∀(k:Nat) i,as[k]?=aa (.inr i)->∃C,f[k]?=aa (.own C)):∃X,aI K y X (f8 c as f) t u/\bn (U S) (U X) F y H u/\∀b,U X b->U m b\/U S b:=by
 have up:∀{k:Nat}{v:V},(d.map aa)[k]?=aa (aa v)->d[k]?=aa v:=λ{k v} e=>by
  rw[iq]at e;cases q:d[k]? with
  |none=>rw[q]at e;cases e
  |some x=>rw[q]at e;cases e;rfl
 have fit:Fit (U (ku as S)) F H:=λb h=>r.fit b (tU b h);have J:∀i C,c[i]?=aa (.own C)->i<c.length:=λi C e=>(cE.mp e).1;have lt:∀(k:Nat) i,as[k]?=aa (.inr i)->i<c.length:=λk i e=>by
  obtain⟨hl,hg⟩:=t8 hs;have D:k<s.length:=by rw[hl];exact(cE.mp e).1
  rcases hg k s[k] (by simp[D])with⟨_,z,_⟩|⟨j,p,z1,z2,z3⟩
  .rw[e]at z;cases z
  .rw[e]at z1;cases z1;exact J _ _ z2
 refine⟨λj b=>(∃k:Nat,as[k]?=aa (.inr j)/\m k b)\/(j∉cz as/\S j b),⟨by rw[sZ];exact r.len,M.ex,λj pv e=>?_,λj C e=>?_,λj b h=>?_,λi j b A B=>?_⟩,⟨g.fro,λb o e n=>g.keep b o e λz=>n (tU b z),g.there,λa z=>(g.fnew a z).imp id λw=>w.imp id (tU a),λb ⟨j,z⟩=>?_⟩,λb ⟨j,z⟩=>?_⟩
 .by_cases G:j∈cz as
  .obtain⟨k,D⟩:=z6.mp G;obtain⟨C,q⟩:=Z k j D;rw[pM as c f j k _ O (lt k j D) D q]at e;cases e
  .rw[oO as c f j G]at e;obtain⟨v,A,B⟩:=r.val j pv e;exact⟨v,A,B.grow g fit⟩
 .by_cases G:j∈cz as
  .obtain⟨k,D⟩:=z6.mp G;obtain⟨po',q⟩:=Z k j D;rw[pM as c f j k _ O (lt k j D) D q]at e;cases e;obtain⟨a,A,B⟩:=M.own k C q;obtain⟨v,P,W⟩:=ha.own D;rw[up A]at P;cases P;have T:(λb=>(∃k:Nat,as[k]?=aa (.inr j)/\m k b)\/(j∉cz as/\S j b))=m k:=by
    funext b;refine propext ⟨λz=>?_,λz=>.inl ⟨k,D,z⟩⟩;rcases z with⟨l,z1,z2⟩|⟨z,_⟩
    .rw[uy O D z1];exact z2
    .exact absurd G z
   exact⟨a,W,by rw[T];exact B⟩
  .rw[oO as c f j G]at e;obtain⟨a,A,B⟩:=r.own j C e;have T:(λb=>(∃k:Nat,as[k]?=aa (.inr j)/\m k b)\/(j∉cz as/\S j b))=S j:=by
    funext b;refine propext ⟨λz=>?_,λz=>.inr ⟨G,z⟩⟩;rcases z with⟨l,z1,z2⟩|⟨_,z⟩
    .exact absurd (z6.mpr ⟨l,z1⟩) G
    .exact z
   have h3:dU K u y C a (S j):=by refine B.mono (λ_ _ q=>q.grow g fit) (λ_ _ q=>q.grow g fit) λb o z q=>g.keep b o q λ⟨l,i,L,I⟩=>?_;have:=r.dist i j b I z;subst this;exact G (z6.mpr ⟨l,L⟩)
   exact⟨a,A,by rw[T];exact h3⟩
 .rcases h with⟨k,A,B⟩|⟨A,B⟩
  .obtain⟨⟨C,q⟩,Q⟩:=M.foot k b B;exact⟨⟨C,pM as c f j k _ O (lt k j A) A q⟩,Q⟩
  .obtain⟨⟨C,q⟩,Q,o,N,q4⟩:=r.foot j b B;have no:¬U (ku as S) b:=λ⟨l,i,L,I⟩=>by have:=r.dist i j b I B;subst this;exact A (z6.mpr ⟨l,L⟩)
   refine⟨⟨C,by rw[oO as c f j A];exact q⟩,λz=>?_,o,g.keep b o N no,q4⟩;rcases g.fnew b z with w|w|w
   .exact Q w
   .rw[N]at w;cases w
   .exact no w
 .have E:∀{i j:Nat}{b:af},(∃k:Nat,as[k]?=aa (.inr i)/\m k b)->(j∉cz as/\S j b)->False:=λ{i j b} ⟨k,L,I⟩ ⟨w3,Y⟩=>by
   obtain⟨_,_,o,N,_⟩:=r.foot j b Y;rcases g.onew b (hO b ⟨k,I⟩)with⟨l,i',z1,z2⟩|z
   .have:=r.dist i' j b z2 Y;subst this;exact w3 (z6.mpr ⟨l,z1⟩)
   .rw[N]at z;cases z
  rcases A with A|A <;> rcases B with B|B
  .obtain⟨k,P,W⟩:=A;obtain⟨l,b1,b2⟩:=B;have:=M.dist k l b W b2;subst this;rw[P]at b1;cases b1;rfl
  .exact(E A B).elim
  .exact(E B A).elim
  .exact r.dist i j b A.2 B.2
 .rcases z with⟨k,_,z⟩|⟨_,z⟩
  .rcases g.onew b (hO b ⟨k,z⟩)with w|w
   .exact .inl (tU b w)
   .exact .inr w
  .exact .inl ⟨j,z⟩
 .rcases z with⟨k,_,z⟩|⟨_,z⟩
  .exact .inl ⟨k,z⟩
  .exact .inr ⟨j,z⟩
end
def DR(X:Cx)(E:XK)(e:az)(d:ak->R Slot):Prop :=
 ∀F S f a H Q,aI X.K F S f a H->Ok X.K E a F S H (d f) (λs _ h i c=>∀v g,qD X.K c h s v g->(∀b,g b->H b=ae/\¬h b/\¬U i b/\∃o,c b=aa o/\dE o)->Q v c)->ig X e a H Q
def gA:List bL->ak->Bool
 |[],_=>ai
 |.inl _::as,_::ss=>gA as ss
 |.inr _::as,.own _::ss=>gA as ss
 |_,_=>aj
theorem mD:∀{as:List bL}{ss:ak},gA as ss=ai->∀(k:Nat) i,as[k]?=aa (.inr i)->∃a,ss[k]?=aa (.own a)
 |[],_,_,k,i,h=>by simp at h
 |.inl _::as,s::ss,q,0,i,h=>by simp at h
 |.inl _::as,s::ss,q,k+1,i,h=>by simpa using mD (as:=as) (ss:=ss) (by unfold gA at q;exact q) k i (by simpa using h)
 |.inr _::as,.own a::ss,q,0,i,h=>⟨a,rfl⟩
 |.inr _::as,.own a::ss,q,k+1,i,h=>by simpa using mD (as:=as) (ss:=ss) (by unfold gA at q;exact q) k i (by simpa using h)
 |.inr _::as,.val _::ss,q,k,i,h=>by cases q
 |.inr _::as,.none::ss,q,k,i,h=>by cases q
 |.inl _::as,[],q,k,i,h=>by cases q
 |.inr _::as,[],q,k,i,h=>by cases q
def iC{f:Type}(d:ak)(b:List bL)(r:R f):R f:=match r with
 |.ok s a=>if gA b a then .ok s (f8 d b a)else .no
 |.er c a=>if gA b a then .er c (f8 d b a)else .no
 |.no=>.no
def be(g:ak->R Slot)(c:ak->R (List bL)):ak->R Slot:=λε=>(c ε).bind λa ε1=>(aZ (if(cz a).Nodup then fj ε1 a else ae) ε1).bind λb ε1=>iC ε1 a (g b)
section
variable{l:eK}{X:Cx}{E:XK}{pin:List Nat}{e:az}{es:List az}{j:ak->R (List bL)}{pos:Pos}{x:Str}{k:Nat}{m:List Str}{g:ak->R Slot}{p:Pos}{d:ak->R Slot}
theorem IC{K:au}{F0 r:af->Prop}{S0 B:Nat->af->Prop}{a:ak}{F:St}{H n:Hp}{c:List bL}{Y:List V}{Q:VK}(u:aI K r B a F n)(g1:bn (U S0) (U B) F0 r H n)(O:gP K F r n c Y)(q:Ok K E F r B n ((aZ (if(cz c).Nodup then fj a c else ae) a).bind λC a=>iC a c (g C)) λs _ t T h=>∀v D,qD K h t s v D->(∀b,D b->H b=ae/\¬t b/\¬U T b/\∃o,h b=aa o/\dE o)->Q v h):bP K g Y n Q E:=by
 have q:=Ok.bind q;by_cases A:(cz c).Nodup
 .rw[if_pos A]at q;cases es:fj a c with
  |none=>rw[es]at q;exact q.elim
  |some C=>
   rw[es]at q;have q:=q r B n u (bn.refl ..);dsimp only at q;refine⟨r,ku c B,C,u.cal O es A,?_⟩;cases N:g C with
   |no=>rw[N]at q;exact q.elim
   |er cv P=>
    rw[N]at q;intro y t T h I M;unfold iC at q;dsimp only at q;by_cases f:gA c P=ai
    .rw[if_pos f]at q;obtain⟨S,G,L,_⟩:=u.called O es A I M (λ_ z=>z) (mD f);exact q y t S h G L
    .rw[if_neg f]at q;exact q.elim
   |ok s P=>
    rw[N]at q;intro v t T h D I M rv J Z;unfold iC at q;dsimp only at q;by_cases f:gA c P=ai
    .rw[if_pos f]at q;obtain⟨S,G,L,u2⟩:=u.called O es A I M (λ_ z=>.inl z) (mD f);refine q t S h G L v D rv λb z=>⟨mi g1 (Z b z),(J b z).1,λw=>?_,(J b z).2.2⟩
     rcases u2 b w with w|⟨i,w⟩
     .exact(J b z).2.1 w
     .obtain⟨_,_,o,W,_⟩:=u.foot i b w;rw[Z b z]at W;cases W
    .rw[if_neg f]at q;exact q.elim
 .rw[if_neg A]at q;exact q.elim
theorem bZ(c:cG l X.prog X.w X.K X.mg X.base x k m (bP X.K g))(s:Room k X.A)(r:oB l X E)(z:DG X E (e::es) j)(v:Gl X x:=by rfl)(w:(x==("__debug__":Str))=aj:=by decide) (B:aN (e::es) X.env=(aj,aP e X.env)::aN es X.env:=by rfl) (A:(cM pos (aN es X.env)).any (·.1)=aj:=by rfl):DR X E (.Call (.Name x p) (e::es) [] pos) (be g j):=λF S i a H Q n h=>by obtain⟨f,J,t,G,y,u⟩:=c.ex;refine bW (zo G s v t u y .nil r fN w B A) (z F S i a H _ n ((Ok.bind h).imp λK b N L M o C q I D=>?_));rw[iQ];exact IC o C D q
def xq:Slot->Option PV
 |.val pv=>aa pv
 |.own (.lst a)=>aa (.lst a)
 |_=>ae
def bo(d:ak->R Slot):ak->R PV:=λε=>(d ε).bind λs ε1=>aZ (xq s) ε1
def wK:Slot->Option PO
 |.own a=>aa a
 |_=>ae
def ot(d:ak->R Slot):ak->R PO:=λb=>(d b).bind λs a=>aZ (wK s) a
theorem DR.dn(h:DR X E e d):DN X E e (ot d):=λF S f i H Q t q=>by
 unfold ot at q;refine h F S f i H Q t ?_;cases b:d f with
 |no=>rw[b]at q;exact q.elim
 |er c o=>rw[b]at q;exact q
 |ok s n=>
  rw[b]at q;cases s with
  |none=>exact q.elim
  |val pv=>exact q.elim
  |own G=>intro D B C u y v A r z;obtain⟨a,rfl,w⟩:=r;exact q D B C u y a A w z
theorem DR.de(h:DR X E e d):DE X E e (bo d):=λF S ε f H Q i q=>by
 unfold bo at q;cases b:d ε with
 |no=>rw[b]at q;exact q.elim
 |er c n=>refine h F S ε f H Q i ?_;rw[b]at q ⊢;exact q
 |ok s ε1=>
  cases s with
  |none=>rw[b]at q;exact q.elim
  |val pv=>refine h F S ε f H Q i ?_;rw[b]at q ⊢;exact λB z A t w v I r G=>q B z A t w v r.1
  |own u=>
   refine h.dn.de F S ε f H Q i ?_;unfold dF ot;rw[b]at q ⊢;cases u with
   |lst o=>exact q
   |dK a=>exact q
   |lls D=>exact q
   |ins C fs=>exact q
   |dT a=>exact q
   |dN a=>exact q
   |inl C fs y o=>exact q
def ma(d:ak->R Slot):ak->R aR:=λb=>(d b).bind λs a=>.ok (.ret s) a
theorem vC(B:DR X E e d):DS X E pin (.Return (aa e) pos) (ma d):=λF S n f H D u h=>by
 refine gW (vS bt) (B F S n f H _ u ?_);unfold ma at h;cases i:d n with
 |no=>rw[i]at h;exact h.elim
 |er c r=>rw[i]at h;exact λx N J L A C=>h x N J f L A C (h_.refl _ _)
 |ok s q=>rw[i]at h;intro M I K y a v G t o;exact h v M I f K G y ⟨a.fro,a.keep,a.there,a.fnew,λb z=>z.elim (a.onew b) λw=>.inr (o b w).1⟩ (h_.refl _ _) t λb z=>(o b z).2
def uu(d:ak->R Slot):ak->R aR:=λb=>(d b).bind λ_ a=>.ok .next a
theorem Do(o:DR X E e d)(n:kG e ae pos.line X.env=pure aj:=by rfl):DS X E pin (.Expr e pos) (uu d):=λF S c a H D f h=>gW (tZ bt n) (o F S c a H _ f (h.bindE.imp λx b t r s i w q v z u y=>q t r a s i (bn.refl ..) (h_.refl _ _)))
end
def dw(ε:ak):List Nat->Option (List bL)
 |[]=>aa []
 |j::cap=>match ε[j]? with
  |some (.val pv)=>(dw ε cap).map (.inl pv::·)
  |some (.own _)=>(dw ε cap).map (.inr j::·)
  |_=>ae
def dH{b:Type}(cap:List Nat)(d:ak->R b)(x:PV):ak->R b:=λε=>(aZ (dw ε cap) ε).bind λa _=>(aZ (if(cz a).Nodup then fj ε (.inl x::a)else ae) ε).bind λc _=>iC ε (.inl x::a) (d c)
def c_{a:Type}(r:R a):R a:=match r with
 |.er _ _=>.no
 |r=>r
def iJ(a:List Nat)(dt:ak->R Bool)(de:ak->R PV):List PV->List PV->ak->R (List PV)
 |[],c,f=>.ok c f
 |x::g,c,f=>(c_ (dH a dt x f)).bind λk b=>match k with
  |true=>(c_ (dH a de x b)).bind λy d=>iJ a dt de g (c++[y]) d
  |false=>iJ a dt de g c b
def cZ(cap:List Nat)(d:ak->R (List PV))(dt:ak->R Bool)(de:ak->R PV):ak->R PO:=λε=>(d ε).bind λc ε1=>(iJ cap dt de c [] ε1).bind λb a=>.ok (.lst b) a
theorem vB{K:au}{F:af->Prop}{S:Nat->af->Prop}{f:ak}{d:St}{H:Hp}(r:aI K F S f d H):∀{b:List Nat}{i:List bL},dw f b=aa i->∃c,gP K d F H i c/\fG d b=c.map aa
 |[],i,h=>by cases h;exact⟨[],rfl,rfl⟩
 |j::b,i,h=>by
  unfold dw at h;split at h
  .rename_i pv e;cases q:dw f b with
   |none=>rw[q]at h;cases h
   |some bs=>
    rw[q]at h;cases h;obtain⟨c,m,l⟩:=vB r q;obtain⟨v,g,n⟩:=r.val j pv e;refine⟨v::c,⟨v,c,rfl,n,m⟩,?_⟩;show(d[j]?).join::fG d b=_;rw[g,l];rfl
  .rename_i o e;cases q:dw f b with
   |none=>rw[q]at h;cases h
   |some bs=>
    rw[q]at h;cases h;obtain⟨c,m,l⟩:=vB r q;obtain⟨a,g,n⟩:=r.own j o e;refine⟨.ref a::c,⟨_,c,rfl,g,m⟩,?_⟩;show(d[j]?).join::fG d b=_;rw[g,l];rfl
  .cases h
theorem yX{K:au}{E:XK}{F:af->Prop}{S:Nat->af->Prop}{s:ak}{f:St}{H:Hp}{G:Type}{b:List Nat}{d:ak->R G}{x:PV}{v:V}{C:G->ak->(af->Prop)->(Nat->af->Prop)->Hp->Prop}(r:aI K F S s f H) (N:aJ K H F x v) (h:Ok K E f F S H (c_ (dH b d x s)) C):∃L l,aI K F L l (aa v::fG f b) H/\Ok K E0 (aa v::fG f b) F L H (d l) (λa _ q _ p=>∃j u,aI K q u j f p/\bn (U S) (U u) F q H p/\C a j q u p):=by
 unfold dH at h;cases B:dw s b with
 |none=>rw[B]at h;exact h.elim
 |some g=>
  rw[B]at h;simp only[dJ,R.bind_ok]at h;by_cases y:(cz g).Nodup
  .rw[if_pos y]at h;cases t:fj s (.inl x::g)with
   |none=>rw[t]at h;exact h.elim
   |some l=>
    rw[t]at h;simp only[dJ,R.bind_ok]at h;obtain⟨w,T,Q⟩:=vB r B;have o:gP K f F H (.inl x::g) (v::w):=⟨v,w,rfl,N,T⟩
    have n:aa v::fG f b=(v::w).map aa:=by rw[Q];rfl
    have m:(cz (.inl x::g)).Nodup:=y;refine⟨ku (.inl x::g) S,l,by rw[n];exact r.cal o t m,?_⟩;rw[n];cases A:d l with
    |no=>rw[A]at h;exact h.elim
    |er c D=>
     rw[A]at h;unfold iC at h;dsimp only at h;by_cases i:gA (.inl x::g) D=ai
     .rw[if_pos i]at h;exact h.elim
     .rw[if_neg i]at h;exact h.elim
    |ok a D=>
     rw[A]at h;intro q u p O P;unfold iC at h;dsimp only at h;by_cases i:gA (.inl x::g) D=ai
     .rw[if_pos i]at h;obtain⟨M,I,J,_⟩:=r.called o t m O P (λ_ z=>z) (mD i);exact⟨_,M,I,J,h q M p I J⟩
     .rw[if_neg i]at h;exact h.elim
  .rw[if_neg y]at h;exact h.elim
def wv(X:Cx)(a:List az):TT:=λb H Q=>Bx (∀d s,Inv X d b H s->aq (ar X.prog X.w) X.A (forIn a ai λc r=>if r=ai then do let ok <-kD c X.env (aP c X.env);pure (ForInStep.yield ok)else pure (ForInStep.yield r)) (TP X d b Q) X.xe s)
def DF(X:Cx)(E:XK)(c:List az)(d:ak->R Bool):Prop:=∀F S f a H Q,aI X.K F S f a H->Ok X.K E a F S H (d f) (λb _ _ _ g=>Q b g)->wv X c a H Q
def fL:ak->R Bool:=λε=>.ok ai ε
theorem qa{X:Cx}{E:XK}:DF X E [] fL:=λF S d a H Q b h=>⟨λc s I=>FJ c s a H Q I (h F S H b (bn.refl ..))⟩
theorem wu{X:Cx}{E:XK}{c:az}{d:ak->R Bool}(h:DT X E c d):DF X E [c] d:=λF S b a H Q f q=>⟨λg s I=>KC ou g s a H Q I (h F S b a H Q f q)⟩
theorem Ok.bindB{K:au}{E:XK}{b:St}{F s:af->Prop}{S n:Nat->af->Prop}{H p:Hp}{j i:Type}{D:i->ak->(af->Prop)->(Nat->af->Prop)->Hp->Prop}{r:R j}{k:j->ak->R i}(h:Ok K E b F S H (r.bind k) D)(g:bn (U S) (U n) F s H p):Ok K E b s n p r (λa d _ _ _=>Ok K E b F S H (k a d) D):=by
 cases r with
 |no=>exact h
 |er c f=>exact λx t o q l m=>h x t o q l (g.trans m)
 |ok a f=>exact λt o q l m=>h
section
variable{X:Cx}{E:XK}{c:cL}{x:Str}{N':List Str}{cap:List Nat}
theorem bn.stay{O a F d:af->Prop}{H b:Hp}(g:bn O a F d H b){l:af}{o:HO}(e:H l=aa o)(n:¬O l)(f:¬F l):b l=aa o/\¬d l/\¬a l :=
 ⟨g.keep l o e n,λz=>(g.fnew l z).elim f λw=>w.elim (λq=>by rw[e]at q;cases q) n,λz=>(g.onew l z).elim n λq=>by rw[e]at q;cases q⟩
theorem aI.lay{K:au}{F:af->Prop}{S:Nat->af->Prop}{i:ak}{h:St}{H:Hp}{l:af}{o o':HO}(r:aI K F S i h H)(v:H l=aa o)(no:dE o)(u:¬F l)(nS:¬U S l):bn (λb=>U S b\/b=l) (U S) F F H (L2.upd H l o')/\Fit (λb=>U S b\/b=l) F H/\aI K F S i h (L2.upd H l o'):=by
 have f:bn (λb=>U S b\/b=l) (U S) F F H (L2.upd H l o'):=⟨λ_ z=>z,λb o e n=>by rw[b7 λz=>n (.inr z)];exact e,λb o e=>by
  by_cases m:b=l
  .subst m;exact⟨_,cI⟩
  .exact⟨o,by rw[b7 m];exact e⟩,λ_ z=>.inl z,λ_ z=>.inl (.inl z)⟩
 have g:Fit (λb=>U S b\/b=l) F H:=λb z=>by
  rcases z with z|rfl
  .exact r.fit b z
  .exact⟨u,_,v,no⟩
 refine⟨f,g,r.len,λb z=>let ⟨o,q⟩:=r.ex b z;f.there b o q,λj pv e=>?_,λj t e=>?_,λj b z=>?_,r.dist⟩
 .obtain⟨w,d,a⟩:=r.val j pv e;exact⟨w,d,a.grow f g⟩
 .obtain⟨w,d,a⟩:=r.own j t e;refine⟨w,d,a.mono (λ_ _ q=>q.grow f g) (λ_ _ q=>q.grow f g) λb o z q=>?_⟩;rw[b7 (by rintro rfl;exact nS ⟨j,z⟩)];exact q
 .obtain⟨d,a,o,s,p⟩:=r.foot j b z;exact⟨d,a,o,by rw[b7 (by rintro rfl;exact nS ⟨j,z⟩)];exact s,p⟩
theorem bn.lay{O d F h:af->Prop}{H f:Hp}{l:af}{o':HO}(g:bn O d F h H f)(a:H l=ae):bn O d F h H (L2.upd f l o'):=by
 refine⟨g.fro,λb o e n=>?_,λb o e=>?_,g.fnew,g.onew⟩
 .rw[b7 (by rintro rfl;rw[a]at e;cases e)];exact g.keep b o e n
 .obtain⟨i,q⟩:=g.there b o e;exact⟨i,by rw[b7 (by rintro rfl;rw[a]at e;cases e)];exact q⟩
theorem GC{elt A:az}{px:Pos}{ifs:List az}{di:ak->R (List PV)}{dt:ak->R Bool}{de:ak->R PV}(hi:DI X E (.Name x px) A di)(ht:∀C d f r p,DF (cH X c N' C d f r p) E0 ifs dt) (he:∀C d f r p,DE (cH X c N' C d f r p) E0 elt de){F:af->Prop}{S:Nat->af->Prop}{ε:ak}{j:St}{H:Hp}{Q:VK} (rl:aI X.K F S ε j H) (h:Ok X.K E j F S H (cZ cap di dt de ε) (λpo _ s L g=>∀a Sa,dU X.K g s po a Sa->(∀b,Sa b->H b=ae/\¬s b/\¬U L b/\∃o,g b=aa o/\dE o)->Q (.ref a) g)):BN (qU X (.Name x px) A) (λj H Q=>∀C d f r p,wv (cH X c N' C d f r p) ifs j H Q) (λj H Q=>∀C d f r p,ig (cH X c N' C d f r p) elt j H Q) cap j H Q:=by
 refine hi F S ε j H _ rl ((Ok.bind h).imp λw ε1 N S1 H1 r1 g1 h1 J vs RR rs hz hw keep l hl=>?_);have h1:=h1.bind;have hvl:vs.length=w.length:=rs.len;have a0:Al N N H1 (upd H1 l (.lst [])):=Al.new0 hl;have nF1:¬N l:=λz=>by obtain⟨o,q⟩:=r1.ex l z;rw[hl]at q;cases q
 have nS1:¬U S1 l:=λ⟨i,z⟩=>by obtain⟨_,_,o,q,_⟩:=r1.foot i l z;rw[hl]at q;cases q
 have hH:H l=ae:=mi g1 hl;refine⟨λi m D g=>m=w.length-i/\i<=w.length/\∃s L Y P,aI X.K s L Y j g/\bn (U S1) (U L) N s H1 g/\g l=aa (.lst D)/\¬s l/\¬U L l/\aX X.K g s P D/\D.length<=i /\ Ok X.K E j N S1 H1 (iJ cap dt de (w.drop i) P Y) (λys' t T S2 M=>Ok X.K E j T S2 M (R.ok (PO.lst ys') t) (λpo _ s L g=>∀a Sa,dU X.K g s po a Sa->(∀b,Sa b->H b=ae/\¬s b/\¬U L b/\∃o,g b=aa o/\dE o)->Q (.ref a) g)),⟨_,rfl,kM _,N,S1,ε1,[],r1.al a0,a0.grow,cI,nF1,nS1,rfl,aY _,h1⟩,?_⟩;rintro i m D M ⟨rfl,hi,T,S2,t,P,O,K,el,nF2,nS2,n,hyl,q2⟩;have RH:=keep S2 T M K;by_cases a_:i<w.length
 .obtain⟨v,hv⟩:∃v,vs[i]?=aa v:=⟨_,eG ∅⟩
  obtain⟨go,yl⟩:=(hw M RH i).1 v hv;refine .inr ⟨go,λv' g y=>⟨[aa v'],rfl,rfl,?_⟩⟩;obtain⟨e1,e2⟩:=yl v' g y;subst e1 e2;obtain⟨px',hx,rx⟩:=rs.back hv;have ed:w.drop i=px'::w.drop (i+1):=by rw[vf a_];congr 1;exact(cE.mp hx).2
  rw[ed]at q2;have Z:=rx.grow K r1.fit;have q3:=Ok.bindB q2 K;obtain⟨Sb,ss,rb,okb⟩:=yX O Z q3;intro C d f r p;refine ht C d f r p T Sb ss _ g _ rb (okb.imp λb _ F3 _ H3 _ _ ⟨W,S3,r3,I,q4⟩=>?_);obtain⟨el3,nF3,nS3⟩:=I.stay el nS2 nF2;cases b with
  |false=>exact nZ ⟨_,∅,rfl,a_,F3,S3,W,P,r3,K.trans I,el3,nF3,nS3,n.grow I O.fit,∅,q4⟩
  |true=>refine oC ?_;have q5:Ok X.K E j N S1 H1 ((c_ (dH cap de px' W)).bind λy t=>iJ cap dt de (w.drop (i+1)) (P++[y]) t) _:=q4;obtain⟨Sc,sc,rc,okc⟩:=yX r3 (Z.grow I O.fit) (Ok.bindB q5 (K.trans I));intro C d f r p;refine he C d f r p F3 Sc sc _ H3 _ rc (okc.imp λy _ F4 _ H4 _ _ ⟨ε4,S4,r4,g4,q6⟩ u ru=>?_);obtain⟨el4,nF4,nS4⟩:=g4.stay el3 nS3 nF3;have G:=(n.grow I O.fit).grow g4 r3.fit;obtain⟨gl,B,r5⟩:=r4.lay (o':=.lst (D++[u])) el4 trivial nF4 nS4;have g5:=((K.trans I).trans g4).lay (o':=.lst (D++[u])) hl;refine⟨el4,?_,_,∅,rfl,a_,F4,S4,ε4,P++[y],r5,g5,cI,nF4,nS4,(G.grow gl B).app (.one (ru.grow gl B)),by simp;lia,q6⟩;lia
 .have e:i=w.length:=∅
  subst e;refine .inl ⟨(hw M RH _).2 hvl.symm,?_⟩;rw[List.drop_length]at q2;exact q2 T S2 M O K T S2 M O (bn.refl ..) l (λb=>b=l) ⟨⟨D,el,n⟩,λb=>Iff.rfl⟩ λb z=>by subst z;exact⟨hH,nF2,nS2,_,el,trivial⟩
theorem lc{j d:az}{m pos:Pos}{i:List az}{o:ak->R (List PV)}{dt:ak->R Bool}{de:ak->R PV}(B:jC X c x N' cap)(v:X.calm=ai)(t:DI X E (.Name x m) d o)(q:∀C a b g f,DF (cH X c N' C a b g f) E0 i dt) (u:∀C a b g f,DE (cH X c N' C a b g f) E0 j de) (r:∀x,uG d X.env x=pure x:=by intro _;rfl):DN X E (.ListComp j [⟨.Name x m,d,i,0⟩] c pos) (cZ cap o dt de):=λF S w l H Q p h=>bW (Gx (wi:=qU X (.Name x m) d) (ts:=λl H Q=>∀C a b g f,wv (cH X c N' C a b g f) i l H Q) (te:=λl H Q=>∀C a b g f,ig (cH X c N' C a b g f) j l H Q) (pos:=pos) B v BV (λC a b g f n s l H Q I h=>(h C a b g f).run n s I) (λC a b g f n s l H Q I h=>(h C a b g f).run n s I) r) (GC t q u p h)
end
theorem EJ(x y:Tx):tS x++tS y=tS (x++y):=by
 show(⟨x.toArray++y.toArray⟩:Str)=⟨(x++y).toArray⟩
 simp
def bg:PV->PV->Option PV
 |.int i,.int j=>aa (.int (i+j))
 |.str x,.str y=>if(x++y).length<=cA then aa (.str (x++y))else ae
 |.tup b,.tup a=>if b≠[]/\a≠[]/\b.length+a.length<=1000 then aa (.tup (b++a))else ae
 |.lst b,.lst a=>if b.length+a.length<=cA then aa (.lst (b++a))else ae
 |_,_=>ae
def gX:PV->PV->Option PV
 |.int i,.int j=>aa (.int (i-j))
 |_,_=>ae
def qO(i:Int):Bool:=decide (-(2^64)<i/\i<2^64)
def i9:PV->PV->Option PV
 |.int i,.int j=>if qO i||qO j then aa (.int (i*j))else ae
 |.str x,.int j=>if 0<=j/\j<=100/\x.length<=100 then aa (.str (cO j.toNat x).flatten)else ae
 |_,_=>ae
def eM:PV->PV->Option PV
 |.int i,.int j=>if 0<j then aa (.int (i % j))else ae
 |_,_=>ae
def qm:PV->PV->Option PV
 |.int i,.int j=>if 0<=j/\j<=1000000/\i.natAbs<2^64 then aa (.int (i^j.toNat))else ae
 |_,_=>ae
def qo:PV->Option PV
 |.int i=>aa (.int (-i))
 |_=>ae
def AA:R2:=λx y H Q=>∃l b c a,x=.ref l/\y=.ref b/\Rd H l (.lst c)/\Rd H b (.lst a)/\c.length+a.length<=a9/\∀p,H p=ae->Q (.ref p) (upd H p (.lst (c++a)))
def tD(K:au):R2:=λx y H Q=>((ki λi j=>V.int (i+j)) x y H Q\/∃i j,x=.str i/\y=.str j/\i.length+j.length<=a9/\Q (.str (i++j)) H)\/(zr K x y H Q\/AA x y H Q)
def AJ:R2:=λx y H Q=>rI wF (λi j=>.int (i*j)) x y H Q\/∃(z:Tx) (n:Nat),x=tV z/\y=.int n/\n<=100/\z.length<=100/\Q (tV (cO n z).flatten) H
section
variable{X:Cx}{K:au}
theorem pV:P2 K (ki λi j=>.int (i-j)) gX:=λF H x y v u Q pv b a e q=>by
 unfold gX at e;split at e
 .cases e;exact⟨_,_,b,a,q _ F H (Al.refl ..) rfl⟩
 .cases e
theorem oV:P2 K (rI (λ_ j=>0<j) λi j=>.int (i % j)) eM:=λF H x y v u Q pv b a e q=>by
 unfold eM at e;split at e
 .split at e
  .cases e;exact⟨_,_,b,a,by assumption,q _ F H (Al.refl ..) rfl⟩
  .cases e
 .cases e
theorem KG:P2 K (rI zJ λi j=>.int (i^j.toNat)) qm:=λF H x y v u Q pv b a e q=>by
 unfold qm at e;split at e
 .split at e
  .cases e;exact⟨_,_,b,a,by assumption,q _ F H (Al.refl ..) rfl⟩
  .cases e
 .cases e
theorem JU:P1 K (rU λi=>.int (-i)) qo:=λF H x v Q pv a e q=>by
 unfold qo at e;split at e
 .cases e;exact⟨_,a,q _ F H (Al.refl ..) rfl⟩
 .cases e
theorem wX{d:List (af×Obj)}{c:St}{H:Hp}{s:ao}{l:af}{b:List V}(I:Inv X d c H s)(h:Rd H l (.lst b)):∃(a:List ah) (n:Nat),bh b a/\s.heap.get? l=aa {cls:=.type "list",data:=.seq a.toArray n}/\b.length<=a9:=by obtain⟨z,a,n,r,e⟩:=h.ok I.hok;exact⟨a,n,r,e,z⟩
theorem Fe:bz X (gg .Add) AA:=by
 intro C s p H x y v u Q I i g h;obtain⟨l,b,w,t,rfl,rfl,f,j,B,q⟩:=h;cases i;cases g;obtain⟨c,n,r,e,_⟩:=wX I f;obtain⟨a,z,d,o,_⟩:=wX I j;have f:=r.length;have A:=d.length;refine PySem.P.add_list e o ?_ (by rw[bM,bM];lia);have m:c.toArray++a.toArray=(c++a).toArray:=by simp
 rw[m];exact⟨.ref _,_,I.lnew (t':=s.toks) (r.append d) (by rw[ca];lia),rfl,q _ I.fresh⟩
theorem eN:bz X (gg .Add) (tD X.K):=(Lr.or E8).or (Ll.or Fe)
theorem eJ:P2 K (tD K) bg:=λF H x y v u Q pv l j e q=>by
 unfold bg at e;split at e
 .cases e;exact .inl (.inl ⟨_,_,l,j,q _ F H (Al.refl ..) rfl⟩)
 .rename_i x y;split at e
  .rename_i c;cases e;refine .inl (.inr ⟨_,_,l.1,j.1,?_,?_⟩)
   .rw[jD,jD];rw[ca]at c;exact cn c jE
   .exact q _ F H (Al.refl ..) ⟨by rw[EJ];rfl,c⟩
  .cases e
 .rename_i t s;split at e
  .rename_i c;cases e;obtain⟨a,n,rfl,r,f⟩:=l;obtain⟨b,m,rfl,o,d⟩:=j;have h:=f.len;have g:=d.len;refine .inr (.inl ⟨a,b,n,m,rfl,rfl,bQ.of r,bQ.of o,λz=>c.1 (by rw[z]at h;exact jj h.symm),by rw[h,g];exact v9 c.2.2,λz=>absurd (by rw[z]at g;exact jj g.symm) c.2.1,λ_ p i=>?_⟩);exact q _ F _ (Al.new0 i) ⟨p,_,rfl,cI,(Al.new0 i).reps (f.app d)⟩
  .cases e
 .rename_i t s;split at e
  .rename_i c;cases e;obtain⟨a,n,rfl,r,A,f⟩:=l;obtain⟨b,m,rfl,o,w,d⟩:=j;have h:=f.len;have g:=d.len;refine .inr (.inr ⟨a,b,n,m,rfl,rfl,r,o,by rw[h,g];exact cn c jE,λp i=>?_⟩);exact q _ _ _ (Al.new i) ⟨p,_,rfl,.inl cI,.inr rfl,(Al.new i).reps (f.app d)⟩
  .cases e
 .cases e
theorem wg:bz X (gg .Mult) AJ:=Lg.or HA
theorem v3:P2 K AJ i9:=λF H x y v u Q pv b a e q=>by
 unfold i9 at e;split at e
 .rename_i i j;split at e
  .rename_i h;cases e;refine .inl ⟨_,_,b,a,?_,q _ F H (Al.refl ..) rfl⟩;rw[u0]at h;exact h.imp of_decide_eq_true of_decide_eq_true
  .cases e
 .rename_i x j;split at e
  .rename_i h;cases e;refine .inr ⟨x,j.toNat,b.1,?_,∅,h.2.2,q _ F H (Al.refl ..) ⟨rfl,?_⟩⟩
   .rw[show u=V.int j from a];congr 1;lia
   .rw[GO];have c:j.toNat<=100:=∅
    exact cn (u5 c h.2.2) (by decide)
  .cases e
 .cases e
def e_(f:Int->Int->Bool):PV->PV->Option PV
 |.int i,.int j=>aa (.bl (f i j))
 |_,_=>ae
theorem lz{f:Int->Int->Bool}:P2 K (ki λi j=>.bl (f i j)) (e_ f):=λF H x y v u Q pv b a e q=>by
 unfold e_ at e;split at e
 .cases e;exact⟨_,_,b,a,q _ F H (Al.refl ..) rfl⟩
 .cases e
def cx:PV->Option V
 |.non=>aa .non
 |.bl b=>aa (.bl b)
 |.int i=>aa (.int i)
 |.str x=>aa (tV x)
 |_=>ae
theorem h8{H:Hp}{F:af->Prop}{x:PV}{v w:V}(r:aJ K H F x v)(e:cx x=aa w):v=w:=by
 cases x <;> simp[cx]at e <;> subst e
 .exact r
 .exact r
 .exact r
 .exact r.1
theorem pP{x:PV}{w:V}(e:cx x=aa w):fg w=ai:=by
 cases x <;> simp[cx]at e <;> subst e <;> rfl
mutual
def cq:PV->PV->Option Bool
 |.tup c,y=>match y with
  |.tup a=>dY c a
  |_=>ae
 |.lst c,y=>match y with
  |.lst a=>dY c a
  |_=>ae
 |.non,y=>(cx y).map (cC .non)
 |.bl b,y=>(cx y).map (cC (.bl b))
 |.int i,y=>(cx y).map (cC (.int i))
 |.str x,y=>(cx y).map (cC (tV x))
 |.raw _,_=>ae
 |.exc _,_=>ae
def dY:List PV->List PV->Option Bool
 |[],c=>aa c.isEmpty
 |x::d,c=>match c with
  |[]=>aa aj
  |y::c=>(cq x y).bind λa=>(dY d c).map λb=>a&&b
end
mutual
def fO:PV->Nat
 |.tup a=>eQ a+1
 |.lst a=>eQ a+1
 |_=>0
def eQ:List PV->Nat
 |[]=>0
 |x::a=>max (fO x) (eQ a)
end
theorem BS{H:Hp}{d a:Nat}{x y:V}{k:Bool}(h:f_ K H d x y k)(l:d<=a):f_ K H a x y k:=λX g i b s u v A I f c j=>h X g i b s u v A I f c ∅
theorem tY{H:Hp}{F:af->Prop}{w:V}{y:PV}{u:V}{k:Bool}{d:Nat}(b:fg w=ai)(e:(cx y).map (cC w)=aa k)(a:aJ K H F y u):f_ K H d w u k:=by
 cases q:cx y with
 |none=>rw[q]at e;cases e
 |some z=>
  rw[q]at e;cases e;rw[h8 a q];exact Eg b (pP q)
theorem DQ{H:Hp}{a:af}{c b:List V}(h:Rd H a (.lst c))(g:Rd H a (.lst b)):c=b:=by
 rcases h with h|⟨o,h⟩ <;> rcases g with g|⟨d,g⟩ <;> rw[h]at g <;> cases g <;> rfl
theorem Kt{a:Bool}{e:Nat->Bool}{n m:Nat}:ez (λj=>if j=0 then a else e (j-1)) (n+1) (m+1)=(a&&ez e n m):=by
 unfold ez;rw[show min (n+1) (m+1)=min n m+1 by lia,uW,o7,uX,if_pos rfl,Bool.and_assoc];congr 1;congr 1
 .simp
mutual
theorem v8{H:Hp}{F:af->Prop}:∀(x y:PV) {v:V}{k:Bool},cq x y=aa k->aJ K H F x v->aJ K H F y v->k=ai
 |.tup h,y,v,k,e,d,c=>by
  unfold cq at e;split at e
  .obtain⟨a,n,rfl,j,f⟩:=d;obtain⟨b,m,l,g,i⟩:=c;cases l;rw[j]at g;cases g;exact wP h _ e f i
  .cases e
 |.lst h,y,v,k,e,d,c=>by
  unfold cq at e;split at e
  .obtain⟨a,n,rfl,j,_,f⟩:=d;obtain⟨b,m,l,g,_,i⟩:=c;cases l;rw[DQ j g]at f;exact wP h _ e f i
  .cases e
 |.non,y,v,k,e,d,c=>by
  unfold cq at e;cases q:cx y with
  |none=>rw[q]at e;cases e
  |some z=>rw[q]at e;cases e;rw[<-h8 c q,show v=V.non from d];rfl
 |.bl b,y,v,k,e,d,c=>by
  unfold cq at e;cases q:cx y with
  |none=>rw[q]at e;cases e
  |some z=>rw[q]at e;cases e;rw[<-h8 c q,show v=V.bl b from d];exact beq_self_eq_true b
 |.int b,y,v,k,e,d,c=>by
  unfold cq at e;cases q:cx y with
  |none=>rw[q]at e;cases e
  |some z=>rw[q]at e;cases e;rw[<-h8 c q,show v=V.int b from d];exact beq_self_eq_true b
 |.str b,y,v,k,e,d,c=>by
  unfold cq at e;cases q:cx y with
  |none=>rw[q]at e;cases e
  |some z=>rw[q]at e;cases e;rw[<-h8 c q,show v=tV b from d.1];exact beq_self_eq_true (tS b)
 |.raw _,_,_,_,e,_,_=>by unfold cq at e;cases e
 |.exc _,_,_,_,e,_,_=>by unfold cq at e;cases e
theorem wP{H:Hp}{F:af->Prop}:∀(d c:List PV) {f:List V}{k:Bool},dY d c=aa k->aX K H F d f->aX K H F c f->k=ai
 |[],c,f,k,e,i,g=>by
  unfold dY at e;rw[show f=[] from i]at g;have:=g.len;cases c with
  |nil=>cases e;rfl
  |cons=>simp at this
 |x::d,c,f,k,e,i,g=>by
  unfold dY at e;obtain⟨v,r,rfl,m,l⟩:=i;cases c with
  |nil=>have:=g.len;simp at this
  |cons y c=>
   obtain⟨q,s,p,o,n⟩:=g;cases p;simp only at e;cases h:cq x y with
   |none=>rw[h]at e;cases e
   |some a=>
    cases j:dY d c with
    |none=>rw[h,j]at e;cases e
    |some b=>
     rw[h,j]at e;cases e;rw[v8 x y h m o,wP d c j l n];rfl
end
mutual
theorem KL{H:Hp}{F:af->Prop}:∀(x y:PV) {v u:V}{k:Bool},cq x y=aa k->aJ K H F x v->aJ K H F y u->f_ K H (fO x) v u k
 |.tup i,y,v,u,k,e,d,c=>by
  have p:=e;unfold cq at e;split at e
  .rename_i h;obtain⟨a,r,rfl,o,l⟩:=id d;obtain⟨b,q,rfl,n,j⟩:=id c;by_cases g:a=b
   .subst g;rw[v8 _ _ p d c];exact yW
   .obtain⟨f,m,rfl⟩:=qy i h e l j;unfold fO;exact EV (bQ.of o) (bQ.of n) g m
  .cases e
 |.lst i,y,v,u,k,e,d,c=>by
  have p:=e;unfold cq at e;split at e
  .rename_i h;obtain⟨a,r,rfl,o,_,l⟩:=id d;obtain⟨b,q,rfl,n,_,j⟩:=id c;by_cases g:a=b
   .subst g;rw[v8 _ _ p d c];exact yW
   .obtain⟨f,m,rfl⟩:=qy i h e l j;unfold fO;exact Db (.inl o) (.inl n) g m
  .cases e
 |.non,y,v,u,k,e,d,c=>by unfold cq at e;rw[show v=V.non from d];exact tY rfl e c
 |.bl b,y,v,u,k,e,d,c=>by unfold cq at e;rw[show v=V.bl b from d];exact tY rfl e c
 |.int b,y,v,u,k,e,d,c=>by unfold cq at e;rw[show v=V.int b from d];exact tY rfl e c
 |.str b,y,v,u,k,e,d,c=>by unfold cq at e;rw[show v=tV b from d.1];exact tY rfl e c
 |.raw _,_,_,_,_,e,_,_=>by unfold cq at e;cases e
 |.exc _,_,_,_,_,e,_,_=>by unfold cq at e;cases e
theorem qy{H:Hp}{F:af->Prop}:∀(d c:List PV) {g i:List V}{k:Bool},dY d c=aa k->aX K H F d g->aX K H F c i -> ∃f:Nat->Bool,(∀(j:Nat) x y,g[j]?=aa x->i[j]?=aa y->f_ K H (eQ d) x y (f j))/\k=ez f g.length i.length
 |[],c,g,i,k,e,n,l=>by
  unfold dY at e;rw[show g=[] from n];refine⟨λ_=>ai,λj x y h=>by simp at h,?_⟩;have:=l.len;cases e;unfold ez;cases c with
  |nil=>simp at this;simp[this]
  |cons=>rw[this];simp
 |x::d,c,g,i,k,e,n,l=>by
  unfold dY at e;obtain⟨v,r,rfl,A,z⟩:=n;cases c with
  |nil=>
   cases e;rw[show i=[] from l];exact⟨λ_=>ai,λj x y _ h=>by simp at h,by simp[ez]⟩
  |cons y c=>
   obtain⟨u,D,rfl,C,B⟩:=l;simp only at e;cases m:cq x y with
   |none=>rw[m]at e;cases e
   |some a=>
    cases o:dY d c with
    |none=>rw[m,o]at e;cases e
    |some b=>
     rw[m,o]at e;cases e;obtain⟨f,w,rfl⟩:=qy d c o z B;refine⟨λj=>if j=0 then a else f (j-1),λj p q t s=>?_,by rw[d8,d8,Kt]⟩;cases j with
     |zero=>simp at t s;subst t s;show f_ K H _ _ _ (if(0:Nat)=0 then a else f (0-1));rw[if_pos rfl];exact BS (KL x y m A C) (by unfold eQ;exact Nat.le_max_left _ _)
     |succ j=>show f_ K H _ _ _ (if j+1=0 then a else f (j+1-1));rw[if_neg ∅];exact BS (w j p q (by simpa using t) (by simpa using s)) (show eQ d<=max (fO x) (eQ d)from Nat.le_max_right _ _)
end
def eqT(neg:Bool)(x y:PV):Option PV:=match cx x,cx y with
 |some v,aa u=>if qA v u then aa (.bl (neg^^decide (v=u)))else ae
 |none,ae=>if fO x<=8 then(cq x y).map λk=>.bl (neg^^k)else ae
 |_,_=>ae
def Bl(K:au):R2:=λx y H Q=>AE x y H Q\/qf K aj x y H Q
def yT(K:au):R2:=λx y H Q=>zP x y H Q\/qf K ai x y H Q
theorem mP(a:X.A.units+64<cLine):bz X (dr .Eq) (Bl X.K):=Ln.or (Dr a)
theorem p_(a:X.A.units+64<cLine):bz X (dr .NotEq) (yT X.K):=LB.or (HX a)
theorem Bm{H:Hp}{F:af->Prop}{x y:PV}{v u:V}{k:Bool}{Q:VK}{neg:Bool}(h:cx x=ae)(e:cq x y=aa k)(A:fO x<=8)(w:aJ K H F x v)(t:aJ K H F y u)(q:Q (.bl (neg^^k)) H):qf K neg v u H Q:=by
 have d:∀{g:Bool},k=g->Q (.bl (if neg=ai then !g else g)) H:=λ{g} z=>by subst z;cases neg <;> simpa using q
 cases x with
 |tup c=>
  unfold cq at e;split at e
  .rename_i i;obtain⟨a,l,rfl,r,n⟩:=w;obtain⟨b,j,rfl,p,m⟩:=t;obtain⟨f,o,s⟩:=qy c i e n m;unfold fO at A;exact⟨a,b,l,j,eQ c,f,rfl,rfl,.inr ⟨bQ.of r,bQ.of p⟩,∅,o,d s⟩
  .cases e
 |lst c=>
  unfold cq at e;split at e
  .rename_i i;obtain⟨a,l,rfl,r,_,n⟩:=w;obtain⟨b,j,rfl,p,_,m⟩:=t;obtain⟨f,o,s⟩:=qy c i e n m;unfold fO at A;exact⟨a,b,l,j,eQ c,f,rfl,rfl,.inl ⟨.inl r,.inl p⟩,∅,o,d s⟩
  .cases e
 |raw _=>unfold cq at e;cases e
 |exc _=>unfold cq at e;cases e
 |non=>cases h
 |bl _=>cases h
 |int _=>cases h
 |str _=>cases h
theorem mv:P2 K (Bl K) (eqT aj):=λF H x y v u Q pv g f e q=>by
 unfold eqT at e;split at e
 .rename_i a b d h;split at e
  .rename_i i;cases e;rw[h8 g d,h8 f h];refine .inl ⟨i,?_⟩;have:=q (.bl (decide (a=b))) F H (Al.refl ..) (by simp[aJ]);exact this
  .cases e
 .rename_i d h;split at e
  .rename_i j;cases c:cq x y with
   |none=>rw[c]at e;cases e
   |some k=>
    rw[c]at e;cases e;exact .inr (Bm (neg:=aj) d c j g f (q _ F H (Al.refl ..) rfl))
  .cases e
 .cases e
theorem qB:P2 K (yT K) (eqT ai):=λF H x y v u Q pv g f e q=>by
 unfold eqT at e;split at e
 .rename_i a b d h;split at e
  .rename_i i;cases e;rw[h8 g d,h8 f h];refine .inl ⟨i,?_⟩;have:=q (.bl (!decide (a=b))) F H (Al.refl ..) (by simp[aJ]);exact this
  .cases e
 .rename_i d h;split at e
  .rename_i j;cases c:cq x y with
   |none=>rw[c]at e;cases e
   |some k=>
    rw[c]at e;cases e;exact .inr (Bm (neg:=ai) d c j g f (q _ F H (Al.refl ..) rfl))
  .cases e
 .cases e
end
end Pu
namespace Pu
open L2
section
variable{X:Cx}{K:au}
def sL(i j:Tx):Bool:=!(B4 (tS j) (tS i) 0 (tS j).length 1).isEmpty
def gx:List PV->Option (List V)
 |[]=>aa []
 |x::a=>(cx x).bind λv=>(gx a).map λr=>v::r
theorem sT{H:Hp}{F:af->Prop}:∀{a:List PV}{d b:List V},aX K H F a d->gx a=aa b->d=b/\b.all fg=ai
 |[],_,_,r,e=>by cases e;exact⟨r,rfl⟩
 |x::a,_,b,⟨v,r,rfl,g,f⟩,e=>by
  unfold gx at e;cases q:cx x with
  |none=>rw[q]at e;cases e
  |some w=>
   cases c:gx a with
   |none=>rw[q,c]at e;cases e
   |some j=>
    rw[q,c]at e;cases e;obtain⟨i,h⟩:=sT f c;exact⟨by rw[h8 g q,i],by rw[o7,pP q,h];rfl⟩
def nV(neg:Bool):PV->PV->Option PV
 |.str x,.str y=>aa (.bl (neg^^sL x y))
 |x,.lst a=>(cx x).bind λv=>(gx a).map λb=>.bl (neg^^qt v b)
 |x,.tup a=>(cx x).bind λv=>(gx a).map λb=>.bl (neg^^qt v b)
 |_,_=>ae
def BC(K:au):R2:=λx y H Q=>(∃i j,x=.str i/\y=.str j/\Q (.bl (!(B4 j i 0 j.length 1).isEmpty)) H)\/wf K aj x y H Q
theorem Jk:bz X (dr .In) (BC X.K):=Lj.or Jq
theorem zt{H:Hp}{F:af->Prop}{x:PV}{c:List PV}{v:V}{p:af}{b:List V}{Q:VK}{neg:Bool}{pv:PV}(g:aJ K H F x v)(i:bX K H p b\/bQ K H p b)(h:aX K H F c b)(e:((cx x).bind λv=>(gx c).map λf=>PV.bl (neg^^qt v f))=aa pv) (q:∀w,aJ K H F pv w->Q w H):wf K neg v (.ref p) H Q:=by
 cases a:cx x with
 |none=>rw[a]at e;cases e
 |some w=>
  cases d:gx c with
  |none=>rw[a,d]at e;cases e
  |some f=>
   rw[a,d]at e;cases e;obtain⟨rfl,j⟩:=sT h d;rw[h8 g a];refine⟨p,b,rfl,i,pP a,j,?_⟩;have:=q _ rfl;cases neg <;> simpa using this
theorem Dg:P2 K (BC K) (nV aj):=λF H x y v u Q pv d c e q=>by
 unfold nV at e;split at e
 .cases e;exact .inl ⟨_,_,d.1,c.1,by have:=q _ F H (Al.refl ..) rfl;simpa[sL]using this⟩
 .obtain⟨a,h,rfl,g,_,f⟩:=c;exact .inr (zt (neg:=aj) d (.inl (.inl g)) f e λw b=>q w F H (Al.refl ..) b)
 .obtain⟨a,h,rfl,g,f⟩:=c;exact .inr (zt (neg:=aj) d (.inr (bQ.of g)) f e λw b=>q w F H (Al.refl ..) b)
 .cases e
def bq:List PV->Option PV
 |[.str x]=>aa (.int x.length)
 |[.lst a]=>aa (.int a.length)
 |[.tup a]=>aa (.int a.length)
 |_=>ae
theorem gu{H:Hp}{F:af->Prop}{x:PV}{a:List V}(r:aX K H F [x] a):∃v,a=[v]/\aJ K H F x v:=by obtain⟨v,b,rfl,d,c⟩:=r;rw[show b=[] from c];exact⟨v,rfl,d⟩
theorem gC:PL K (λg H Q=>∃x n,g=[x]/\zk K x H n/\Q (.int n) H) bq:=λF H g i Q pv c e q=>by
 unfold bq at e;split at e
 .cases e;obtain⟨v,rfl,h⟩:=gu c;rw[h.1];exact⟨_,_,rfl,⟨by rw[jD];exact cn h.2 jE,rfl⟩,by rw[jD];exact q _ F H (Al.refl ..) rfl⟩
 .cases e;obtain⟨v,rfl,a,b,rfl,f,_,d⟩:=gu c;exact⟨_,_,rfl,.inl ⟨b,.inl f,rfl⟩,by rw[d.len];exact q _ F H (Al.refl ..) rfl⟩
 .cases e;obtain⟨v,rfl,a,b,rfl,f,d⟩:=gu c;exact⟨_,_,rfl,.inr ⟨b,bQ.of f,rfl⟩,by rw[d.len];exact q _ F H (Al.refl ..) rfl⟩
 .cases e
def lu:List PV->Option PO
 |[.lst a]=>aa (.lst a)
 |[.tup a]=>aa (.lst a)
 |_=>ae
theorem wx:km K (λh H Q=>∃p c,h=[.ref p]/\(bX K H p c\/bQ K H p c)/\∀l,H l=ae->Q (.ref l) (upd H l (.lst c))) lu:=λF H h m Q n j i e q=>by
 unfold lu at e;split at e
 .cases e;obtain⟨v,rfl,a,d,rfl,g,_,f⟩:=gu i;exact⟨a,d,rfl,.inl (.inl g),λl b=>q l F _ _ (Al.new0 b) (tx b f) (tP b j trivial)⟩
 .cases e;obtain⟨v,rfl,a,d,rfl,g,f⟩:=gu i;exact⟨a,d,rfl,.inr (bQ.of g),λl b=>q l F _ _ (Al.new0 b) (tx b f) (tP b j trivial)⟩
 .cases e
def i6:List PV->Option PV
 |[.lst a]=>aa (.tup a)
 |[.tup a]=>aa (.tup a)
 |_=>ae
theorem ui:PL K (λg H Q=>∃p d,g=[.ref p]/\((bX K H p d/\∀l,H l=ae->Q (.ref l) (upd H l (.tup d)))\/(bQ K H p d/\Q (.ref p) H))) i6:=λF H g j Q pv h e q=>by
 unfold i6 at e;split at e
 .cases e;obtain⟨v,rfl,a,b,rfl,c,_,f⟩:=gu h;exact⟨a,b,rfl,.inl ⟨.inl c,λl i=>q _ F _ (Al.new0 i) ⟨l,b,rfl,cI,(Al.new0 i).reps f⟩⟩⟩
 .cases e;obtain⟨v,rfl,a,b,rfl,c,f⟩:=gu h;exact⟨a,b,rfl,.inr ⟨bQ.of c,q _ F H (Al.refl ..) ⟨a,b,rfl,c,f⟩⟩⟩
 .cases e
def dZ:List PV->Option (List Tx)
 |[]=>aa []
 |.str x::a=>(dZ a).map (x::·)
 |_=>ae
def am(ls:List Tx):List PV:=ls.map .str
theorem nU(a:List Tx):dZ (am a)=aa a:=by
 induction a with
 |nil=>rfl
 |cons x a b=>show(dZ (am a)).map (x::·)=_;rw[b];rfl
theorem nN:∀{a:List PV}{b:List Tx},dZ a=aa b->a=am b
 |[],b,e=>by cases e;rfl
 |.str x::a,b,e=>by
  unfold dZ at e;cases q:dZ a with
  |none=>rw[q]at e;cases e
  |some r=>rw[q]at e;cases e;rw[nN q];rfl
 |.non::_,_,e=>by cases e
 |.bl _::_,_,e=>by cases e
 |.int _::_,_,e=>by cases e
 |.tup _::_,_,e=>by cases e
 |.lst _::_,_,e=>by cases e
 |.raw _::_,_,e=>by cases e
 |.exc _::_,_,e=>by cases e
theorem Lh{H:Hp}{F:af->Prop}:∀{a:List Tx}{b:List V},aX K H F (am a) b↔b=bA a/\∀x∈a,x.length<=cA
 |[],b=>by simp[am,aX,bA]
 |x::a,b=>by
  show(∃v r,b=v::r/\(v=tV x/\x.length<=cA)/\aX K H F (am a) r)↔_;constructor
  .rintro⟨v,r,rfl,⟨rfl,f⟩,h2⟩;obtain⟨rfl,d⟩:=Lh.mp h2;exact⟨rfl,λy c=>by
    rcases bF.mp c with rfl|c
    .exact f
    .exact d y c⟩
  .rintro⟨rfl,h⟩;exact⟨tV x,bA a,rfl,⟨rfl,h x (by simp)⟩,Lh.mpr ⟨rfl,λy c=>h y (by simp[c])⟩⟩
def kc:List PV->Option (List Bool)
 |[]=>aa []
 |.bl b::a=>(kc a).map (b::·)
 |_=>ae
theorem Ag{H:Hp}{F:af->Prop}:∀{a:List PV}{c:List V}{bs:List Bool},aX K H F a c->kc a=aa bs->c=bs.map V.bl
 |[],_,_,r,e=>by cases e;exact r
 |.bl b::a,_,bs,⟨v,r,rfl,f,d⟩,e=>by
  unfold kc at e;cases q:kc a with
  |none=>rw[q]at e;cases e
  |some g=>rw[q]at e;cases e;rw[Ag d q,show v=V.bl b from f];rfl
 |.non::_,_,_,_,e=>by cases e
 |.str _::_,_,_,_,e=>by cases e
 |.int _::_,_,_,_,e=>by cases e
 |.tup _::_,_,_,_,e=>by cases e
 |.lst _::_,_,_,_,e=>by cases e
 |.raw _::_,_,_,_,e=>by cases e
 |.exc _::_,_,_,_,e=>by cases e
def oD:List PV->Option PV
 |[.lst a]=>(kc a).map λbs=>.bl (bs.all id)
 |_=>ae
theorem xH:PL K (λc H Q=>∃(p:af) (bs:List Bool),c=[.ref p]/\bX K H p (bs.map V.bl)/\Q (.bl (bs.all id)) H) oD:=λF H c i Q pv g e q=>by
 unfold oD at e;split at e
 .rename_i f;cases b:kc f with
  |none=>rw[b]at e;cases e
  |some bs=>
   rw[b]at e;cases e;obtain⟨v,rfl,a,j,rfl,d,_,h⟩:=gu g;rw[Ag h b]at d;exact⟨a,bs,rfl,.inl d,q _ F H (Al.refl ..) rfl⟩
 .cases e
def qT:PV->Option String
 |.non=>aa "NoneType"
 |.bl _=>aa "bool"
 |.int _=>aa "int"
 |.str _=>aa "str"
 |.tup _=>aa "tuple"
 |.lst _=>aa "list"
 |_=>ae
def gc:List PV->Option PV
 |[x,.raw (.ty T)]=>(qT x).bind λt=>(g6 [] (.type t) (.type T)).map λb=>.bl b
 |_=>ae
theorem nO:fY X (.builtin "isinstance") (λa H Q=>∃x t T b,a=[x,.ty T]/\gE X.K H x (.type t)/\g6 X.K (.type t) (.type T)=aa b/\Q (.bl b) H):=by
 intro m s i H a j Q I r h;obtain⟨x,t,T,b,rfl,ty,e,q⟩:=h;cases r with
 |cons g f=>
  cases f with
  |cons d c=>
   cases c;cases d;exact FE I g ty e λl=>⟨.bl b,H,I.tok _,rfl,q⟩
theorem Gk{H:Hp}{F:af->Prop}{x:PV}{v:V}{t:String}(r:aJ K H F x v)(e:qT x=aa t):gE K H v (.type t):=by
 cases x with
 |non=>cases e;rw[show v=V.non from r];exact .non
 |bl b=>cases e;rw[show v=V.bl b from r];exact .bl b
 |int b=>cases e;rw[show v=V.int b from r];exact .int b
 |str b=>cases e;rw[show v=tV b from r.1];exact .str _
 |tup d=>cases e;obtain⟨a,f,rfl,c,_⟩:=r;exact .tup c
 |lst d=>
  cases e;obtain⟨a,f,rfl,c,_⟩:=r;rcases c with c|⟨o,c⟩
  .exact .lst c
  .exact .frz c
 |raw _=>cases e
 |exc _=>cases e
theorem oq:PL K (λd H Q=>∃x t T b,d=[x,.ty T]/\gE K H x (.type t)/\g6 K (.type t) (.type T)=aa b/\Q (.bl b) H) gc:=λF H d j Q pv f e q=>by
 unfold gc at e;split at e
 .rename_i x T;cases a:qT x with
  |none=>rw[a]at e;cases e
  |some t=>
   cases c:g6 [] (.type t) (.type T)with
   |none=>rw[a,iw,c]at e;cases e
   |some b=>
    rw[a,iw,c]at e;cases e;obtain⟨v,l,rfl,i,h⟩:=f;obtain⟨u,rfl,g⟩:=gu h;rw[show u=V.ty T from g];exact⟨v,t,T,b,rfl,Gk i a,c,q _ F H (Al.refl ..) rfl⟩
 .cases e
theorem nW{E:XK}{x:Str}{T:String}{f:Pos}(c:X.mg x=ae)(a:dm x=aa (.type T))(d:Gl X x:=by rfl)(b:x≠"__name__":=by decide)(g:(x==("__debug__":Str))=aj:=by decide):DE X E (.Name x f) (dC (.raw (.ty T))):=λF S i h H Q r q=>bW (Gc (v:=.ty T) d c a rfl b g) (q F S H r (bn.refl ..) _ rfl)
def bT:PV->PV->Option PV
 |.lst a,.int i=>fc a i
 |.tup a,.int i=>fc a i
 |.str x,.int i=>(fc x i).map λc=>.str [c]
 |_,_=>ae
theorem y6{H:Hp}{F:af->Prop}{a:List PV}{b:List V}{i:Int}{x:PV}(r:aX K H F a b)(e:fc a i=aa x):∃v,fc b i=aa v/\aJ K H F x v:=by
 unfold fc at e ⊢;rw[r.len];cases q:iE a.length i with
 |none=>rw[q]at e;cases e
 |some j=>rw[q]at e;exact r.get e
theorem gZ:P2 K (Bg K) bT:=λF H x y v u Q pv b f e q=>by
 unfold bT at e;split at e
 .rename_i n i;obtain⟨a,d,rfl,j,_,g⟩:=b;obtain⟨w,m,l⟩:=y6 g e;exact .inl ⟨a,d,i,w,rfl,f,.inl j,m,q _ F H (Al.refl ..) l⟩
 .rename_i n i;obtain⟨a,d,rfl,j,g⟩:=b;obtain⟨w,m,l⟩:=y6 g e;exact .inr (.inl ⟨a,d,i,w,rfl,f,bQ.of j,m,q _ F H (Al.refl ..) l⟩)
 .rename_i x i;cases h:fc x i with
  |none=>rw[h]at e;cases e
  |some c=>
   rw[h]at e;cases e;rw[b.1];exact .inr (.inr ⟨_,i,c,rfl,f,by rw[jD];exact cn b.2 jE,by rw[i7];exact h,q _ F H (Al.refl ..) ⟨rfl,by show 1<=cA;decide⟩⟩)
 .cases e
def dG{b:Type}(a:List b)(c d:Option Int):List b:=(a.drop (HT.sIx a.length 0 c)).take (HT.sIx a.length a.length d-HT.sIx a.length 0 c)
theorem Hg{b:Type}(a:List b)(c d:Option Int):(dG a c d).length<=a.length:=by unfold dG;rw[kJ,lK];lia
def fe:PV->Option Int->Option Int->Option PV
 |.str x,b,c=>aa (.str (dG x b c))
 |.lst a,b,c=>aa (.lst (dG a b c))
 |.tup a,b,c=>if HT.sIx a.length 0 b=0/\HT.sIx a.length a.length c=a.length then ae else aa (.tup (dG a b c))
 |_,_,_=>ae
def zZ(K:au):V->Option Int->Option Int->Hp->VK->Prop:=λx a b H Q=>Ak x a b H Q\/(zS K x a b H Q\/A5 K x a b H Q)
theorem oS:kr X (zZ X.K):=Lf.or (Li.or Fx)
theorem zh{H:Hp}{F:af->Prop}{a:List PV}{b:List V}(r:aX K H F a b)(c d:Option Int):aX K H F (dG a c d) (lm b c d):=by unfold dG lm;rw[r.len];exact(r.drop _).take _
theorem oQ:Ap K (zZ K) fe:=λF H x h i v Q pv b e q=>by
 unfold fe at e;split at e
 .cases e;rw[b.1];refine .inl ⟨_,rfl,by rw[jD];exact cn b.2 jE,?_⟩;refine q _ F H (Al.refl ..) ⟨?_,cn (Hg ..) b.2⟩;unfold jB dG;rw[jD,i7];rfl
 .cases e;obtain⟨a,f,rfl,g,_,d⟩:=b;exact .inr (.inl ⟨a,f,rfl,.inl g,λp c=>q _ _ _ (Al.new c) ⟨p,_,rfl,.inl cI,.inr rfl,(Al.new c).reps (zh d h i)⟩⟩)
 .split at e
  .cases e
  .rename_i j;cases e;obtain⟨a,f,rfl,g,d⟩:=b;exact .inr (.inr ⟨a,f,rfl,bQ.of g,by rw[d.len];exact j,λp c=>q _ _ _ (Al.new0 c) ⟨p,_,rfl,cI,(Al.new0 c).reps (zh d h i)⟩⟩)
 .cases e
variable{E:XK}{g l a b:az}{d:ak->R PV}{m:ak->R (List PV)}{p f:Pos}
def jH:PV->Option (List PV)
 |.lst h=>aa h
 |.tup h=>aa h
 |.str x=>aa (x.map λc=>.str [c])
 |_=>ae
def cR(d:ak->R PV):ak->R (List PV):=λε=>(d ε).bind λx ε1=>aZ (jH x) ε1
theorem zH{H:Hp}{F:af->Prop}:∀(x:Tx),aX K H F (x.map λc=>PV.str [c]) (x.map sg)
 |[]=>rfl
 |c::x=>⟨sg c,x.map sg,rfl,⟨rfl,by show 1<=cA;decide⟩,zH x⟩
theorem lC(he:DE X E l d):DI X E g l (cR d):=λF S ε Z H Rr rl h=>Bx.mk λag s I=>by
 have w:=he F S ε Z H (λv r=>∃B D u x,aI X.K B D u Z r/\aJ X.K r B x v/\Ok X.K E Z B D r (aZ (jH x) u) (λpvs _ F' S' H'=>∀J L RR,aX X.K H' F' pvs L->L.length<=a9->Walk J L RR->(∀S'' F'' Y,bn (U S') (U S'') F' F'' H' Y->RR Y)->Rr J H')) rl
  ((Ok.bind h).imp λx u B D r G g1 q v N=>⟨B,D,u,x,G,N,q⟩)
 refine aL (w.run ag s I) λv c ⟨x,r,y,rx,B,D,u,pv,G,N,q⟩=>?_;cases pv with
 |lst xs=>
  obtain⟨a,M,rfl,C,hF,ra⟩:=N;cases rx;obtain⟨O,rr,pp,P⟩:=y.list (.inl C);refine Ch pp.isList ?_;refine⟨c.heap.objs.size,[c.heap.objs.size],_,_,r,rfl,y.kept (t':=c.toks) λb o e=>bd _ e,G7 a _,⟨_,cg _ rfl,rfl,rfl⟩,λb T=>?_,q B D r G (bn.refl ..) (vM X.K a) M (λH=>bX X.K H a M) ra P He λS2 F2 H2 g2=>.inl (g2.lst G.fit hF C)⟩;have e:b=c.heap.objs.size:=by simpa using T
  subst e;exact y.fpOk (aY _) (y.hok.fresh (aY _))
 |tup xs=>
  obtain⟨a,M,rfl,C,ra⟩:=N;cases rx;obtain⟨O,rr,pp,P⟩:=y.tuple (bQ.of C);refine wpAny_pyIter_tuple (show c.heap.IsTuple a O.toArray from pp) ?_;refine⟨c.heap.objs.size,[c.heap.objs.size],_,_,r,rfl,y.kept (t':=c.toks) λb o e=>bd _ e,Jn a _,⟨_,cg _ rfl,rfl,rfl⟩,λb T=>?_,q B D r G (bn.refl ..) (wL X.K a) M (λH=>bQ X.K H a M) ra P Dw λS2 F2 H2 g2=>bQ.of (g2.imm G.fit C id)⟩;have e:b=c.heap.objs.size:=by simpa using T
  subst e;exact y.fpOk (aY _) (y.hok.fresh (aY _))
 |str z=>
  obtain⟨rfl,P⟩:=N;obtain⟨t,rfl⟩:=rx;have qq:Rr (qS (tS z)) r:=q B D r G (bn.refl ..) (qS (tS z)) (z.map sg) (λ_=>True) (zH z) (by rw[eT];exact cn P jE) (by have:=HM (z:=tS z);rw[i7]at this;exact this) λ_ _ _ _=>trivial;have W:∀(n:String) (j:Nat->ay->Prop),(∀i h,j i h->∃o n L,h.get? c.heap.objs.size=aa o/\o.cls=.type n/\o.data=.fields L /\ ["enumerate","zip","dict_itemiterator","dict_reverseitemiterator","odict_iterator","itertools.zip_longest","itertools.pairwise"].contains n=aj) ->
    (∀(A:aM) (i:Nat) (s:ao) (Q:ah->ao->Prop) (E:ah->ao->Prop),j i s.heap->Q (.ref c.heap.objs.size) s->aq (ar X.prog X.w) A (kH (.ref c.heap.objs.size)) Q E s) ->
    (∀A:aM,A.handled=ae->Walks X.prog X.w A c.heap.objs.size [c.heap.objs.size] [c.heap.objs.size] (tS z).cps.size (SignAt (tS z)) j) ->
    j 0 (c.heap.push {cls:=.type n,data:=.fields #[.str (tS z) t,.int 0 0]}) ->
    pY X ag Z g Rr (.ref c.heap.objs.size) {c with heap:=c.heap.push {cls:=.type n,data:=.fields #[.str (tS z) t,.int 0 0]}}:=λn j q h2 h3 h4=>by
   refine⟨c.heap.objs.size,[c.heap.objs.size],j,qS (tS z),r,rfl,y.kept (t':=c.toks) λb o e=>bd _ e,IV q h2 h3,h4,λb T=>?_,qq⟩;have e:b=c.heap.objs.size:=by simpa using T
   subst e;exact y.fpOk (aY _) (y.hok.fresh (aY _))
  cases C:(tS z).cps.all (· < 128)
  .refine wpAny_pyIter_wide C (W "str_iterator" (λi h=>h.IsStrIter c.heap.objs.size "str_iterator" (tS z) t i) (λi h ⟨o,e1,e2,e3⟩=>⟨o,_,_,e1,e2,e3,by decide⟩) (λA i s Q E st h=>wpAny_pyIter_striter_wide st h) (λA' hA=>Walks.strWide hA _ (tS z) t) ⟨_,cg _ rfl,rfl,rfl⟩)
  .refine wpAny_pyIter_ascii C (W "str_ascii_iterator" (λi h=>h.IsStrIter c.heap.objs.size "str_ascii_iterator" (tS z) t i) (λi h ⟨o,e1,e2,e3⟩=>⟨o,_,_,e1,e2,e3,by decide⟩) (λA i s Q E st h=>wpAny_pyIter_striter_ascii st h) (λA' hA=>Walks.strAscii hA _ (tS z) t) ⟨_,cg _ rfl,rfl,rfl⟩)
 |non=>exact(show False from q).elim
 |bl _=>exact(show False from q).elim
 |int _=>exact(show False from q).elim
 |raw _=>exact(show False from q).elim
 |exc _=>exact(show False from q).elim
def ce(c:Int)(n:Nat):List PV:=(cm n).map λi=>PV.int (c+(i:Nat))
theorem Ec{H:Hp}{F:af->Prop}(c:Int)(n:Nat):aX K H F (ce c n) (oi c n):=by
 unfold ce oi
 induction (cm n)with
 |nil=>rfl
 |cons x i h=>exact⟨_,_,rfl,rfl,h⟩
def fM:List PV->Option (List PV)
 |[.int j]=>if j<=1000000/\-1000000<=j then aa (ce 0 j.toNat)else ae
 |_=>ae
theorem nR(u:X.mg "range"=ae)(x:DA X E [a] m)(w:Gl X "range":=by rfl)(t:aN [a] X.env=[(aj,aP a X.env)]:=by rfl):DI X E g (.Call (.Name "range" p) [a] [] f) (dL fM m):=λF S o i H J r h=>by
 refine zy (Kq w u fN t) (x F S o i H _ r ((Ok.bind h).imp λC n B z A s I c D y=>?_));unfold fM at c;split at c
 .rename_i j;split at c
  .rename_i G;obtain⟨v,rfl,q⟩:=gu y;refine⟨j,by rw[show v=V.int j from q],∅,∅,c B z A s (bn.refl ..) _ _ _ (Ec 0 j.toNat) (by rw[vV,mV];lia) FO λ_ _ _ _=>trivial⟩
  .exact c.elim
 .exact c.elim
end
section
variable{K:au}{F:af->Prop}{S:Nat->af->Prop}{f:ak}{l:St}{H:Hp}{i:Nat}{p m:List PV}{d:List V}{a:af}
theorem aI.lstAt(r:aI K F S f l H)(e:f[i]?=aa (.own (.lst p))):∃a c,l[i]?=aa (aa (.ref a))/\H a=aa (.lst c)/\aX K H F p c/\S i a/\∀b,S i b->b=a:=by obtain⟨a,o,⟨c,n,j⟩,g⟩:=r.own i _ e;exact⟨a,c,o,n,j,(g a).mpr rfl,λb h=>(g b).mp h⟩
theorem aI.upd(r:aI K F S f l H)(e:f[i]?=aa (.own (.lst p)))(D:l[i]?=aa (aa (.ref a)))(h:aX K H F m d):aI K F S (f.set i (.own (.lst m))) l (upd H a (.lst d))/\bn (U S) (U S) F F H (upd H a (.lst d)):=by
 obtain⟨N,J,E,M,L,x,B⟩:=r.lstAt e;rw[D]at E;cases E;have A:i<f.length:=(cE.mp e).1;have g:bn (U S) (U S) F F H (L2.upd H a (.lst d)):=⟨λ_ z=>z,λb o q n=>by rw[b7 (by rintro rfl;exact n ⟨i,x⟩)];exact q,λb o q=>by
  by_cases C:b=a
  .subst C;exact⟨_,cI⟩
  .exact⟨o,by rw[b7 C];exact q⟩,λ_ z=>.inl z,λ_ z=>.inl z⟩
 refine⟨⟨by rw[gi];exact r.len,λb z=>let ⟨o,q⟩:=r.ex b z;g.there b o q,λj pv q=>?_,λj y q=>?_,λj b z=>?_,r.dist⟩,g⟩
 .have s:i≠j:=by rintro rfl;rw[fq A]at q;cases q
  rw[dq s]at q;obtain⟨v,u,t⟩:=r.val j pv q;exact⟨v,u,t.grow g r.fit⟩
 .by_cases s:i=j
  .subst s;rw[fq A]at q;cases q;exact⟨a,D,⟨d,cI,h.grow g r.fit⟩,λb=>⟨B b,λz=>by rw[z];exact x⟩⟩
  .rw[dq s]at q;obtain⟨c,u,t⟩:=r.own j y q;refine⟨c,u,t.mono (λ_ _ z=>z.grow g r.fit) (λ_ _ z=>z.grow g r.fit) λb o z w=>?_⟩;rw[b7 (by rintro rfl;exact s (r.dist i j b x z))];exact w
 .obtain⟨⟨y,u⟩,t,o,I,G⟩:=r.foot j b z;by_cases s:i=j
  .subst s;rw[B b z];exact⟨⟨_,fq A⟩,by rw[<-B b z];exact t,_,cI,trivial⟩
  .exact⟨⟨y,by rw[dq s];exact u⟩,t,o,by rw[b7 (by rintro rfl;exact s (r.dist i j b x z))];exact I,G⟩
end
section
variable{X:Cx}{E:XK}{pin:List Nat}{e b:az}{de db:ak->R PV}{d:Pos}
def cX(a:ak)(i:Nat):Option (List PV):=match a[i]? with
 |some (.own (.lst c))=>aa c
 |_=>ae
theorem gz{a:ak}{i:Nat}{c:List PV}(h:cX a i=aa c):a[i]?=aa (.own (.lst c)):=by
 unfold cX at h;split at h
 .cases h;assumption
 .cases h
def mE(i:Nat)(de:ak->R PV):ak->R aR:=λc=>(aZ (cX c i) c).bind λ_ c=>(de c).bind λy a=>(aZ (cX a i) a).bind λf a=>if f.length<cA then .ok .next (a.set i (.own (.lst (f++[y]))))else .no
theorem Au(i:Nat){x:Str}{p f c:Pos}(M:DE X E e de)(P:X.N[i]?=aa x:=by rfl)(J:fE X.env.scope x:=by eq_refl)(N:(x==("__debug__":Str))=aj:=by decide)(bN:(x==("__classdict__":Str))=aj:=by decide) (Y:mZ (.Name x p) "append" X.env (aP (.Name x p) X.env)=aP (.Name x p) X.env:=by rfl)(W:((cM c (aN [e] X.env)).all (λx=>!x.1)&&(rf c (rg [] X.env)).all (λx=>x.1.isSome)&&decide ([e].length+([]:List jh).length+(if([]:List jh).isEmpty then 0 else 1)<30))=ai:=by rfl)(T:(f.endLine == c.line)=ai:=by rfl) (w:aN [e] X.env=(aj,aP e X.env)::aN [] X.env:=by rfl) (Q:(cM c (aN [] X.env)).any (·.1)=aj:=by rfl)(K:kG (.Call (.Attribute (.Name x p) "append" f) [e] [] c) ae d.line X.env=pure aj:=by rfl):DS X E pin (.Expr (.Call (.Attribute (.Name x p) "append" f) [e] [] c) d) (mE i de):=λF S r o H D s h=>by
 unfold mE at h;cases n:cX r i with
 |none=>rw[n]at h;exact h.elim
 |some z=>
  rw[n]at h;simp only[dJ,R.bind_ok]at h;obtain⟨a,A,m,O,_,_,_⟩:=s.lstAt (gz n);refine gW (tZ (uh Cs PySem.F.slot_list_append PySem.F.type_list_append Ay (gT P J N bN) (gU bt i5 w) Y W T w Q) K) ⟨.ref a,m,.inl ⟨rfl,_,bX.of O⟩,?_⟩;refine M F S r o H _ s (h.bindE.imp λy l F1 S1 H1 u g1 q v C=>?_);cases j:cX l i with
  |none=>rw[j]at q;exact q.elim
  |some xs=>
   rw[j]at q;simp only[dJ,R.bind_ok]at q;obtain⟨a',B,g,I,t,_,_⟩:=u.lstAt (gz j);rw[m]at g;cases g;split at q
   .rename_i L;obtain⟨G,Z⟩:=u.upd (gz j) m (t.app (.one C));exact⟨a,B,v,rfl,rfl,I,by rw[t.len];exact eE L jE,q F1 S1 o _ G Z (h_.refl _ _)⟩
   .exact q.elim
def G1:V->List V->Hp->VK->Prop:=λx f H Q=>∃l b c a,x=.ref l/\f=[.ref b]/\H l=aa (.lst c)/\Rd H b (.lst a)/\c.length+a.length<=a9/\Q .non (L2.upd H l (.lst (c++a)))
theorem Hs:qX X "list.extend" G1:=by
 intro M s A H x D v G Q I j m h;obtain⟨l,b,C,B,rfl,rfl,i,t,K,q⟩:=h;cases j;obtain⟨u,rfl,o⟩:=m.one;cases o;obtain⟨z,c,n,r,L,e⟩:=I.lstM i;obtain⟨a,p,g,w,_⟩:=wX I t;have J:=g.length;have f:c.toArray.size+a.toArray.size<=a9:=by rw[bM,bM];lia
 have y:¬(!c.toArray.isEmpty&&Cc (c.toArray.size+a.toArray.size))=ai:=by rw[IL f,Bool.and_false];exact d4
 refine uR F.slot_list_extend ⟨_,e,rfl⟩ F.entry_list_extend (F.args_list_extend_2 _ _)
  (AutoSeq1.list_extend_list_list_0 l c.toArray n b a.toArray p y (by rw[bM];lia) ∅) ⟨e,w,?_⟩
 refine⟨.non,_,I.lset (its':=c++a) i e (by simp) (r.append g) ?_,rfl,q⟩;rw[ca];lia
def mI(i:Nat)(de:ak->R PV):ak->R aR:=λε=>(aZ (cX ε i) ε).bind λ_ ε=>(de ε).bind λy ε1=>(aZ (cX ε1 i) ε1).bind λc ε1=>match y with
 |.lst a=>if c.length+a.length<=cA then .ok .next (ε1.set i (.own (.lst (c++a))))else .no
 |_=>.no
theorem Ga(i:Nat){x:Str}{p g f:Pos}(P:DE X E e de)(Y:X.N[i]?=aa x:=by rfl)(M:fE X.env.scope x:=by eq_refl)(Q:(x==("__debug__":Str))=aj:=by decide)(bN:(x==("__classdict__":Str))=aj:=by decide) (h1:mZ (.Name x p) "extend" X.env (aP (.Name x p) X.env)=aP (.Name x p) X.env:=by rfl)(h2:((cM f (aN [e] X.env)).all (λx=>!x.1)&&(rf f (rg [] X.env)).all (λx=>x.1.isSome)&&decide ([e].length+([]:List jh).length+(if([]:List jh).isEmpty then 0 else 1)<30))=ai:=by rfl)(h3:(g.endLine == f.line)=ai:=by rfl) (A:aN [e] X.env=(aj,aP e X.env)::aN [] X.env:=by rfl) (Z:(cM f (aN [] X.env)).any (·.1)=aj:=by rfl)(N:kG (.Call (.Attribute (.Name x p) "extend" g) [e] [] f) ae d.line X.env=pure aj:=by rfl):DS X E pin (.Expr (.Call (.Attribute (.Name x p) "extend" g) [e] [] f) d) (mI i de):=λF S s r H D t h=>by
 unfold mI at h;cases o:cX s i with
 |none=>rw[o]at h;exact h.elim
 |some B=>
  rw[o]at h;simp only[dJ,R.bind_ok]at h;obtain⟨a,C,n,W,_,_,_⟩:=t.lstAt (gz o);refine gW (tZ (uh Cs PySem.F.slot_list_extend PySem.F.type_list_extend Hs (gT Y M Q bN) (gU bt i5 A) h1 h2 h3 A Z) N) ⟨.ref a,n,.inl ⟨rfl,_,bX.of W⟩,?_⟩;refine P F S s r H _ t (h.bindE.imp λy m F1 S1 H1 z g1 q v J=>?_);cases l:cX m i with
  |none=>rw[l]at q;exact q.elim
  |some xs=>
   rw[l]at q;simp only[dJ,R.bind_ok]at q;obtain⟨a',G,j,L,w,_,_⟩:=z.lstAt (gz l);rw[n]at j;cases j;split at q
   .rename_i ys;split at q
    .rename_i O;obtain⟨c,I,rfl,T,_,u⟩:=J;obtain⟨K,g2⟩:=z.upd (gz l) n (w.app u);exact⟨a,c,G,I,rfl,rfl,L,T,by rw[w.len,u.len];exact cn O jE,q F1 S1 r _ K g2 (h_.refl _ _)⟩
    .exact q.elim
   .exact q.elim
def ut(i:Nat)(db de:ak->R PV):ak->R aR:=λg=>(de g).bind λy c=>(aZ (cX c i) c).bind λ_ c=>(db c).bind λk a=>(aZ (cX a i) a).bind λf a=>match k with
 |.int k=>match iE f.length k with
  |some j=>.ok .next (a.set i (.own (.lst (f.set j y))))
  |none=>.no
 |_=>.no
theorem HI(i:Nat){x:Str}{p c:Pos}(Y:DE X E b db)(T:DE X E e de)(hN:X.N[i]?=aa x:=by rfl)(O:fE X.env.scope x:=by eq_refl)(W:(x==("__debug__":Str))=aj:=by decide)(bN:(x==("__classdict__":Str))=aj:=by decide) (ha:∀v,assign (.Subscript (.Name x p) b c) X.env v=(do
   let ov <-lF [v] (aP (.Name x p) X.env)
   let iv <-lF [v,ov] (aP b X.env)
   standAt c
   lF [v,ov,iv] (setItem ov iv v)
   release [v,ov,iv] []):=by intro _;rfl) (P:swapsWithSole [.Subscript (.Name x p) b c] e d.line X.env=pure aj:=by rfl) (N:swappedStores [.Subscript (.Name x p) b c] e X.env=pure ae:=by rfl)
  (h1:(oZ [.Subscript (.Name x p) b c] X.env).map (·.2)=[assign (.Subscript (.Name x p) b c) X.env]:=by rfl):DS X E pin (.Assign [.Subscript (.Name x p) b c] e d) (ut i db de):=λF S A n H D K h=>by
 refine gW (z5 bt (CY (gT hN O W bN) bt J8 ha) P N h1) (T F S A n H _ K (h.bindE.imp λy g F1 S1 H1 r g1 q v I=>?_));cases t:cX g i with
 |none=>rw[t]at q;exact q.elim
 |some B=>
  rw[t]at q;simp only[dJ,R.bind_ok]at q;obtain⟨a,C,s,Z,_,_,_⟩:=r.lstAt (gz t);refine⟨.ref a,s,Y F1 S1 g n H1 _ r (q.bindE.imp λk o F2 S2 H2 z g2 f u J=>?_)⟩;cases m:cX o i with
  |none=>rw[m]at f;exact f.elim
  |some xs=>
   rw[m]at f;simp only[dJ,R.bind_ok]at f;obtain⟨a',G,l,M,w,_,_⟩:=z.lstAt (gz m);rw[s]at l;cases l;split at f
   .rename_i k;split at f
    .rename_i j Q;obtain⟨L,g3⟩:=z.upd (gz m) s (w.set (I.grow g2 r.fit) j);exact⟨a,G,k,j,rfl,J,M,by rw[w.len];exact Q,f F2 S2 n _ L g3 (h_.refl _ _)⟩
    .exact f.elim
   .exact f.elim
end
mutual
def imm:PV->Bool
 |.lst _=>aj
 |.tup a=>ko a
 |_=>ai
def ko:List PV->Bool
 |[]=>ai
 |x::a=>imm x&&ko a
end
mutual
theorem aJ.imm{K:au}{H:Hp}{F i:af->Prop}:∀(x:PV) {v:V},imm x=ai->aJ K H F x v->aJ K H i x v
 |.non,_,_,h=>h
 |.bl _,_,_,h=>h
 |.int _,_,_,h=>h
 |.str _,_,_,h=>h
 |.raw _,_,_,h=>h
 |.exc _,_,_,h=>h
 |.lst _,_,e,_=>by simp[Pu.imm]at e
 |.tup b,_,e,⟨a,c,g,f,d⟩=>⟨a,c,g,f,aX.imm b (by simpa[Pu.imm]using e) d⟩
theorem aX.imm{K:au}{H:Hp}{F i:af->Prop}:∀(a:List PV) {b:List V},ko a=ai->aX K H F a b->aX K H i a b
 |[],_,_,h=>h
 |x::a,_,e,⟨v,r,g,f,d⟩=>by
  have c:imm x=ai/\ko a=ai:=by simpa[ko]using e
  exact⟨v,r,g,aJ.imm x c.1 f,aX.imm a c.2 d⟩
end
section
variable{K:au}{F:af->Prop}{S:Nat->af->Prop}{d:ak}{c:St}{H:Hp}{i:Nat}{f:List PV}
theorem aI.look(r:aI K F S d c H)(e:d[i]?=aa (.own (.lst f))):∃a,c[i]?=aa (aa (.ref a))/\¬F a/\aJ K H (λb=>F b\/b=a) (.lst f) (.ref a)/\(∀b,F b\/b=a->∃o,H b=aa o) /\ (∀{h g},Al (λb=>F b\/b=a) h H g->Al F (λb=>h b/\b≠a) H g):=by
 obtain⟨a,m,q,l,p,n,s⟩:=r.lstAt e;have j:¬F a:=(r.foot i a n).2.1;refine⟨a,q,j,⟨a,m,rfl,.inl l,.inr rfl,aX.mono (λ_ z=>.inl z) (λ_ _ _ z=>z) (λ_ _ z _=>z) _ _ p⟩,λb z=>z.elim (r.ex b) λz=>by rw[z];exact⟨_,l⟩,λ{h g} al=>⟨λb z=>⟨al.fro b (.inl z),by rintro rfl;exact j z⟩,al.same,λb z=>?_⟩⟩;rcases al.fnew b z.1 with(w|w)|w
 .exact .inl w
 .exact absurd w z.2
 .exact .inr w
end
section
variable{X:Cx}{E:XK}{e b:az}{de db:ak->R PV}{d p:Pos}{x y:Str}{l T:String}{r:List V->Hp->VK->Prop}{f:List PV->Option PV}{g:List PV->Option PO}
def mn(o:Option PV):Option PV:=o.bind λv=>if imm v then aa v else ae
theorem Dh{o:Option PV}{v:PV}(h:mn o=aa v):o=aa v/\imm v=ai:=by
 cases o with
 |none=>cases h
 |some w=>
  have h:(if imm w then aa w else ae)=aa v:=h;split at h
  .cases h;exact⟨rfl,by assumption⟩
  .cases h
def w8:PO->Bool
 |.lst a=>ko a
 |_=>aj
def il{c:Type}(f:List PV->Option c)(i:Nat):ak->R c:=λa=>(aZ (cX a i) a).bind λh a=>aZ (f [.lst h]) a
theorem Km{F:af->Prop}{S:Nat->af->Prop}{n:ak}{m:St}{H:Hp}{Q:VK}{i:Nat}(B:PL X.K r f)(t:aI X.K F S n m H)(h:Ok X.K E m F S H (il (λc=>mn (f c)) i n) (λpv _ z _ j=>∀v,aJ X.K j z pv v->Q v j)):∃a,m[i]?=aa (aa (.ref a))/\r [.ref a] H Q:=by
 unfold il at h;cases s:cX n i with
 |none=>rw[s]at h;exact h.elim
 |some c=>
  rw[s]at h;simp only[dJ,R.bind_ok]at h;obtain⟨a,D,J,A,C,u⟩:=t.look (gz s);refine⟨a,D,?_⟩;cases q:mn (f [.lst c])with
  |none=>rw[q]at h;exact h.elim
  |some pv=>rw[q]at h;obtain⟨I,G⟩:=Dh q;exact B _ H [.lst c] [.ref a] Q pv (.one A) I λw z j al o=>h _ S j (t.al (u al)) (u al).grow w (aJ.imm pv G o)
theorem AZ(i:Nat)(z:fY X (.builtin l) r)(s:PL X.K r f)(u:X.mg x=ae)(n:dm x=aa (.builtin l))(A:X.N[i]?=aa y:=by rfl)(B:fE X.env.scope y:=by eq_refl)(w:(y==("__debug__":Str))=aj:=by decide) (I:(y==("__classdict__":Str))=aj:=by decide) (v:Gl X x:=by rfl) (t:x≠"__name__":=by decide) (C:(x==("__debug__":Str))=aj:=by decide) {c:Pos}(h:aN [.Name y c] X.env=(aj,aP (.Name y c) X.env)::aN [] X.env:=by rfl) (G:(cM d (aN [] X.env)).any (·.1)=aj:=by rfl):DE X E (.Call (.Name x p) [.Name y c] [] d) (il (λj=>mn (f j)) i):=λF S K J H Q m q=>by obtain⟨a,D,o⟩:=Km s m q;exact bW (qR z v u n (gU (gT A B w I) i5 h) t C h G) ⟨_,D,o⟩
def oG(o:Option PO):Option PO:=o.bind λv=>if w8 v then aa v else ae
theorem Jc{F:af->Prop}{S:Nat->af->Prop}{t:ak}{s:St}{H:Hp}{Q:VK}{i:Nat}(hp:km X.K r g)(A:aI X.K F S t s H)(h:Ok X.K E s F S H (il (λm=>oG (g m)) i t) (λB _ J S' q=>∀a u,dU X.K q J B a u->(∀b,u b->H b=ae/\¬J b/\¬U S' b/\∃o,q b=aa o/\dE o)->Q (.ref a) q)):∃a,s[i]?=aa (aa (.ref a))/\r [.ref a] H Q:=by
 unfold il at h;cases I:cX t i with
 |none=>rw[I]at h;exact h.elim
 |some m=>
  rw[I]at h;simp only[dJ,R.bind_ok]at h;obtain⟨a,ea,nF,Y,D,M⟩:=A.look (gz I);refine⟨a,ea,?_⟩;cases G:g [.lst m]with
  |none=>rw[G]at h;exact h.elim
  |some B=>
   rw[G]at h;cases B with
   |dK n=>exact h.elim
   |lls iA=>exact h.elim
   |ins C fs=>exact h.elim
   |dT n=>exact h.elim
   |dN n=>exact h.elim
   |inl C fs y m=>exact h.elim
   |lst v=>
    have h:Ok X.K E s F S H (aZ (if ko v then aa (PO.lst v)else ae) t) _:=h;split at h
    .rename_i hi;refine hp _ H [.lst m] [.ref a] Q _ D (.one Y) G λc J q u al Z fr=>h _ S q (A.al (M al)) (M al).grow c u ?_ λb z=>?_
     .obtain⟨⟨W,o1,o2⟩,o3⟩:=Z;exact⟨⟨W,o1,aX.imm v hi o2⟩,o3⟩
     .obtain⟨K,P,o,O,N⟩:=fr b z;refine⟨K,λw=>P w.1,λ⟨j,w⟩=>?_,o,O,N⟩;obtain⟨_,_,o',L,_⟩:=A.foot j b w;rw[K]at L;cases L
    .exact h.elim
theorem AO(i:Nat)(z:fY X (.builtin l) r)(s:km X.K r g)(u:X.mg x=ae)(n:dm x=aa (.builtin l))(A:X.N[i]?=aa y:=by rfl)(B:fE X.env.scope y:=by eq_refl)(w:(y==("__debug__":Str))=aj:=by decide) (I:(y==("__classdict__":Str))=aj:=by decide) (v:Gl X x:=by rfl) (t:x≠"__name__":=by decide) (C:(x==("__debug__":Str))=aj:=by decide) {c:Pos}(h:aN [.Name y c] X.env=(aj,aP (.Name y c) X.env)::aN [] X.env:=by rfl) (G:(cM d (aN [] X.env)).any (·.1)=aj:=by rfl):DN X E (.Call (.Name x p) [.Name y c] [] d) (il (λj=>oG (g j)) i):=λF S K J H Q m q=>by obtain⟨a,D,o⟩:=Jc s m q;exact bW (qR z v u n (gU (gT A B w I) i5 h) t C h G) ⟨_,D,o⟩
end
end Pu
namespace Pu
open L2
def mF(h:ay)(e T:af)(c g:ah):Prop:=∃a b f d,h.get? e=aa a/\a.cls=c/\(a.data=.fields b/\a.dict=ae)/\b[1]?=aa (.ref T)/\T≠e/\h.get? T=aa f/\f.data=.fields d/\d[3]?=aa g
def Made(h:ay)(e:af)(c:ah):Prop:=∃a b,h.get? e=aa a/\a.cls=c/\(a.data=.fields b/\a.dict=ae)/\b[1]?=aa .none
structure Kp(fs:List af)(X:af->Prop)(h h':ay):Prop where
 keep:∀b o,h.get? b=aa o->b∉fs->¬X b->h'.get? b=aa o
 slot:∀b o,h.get? b=aa o->b∈fs->¬X b->∃sl,h'.get? b=aa {o with slots:=sl}
 there:∀b o,h.get? b=aa o->∃o',h'.get? b=aa o'
theorem Kp.trans{fs:List af}{X Y:af->Prop}{h g f:ay}(a:Kp fs X h g)(b:Kp fs Y g f):Kp fs (λc=>X c\/Y c) h f where
 keep:=λc o e n x=>b.keep c o (a.keep c o e n λz=>x (.inl z)) n λz=>x (.inr z)
 slot:=λc o e n x=>by obtain⟨l,j⟩:=a.slot c o e n λz=>x (.inl z);obtain⟨d,i⟩:=b.slot c _ j n λz=>x (.inr z);exact⟨d,i⟩
 there:=λc o e=>let ⟨o',e'⟩:=a.there c o e;b.there c o' e'
theorem Kp.imp{fs d:List af}{X Y:af->Prop}{h j:ay}(a:Kp fs X h j)(f:∀b,b∈fs->b∈d)(g:∀b o,h.get? b=aa o->X b->Y b):Kp d Y h j where
 keep:=λc o e n x=>a.keep c o e (λz=>n (f c z)) λz=>x (g c o e z)
 slot:=λc o e n x=>by
  by_cases i:c∈fs
  .exact a.slot c o e i λz=>x (g c o e z)
  .exact⟨o.slots,a.keep c o e i λz=>x (g c o e z)⟩
 there:=a.there
theorem FD(f:Array ah->Array ah)(o:Obj):(nj f o).dict=o.dict:=by
 obtain⟨c,d,dt,a⟩:=o;cases dt <;> rfl
section
variable{M:Model}{A:aM}{E:ah->ao->Prop}{s:ao}
theorem zB{y:ay}{l:Env}{g:List Env}{L e:af}{v:Obj}{F:Array ah}{z:ah}{K4:Bool}{Q:Unit->ao->Prop}(Z:A.frames=aa (l::g)) (O:s.heap.FunFrames y (l::g)) (hf:l.frame=aa L) (P:s.heap.get? e=aa v) (H:v.data=.fields F) (X:v.dict=ae) (u:1<F.size)(h:∀J T,Kp (eu (l::g)) (λb=>b=e) s.heap J->mF J e T v.cls .none->s.heap.objs.size<=T->Q () {s with heap:=J}):aq M A (do let a <-frameOf l;let r <-entryPlaceOf L K4;let b <-EntryCells.newEntry z a .none (cN L) .none r;kQ (.ref e) 1 b) (λ_ Y=>aq M A (setFlight (.ref e) ae) Q E Y) E s:=by
 have w:e∉(l::g).filterMap (·.frame):=λhm=>by obtain⟨_,o,D,W⟩:=O.mem hm;rw[P]at D;injection D with D;subst D;exact W F H
 refine ap (wpAny_frameOf_fun Z O hf λc d=>?_);refine ap (wpAny_entryPlaceOf λr S=>?_);unfold EntryCells.newEntry newFields;refine ap (kL ?_ (S.sizeOk5 _ _ _ _ _));have n:c.get? e=aa v:=(d.2.1 e w).trans P;have m:=bd (h:=c) {cls:=.type "traceback",dict:=ae,data:=.fields ([z,.ref L,.none,cN L,.none]++(if r.isEmpty then cO 6 Value.none else r)).toArray} n;refine rq m H u ?_;have B:c.objs.size≠e:=lG (bw n);have j:=x_ H (·.setIfInBounds 1 (Value.ref c.objs.size));have i:=mX (nj (·.setIfInBounds 1 (Value.ref c.objs.size))) m (Ct j);have p:=(mY (c.push {cls:=.type "traceback",dict:=ae,data:=.fields ([z,.ref L,.none,cN L,.none]++(if r.isEmpty then cO 6 Value.none else r)).toArray}) (nj (·.setIfInBounds 1 (Value.ref c.objs.size))) (fk B)).trans (cg c rfl);unfold setFlight;refine ap (o4 i j (x:=.ref c.objs.size) (by simp[u]) ?_);rw[if_pos (show(Value.ref c.objs.size != Value.none)=ai from by simp)];refine rq p rfl (by simp only[bM,ca,d8,iS] <;> lia) (h _ c.objs.size ?_ ?_ ?_)
 .have keep:∀b o,b≠e->c.get? b=aa o ->
    (((c.push {cls:=.type "traceback",dict:=ae,data:=.fields ([z,.ref L,.none,cN L,.none]++(if r.isEmpty then cO 6 Value.none else r)).toArray}).update e (nj (·.setIfInBounds 1 (Value.ref c.objs.size)))).update c.objs.size (nj (·.setIfInBounds 3 ((ae:Option af).elim Value.none λf=>cN f)))).get? b=aa o:=λb o C t=>by
   have I:c.objs.size≠b:=lG (bw t);rw[mY _ _ I,mY _ _ (fk C)];exact bd _ t
  refine⟨λb o t N G=>keep b o G ((d.2.1 b N).trans t),λb o t N G=>?_,λb o t=>?_⟩
  .obtain⟨K,q⟩:=d.2.2 b o t;exact⟨K,keep b _ G q⟩
  .by_cases C:b=e
   .subst C;exact⟨_,(mY _ _ B).trans i⟩
   .obtain⟨K,q⟩:=d.2.2 b o t;exact⟨_,keep b _ C q⟩
 .refine⟨_,_,_,_,(mY _ _ B).trans i,Obj.cls_mapFields _ _,⟨j,by rw[FD];exact X⟩,by simp[u],B,mX _ p (Ct (x_ rfl _)),x_ rfl _,by first | (simp;done) | (rcases S with rfl|⟨_,_,_,_,_,_,_,rfl⟩ <;> simp)⟩
 .exact jQ d.1.symm
theorem HQ{f:ay}{d:Env}{a:List Env}{L e:af}{c:ah}{Q:Unit->ao->Prop}(o:A.frames=aa (d::a))(q:s.heap.FunFrames f (d::a))(i:d.frame=aa L)(p:Made s.heap e c)(h:∀g T,Kp (eu (d::a)) (λb=>b=e) s.heap g->mF g e T c .none->s.heap.objs.size<=T->Q () {s with heap:=g}):aq M A (leaving d (.ref e)) Q E s:=by obtain⟨u,t,j,r,⟨l,n⟩,m⟩:=p;subst r;unfold leaving noteFrame;simp only[i];refine ap (ap (o4 j l m ?_));rw[if_neg (by decide)];exact zB o q i j l n (pc.mp m).1 h
theorem Ht{n:ay}{i:Env}{d:List Env}{L e T:af}{c:ah}{Q:Unit->ao->Prop}(J:A.frames=aa (i::d))(O:s.heap.FunFrames n (i::d))(v:i.frame=aa L)(K:mF s.heap e T c .none)(h:∀m p,Kp (eu (i::d)) (λb=>b=e\/b=T) s.heap m->mF m e p c .none->s.heap.objs.size<=p->Q () {s with heap:=m}):aq M A (noteFrame (.ref e) i) (λ_ G=>aq M A (setFlight (.ref e) ae) Q E G) E s:=by
 obtain⟨W,u,X,D,w,C,⟨x,F⟩,B,H,r,j,y⟩:=K;subst C;unfold noteFrame;simp only[v];refine ap (o4 w x B ?_);rw[if_pos (show(Value.ref T != Value.none)=ai from by simp)];refine ap (o4 r j y ?_);rw[if_neg (show ¬((Value.none == cN L)=ai)from by simp[cN])];refine ap (rq r j (pc.mp y).1 ?_);have a:∀b,b≠T->(s.heap.update T (nj (·.setIfInBounds 3 Value.none))).get? b=s.heap.get? b:=λb f=>mY _ _ (fk f);have g:∀b o,s.heap.get? b=aa o->(∀u,o.data≠.fields u)->b≠T:=λb o f t q=>by rw[q,r]at f;injection f with f;subst f;exact t D j
 refine zB J (O.of_keeps λb o f t=>⟨o,(a b (g b o f t)).trans f,rfl⟩) v ((a e (fk H)).trans w) x F (pc.mp B).1 λm p k P N=>?_;have I:Kp (eu (i::d)) (λb=>b=T) s.heap (s.heap.update T (nj (·.setIfInBounds 3 Value.none))):=by
  refine⟨λb o f _ l=>(a b l).trans f,λb o f _ l=>⟨o.slots,(a b l).trans f⟩,λb o f=>?_⟩;by_cases l:b=T
  .subst l;exact⟨_,mX _ r (Ct (x_ j _))⟩
  .exact⟨o,(a b l).trans f⟩
 refine h m p ((I.trans k).imp (λ_ z=>z) λb o _ z=>z.symm) P ?_;have S:(s.heap.update T (nj (·.setIfInBounds 3 Value.none))).objs.size<=p:=N;rwa[Cu]at S
theorem Jz{f:ay}{d:Env}{a:List Env}{L e T:af}{c:ah}{Q:Unit->ao->Prop}(j:A.frames=aa (d::a))(m:s.heap.FunFrames f (d::a))(n:d.frame=aa L)(l:mF s.heap e T c .none)(h:∀g i,Kp (eu (d::a)) (λb=>b=e\/b=T) s.heap g->mF g e i c .none->s.heap.objs.size<=i->Q () {s with heap:=g}):aq M A (leaving d (.ref e)) Q E s:=by unfold leaving;exact ap (Ht j m n l h)
end
def cp(P:aK)(w:aD):eK:=λb H s E e s'=>∃(a T:af) (c:ah) (d:Hp),e=.ref a/\s'.os=s.os/\kB s'.gens/\Un (eu b) [] H d s.heap s'.heap/\cT P w d s'.heap/\mF s'.heap a T c .none /\
 (s.heap.get? a=ae/\s.heap.get? T=ae/\d a=ae/\d T=ae)/\E c ae d
theorem Da{P:aK}{w:aD}{H:Hp}{h:ay}{a:af}{o:HO}(x:cW P w H h a o):∃u,h.get? a=aa u:=by
 cases o with
 |lst c=>obtain⟨_,_,_,_,e⟩:=x;exact⟨_,e⟩
 |tup c=>obtain⟨_,_,_,⟨o,e,_⟩,_⟩:=x;exact⟨_,e⟩
 |dK b=>obtain⟨_,_,_,_,o,_,_,e,_⟩:=x;exact⟨_,e⟩
 |dT b=>obtain⟨_,_,_,_,o,_,_,e,_⟩:=x;exact⟨_,e⟩
 |dN b=>obtain⟨_,_,_,_,o,_,_,e,_⟩:=x;exact⟨_,e⟩
 |set S n=>obtain⟨o,_,_,_,e,_⟩:=x;exact⟨_,e⟩
 |ins C m fs=>obtain⟨_,_,_,e,_⟩:=x;exact⟨_,e⟩
 |own y=>exact x
 |xd fs=>obtain⟨_,⟨_,_,_,e,_⟩,_⟩:=x;exact⟨_,e⟩
 |rng j l=>obtain⟨_,_,_,e⟩:=x;exact⟨_,e⟩
 |frz i u=>obtain⟨e,_⟩:=x;exact⟨_,e⟩
 |tbl g=>obtain⟨_,e,_⟩:=x;exact⟨_,e⟩
 |met f y=>exact⟨_,x⟩
 |ext d=>obtain⟨_,e,_⟩:=x;exact e
theorem EZ{P:aK}{w:aD}{H:Hp}{h:ay}{a:af}(x:cT P w H h)(e:h.get? a=ae):H a=ae:=by
 cases q:H a with
 |none=>rfl
 |some u=>obtain⟨o,z⟩:=Da (x a u q);rw[e]at z;cases z
theorem qM{fs:List af}{H c:Hp}{h b:ay}{a:af}(u:Un fs [] H c h b)(e:b.get? a=ae):h.get? a=ae:=by
 cases q:h.get? a with
 |none=>rfl
 |some o=>obtain⟨d,z⟩:=u.there a o q (by simp);rw[e]at z;cases z
theorem Bf{fs a:List af}{H p:Hp}{h l j:ay}{X:af->Prop}(u:Un fs [] H p h l)(k:Kp a X l j)(r:∀b o,h.get? b=aa o->b∈a->b∈fs)(g:∀b o,h.get? b=aa o->¬X b):Un fs [] H p h j where
 keep:=λb o e n d c=>k.keep b o (u.keep b o e n d c) (λz=>d (r b o e z)) (g b o e)
 slot:=λb o e n d c=>by
  obtain⟨q,m⟩:=u.slot b o e n d c;by_cases i:b∈a
  .obtain⟨f,s⟩:=k.slot b _ m i (g b o e);exact⟨f,s⟩
  .exact⟨q,k.keep b _ m i (g b o e)⟩
 free:=u.free
 there:=λb o e c=>let ⟨o',e'⟩:=u.there b o e c;k.there b o' e'
 tups:=u.tups
 frzs:=u.frzs
 tbls:=u.tbls
theorem Af{P:aK}{w:aD}{fs:List af}{H:Hp}{h d:ay}{X:af->Prop}(x:cT P w H h)(k:Kp fs X h d)(f:∀b∈fs,H b=ae)(g:∀b,X b->H b=ae):cT P w H d:=λb u e=>
 (x b u e).stay (λc v a q=>k.keep c v q (λz=>by
   have:=f c z;rcases a with rfl|a
   .rw[e]at this;cases this
   .rw[a]at this;cases this) λz=>by
   have:=g c z;rcases a with rfl|a
   .rw[e]at this;cases this
   .rw[a]at this;cases this) (λ_ q=>q) λ_ _ q=>q
section
variable{P:aK}{w:aD}{K:au}{n:Str->Option ah}{l:ay}{N:List Str}{j:Str}{g:cL}{f:af}{p:ah}{A:aM}{i:List Env}{d:ao}{m:Hp}{E:XK}
theorem cQ:oB (cp P w) (gv (cp P w) P w K n l N j g f p A i d m E) E:=λag X H s e s' I h=>by
 obtain⟨a,T,c,W,rfl,G,J,un,y,O,⟨Q,S,F,Y⟩,M⟩:=h;have r:=I.call' (s':=s') (ch:=[]) G un y J (λb z=>absurd z (by simp));refine Jz (L:=d.heap.objs.size) I.ok.frames r.stack rfl O λZ D k B x=>?_;have mB:(gv (cp P w) P w K n l N j g f p A i d m E).ex=[]:=rfl;have u:d.heap.get? a=ae:=qM I.base Q;have C:d.heap.get? T=ae:=qM I.base S;have v:d.heap.get? D=ae:=qM r.base (uE x);have t:∀b o,d.heap.get? b=aa o->b≠a/\b≠T:=λb o e=>⟨(by rintro rfl;rw[u]at e;cases e),(by rintro rfl;rw[C]at e;cases e)⟩
 refine⟨a,D,c,W,rfl,r.os,r.bare,Bf r.base k (λb o e z=>?_) (λb o e z=>z.elim (t b o e).1 (t b o e).2),Af r.hok k r.stkFree (λb z=>by rcases z with rfl|rfl <;> assumption),B,⟨u,v,F,r.hok.fresh x⟩,M⟩;rcases bF.mp (I.stkSub b z)with q|q
 .exact absurd (bw e) (by rw[q];exact gf _)
 .exact q
end
section
variable{X:Cx}{E:XK}{pin:List Nat}{e:az}{de:ak->R PV}{x:Str}{C:af}{i:List ah}{d f B:String}{l g j:Pos}
def yB(X:Cx)(E:XK):Prop:=∀(n:List (af×Obj)) (m:St) (H:Hp) (s:ao) (a:af) (c:ah) (h:ay),Inv X n m H s->(∀b o,s.heap.get? b=aa o->h.get? b=aa o)->Made h a c->s.heap.get? a=ae->(E c ae H)->X.xe (.ref a) {s with heap:=h}
def zi(c:ah)(de:ak->R PV):ak->R aR:=λb=>(de b).bind λ_ a=>.er c a
theorem Hl{h c:ay}{e:af}{a:ah}{b:List ah}(m:Heap.MadeExcOf h c e a b):Made c e a:=by obtain⟨t,n,_,_⟩:=m.there;exact⟨_,_,n,rfl,⟨rfl,rfl⟩,rfl⟩
theorem Hk(hx:yB X E)(hc:X.calm=ai)(O:OwnCls x C i d X.mg X.base)(P:ExcBaseFacts B d f i)(he:DE X.nox E0 e de)(hg:Gl X x:=by rfl)(hd:(x==("__debug__":Str))=aj:=by decide)(L:aN [e] X.env=[(aj,aP e X.env)]:=by rfl):DS X E pin (.Raise (aa (.Call (.Name x l) [e] [] g)) ae j) (zi (.ref C) (λt=>c_ (de t))):=λF S t n H D Y q=>Bx.mk λM s I=>by
 obtain⟨Q,N,nm,Z,bs,hdct,sn,sub,ab,col,dd,k0,k1,k2,k3,k5,mN,hC,hN,G,T⟩:=O.obj;refine wpAny_Raise_call_subT (C:=C) (nm:=nm) (q:=Z) (N:=N) (bs:=bs) (bm:=Q) (hdct:=hdct) (sn:=sn) (sub:=sub) (ab:=ab) (col:=col) (dd:=dd) (k0:=k0) (k1:=k1) (k2:=k2) (k3:=k3) (k5:=k5)
  P (mN:=mN) (T.hasType P.hasBase) (I.ok.hd hc) (by rw[L];rfl) G (xD I hg O.bound ⟨rfl,?_⟩ hd)
 have q2:Ok X.K E0 n F S H (de t) (λ_ b r o p=>iL X.K E pin n r o p (.er (.ref C) b) D):=by
  have q:iL X.K E pin n F S H ((c_ (de t)).bind λ_ b=>.er (.ref C) b) D:=q;cases J:de t with
  |no=>rw[J]at q;exact q.elim
  |er c y=>rw[J]at q;exact q.elim
  |ok v y=>rw[J]at q;exact λF' S' H' r' g'=>q.from g' (h_.refl _ _)
 rw[L];refine Cb (dO (uK (dO ((he F S t n H (λv p=>∃r o b,aI X.K r o b n p/\iL X.K E pin n r o p (.er (.ref C) b) D) Y (q2.imp λv b r o p K g1 h v' rv=>⟨r,o,b,K,h⟩)).run M s (I.wish _)) (λu W ⟨v,p,w,K,r,o,b,A,ok⟩=>?_) λ_ _ z=>z.elim)) (λ_ _ z=>z) λ_ _ z=>z);have w:=w.unwish;refine xN ⟨rfl,(by show 1<=a9;decide),w.bk _ _ hC,hN.keeps w.bk,T.keeps w.bk,λh' a m=>?_⟩;exact hx M n p W a (.ref C) h' w m.keeps (Hl m) m.new (ok ae r o n p A (bn.refl ..) (h_.refl _ _))
end
section
variable{P:aK}{w:aD}{K:au}{m:Str->Option ah}{j:ay}{N:List Str}{i:Str}{g:cL}{f:af}{n:ah}{A:aM}{h:List Env}{d:ao}{l:Hp}{E:XK}
theorem D5:yB (gv (cp P w) P w K m j N i g f n A h d l E) E:=λJ C H s a c y I F D new G=>by
 have p:Inv _ J C H {s with heap:=y}:=I.kept (t':=s.toks) F;refine HQ (s:={s with heap:=y}) (L:=d.heap.objs.size) I.ok.frames p.stack rfl D λM B k v u=>?_;have r:d.heap.get? a=ae:=qM I.base new;have t:d.heap.get? B=ae:=qM p.base (uE u);have x:H a=ae:=EZ I.hok new;refine⟨a,B,c,H,rfl,p.os,p.bare,Bf p.base k (λb o e z=>?_) (λb o e z=>by rw[show b=a from z,r]at e;cases e),Af p.hok k p.stkFree (λb z=>by rw[show b=a from z];exact x),v,⟨r,t,x,p.hok.fresh u⟩,G⟩;rcases bF.mp (I.stkSub b z)with q|q
 .exact absurd (bw e) (by rw[q];exact gf _)
 .exact q
end
def XP(X:Cx)(g:List (af×Obj))(d:St)(h:ah->Hp->Prop)(e:ah)(f:ao):Prop:=∃a b,Inv X g d b a/\cp X.prog X.w X.stack b a (λc _ i=>h c i) e f
section
variable{X:Cx}{K:au}
variable{E:XK}{e:az}{de:ak->R PV}{a:Pos}{y:Str}
def my(b:List PV)(y:PV):Option PV:=(cx y).bind λv=>(gx b).map λc=>.int (c.countP λz=>cC z v)
def oE(b:List PV)(y:PV):Option PV:=(cx y).bind λv=>(gx b).bind λc=>(c.findIdx? λz=>cC z v).map λj=>.int j
end
theorem D2(c:Nat)(x:Tx):sL [c] x=x.contains c:=by unfold sL;have:=StrLaws.found_one (tS x) c;rw[i7]at this;rw[show(tS [c])=⟨#[c]⟩from rfl,this];simp[List.contains_eq_mem]
section
variable{X:Cx}{K:au}
def PM(K:au)(r:V->List V->Hp->VK->Prop)(f:Tx->List PV->Option PV):Prop:=∀(F:af->Prop) (H:Hp) (x:Tx) (b:List PV) (c:List V) (Q:VK) (pv:PV),x.length<=cA->aX K H F b c->f x b=aa pv->(∀w d a,Al F d H a->aJ K a d pv w->Q w a)->r (tV x) c H Q
def wG:PV->Option Tx
 |.str x=>aa x
 |_=>ae
def ql(f:Tx->List PV->Option PV)(d:ak->R PV)(i:ak->R (List PV)):ak->R PV:=λc=>(d c).bind λx a=>(aZ (wG x) a).bind λy a=>(i a).bind λg b=>aZ (f y g) b
variable{E:XK}{o e:az}{g:List az}{d:ak->R PV}{i:ak->R (List PV)}{b:Str}{c a:Pos}{j:String}{r:V->List V->Hp->VK->Prop}{f:Tx->List PV->Option PV}
theorem Ge(n:PySem.Slot "str" b j)(P:typeOf (.builtin j)=pure (.type "method_descriptor"))(hm:uB X j r)(hp:PM X.K r f)(ho:DE X E o d)(ha:DA X E (e::g) i)(W:mZ o b X.env (aP o X.env)=aP o X.env:=by rfl)(L:((cM a (aN (e::g) X.env)).all (λx=>!x.1)&&(rf a (rg [] X.env)).all (λx=>x.1.isSome)&&decide ((e::g).length+([]:List jh).length+(if([]:List jh).isEmpty then 0 else 1)<30))=ai:=by rfl)(T:(c.endLine == a.line)=ai:=by rfl) (Z:aN (e::g) X.env=(aj,aP e X.env)::aN g X.env:=by rfl) (M:(cM a (aN g X.env)).any (·.1)=aj:=by rfl):DE X E (.Call (.Attribute o b c) (e::g) [] a) (ql f d i):=λF S C s H Q J h=>by
 refine bW (uh PySem.F.plainAttrs_str n P hm bt fN W L T Z M) (ho F S C s H _ J ((Ok.bind h).imp λx m B z A O g1 q v I=>?_));cases x <;> first|exact(show False from q).elim|skip
 rename_i y;obtain⟨rfl,Y⟩:=I;refine⟨rfl,?_⟩;have q:Ok X.K E s B z A ((i m).bind λD l=>aZ (f y D) l) _:=q;refine ha B z m s A _ O ((Ok.bind q).imp λu l F2 S2 H2 N g2 p G gK=>?_);cases e:f y u with
 |none=>rw[e]at p;exact p.elim
 |some pv=>rw[e]at p;exact hp F2 H2 y u G Q pv Y gK e λw F' H' al t=>p F' S2 H' (N.al al) al.grow w t
end
def eB(a:List Nat):Nat->ak->Bool
 |_,[]=>ai
 |i,.own c::b=>a.contains i&&ga c&&eB a (i+1) b
 |i,_::b=>eB a (i+1) b
theorem mh{c:List Nat}:∀{b:ak}{k:Nat},eB c k b=ai->∀(i:Nat) a,b[i]?=aa (.own a)->k+i∈c/\ga a=ai
 |[],_,_,i,a,e=>by simp at e
 |.own q::b,k,h,0,a,e=>by simp only[List.getElem?_cons_zero,Option.some.injEq,Slot.own.injEq]at e;subst e;simp only[eB,eU]at h;exact⟨by simpa using h.1.1,h.1.2⟩
 |.own q::b,k,h,i+1,a,e=>by simp only[eB,eU]at h;have:=mh (k:=k+1) h.2 i a (by simpa using e);rwa[Cv,nk]at this
 |.val q::b,k,h,0,a,e=>by simp at e
 |.none::b,k,h,0,a,e=>by simp at e
 |.val q::b,k,h,i+1,a,e=>by have:=mh (k:=k+1) (by simpa[eB]using h) i a (by simpa using e);rwa[Cv,nk]at this
 |.none::b,k,h,i+1,a,e=>by have:=mh (k:=k+1) (by simpa[eB]using h) i a (by simpa using e);rwa[Cv,nk]at this
def bC(len:Nat)(b:List Nat)(g:ak->R Slot):ak->R Slot:=λa=>if a.length=len/\eB b 0 a=ai then g a else .no
theorem dy{q:eK}{P:aK}{w:aD}{K:au}{o:Str->Option ah}{g:ay}{x:Str}{c:a8}{N b:List Str}{k n:Nat}{d:ak->R aR}{pin:List Nat}(D:cF K o x c)(F:cr N b (a6 c))(v:N.length=b.length+n)(y:∀(kV p t:ah) (C:Option af) (l B:ah) (m:List ah),m.length=b.length->eF (ir x x (iG c) (fi c) (a6 c) .none kV p t C l B) ⟨m,[]⟩=pure (b.zip m))(u:∀(f:af) (l:ah) (A:aM) (j:List Env) (s:ao) (H:Hp) (E:XK),Room k (A.deeper (ip x (a6 c) s.heap.objs.size f l))->gq (gv q P w K o g N x (a6 c) f l A j s H E) E pin (fi c) d):cG q P w K o g x (k+1) b (bP K (bC b.length pin (bE n d))):=by
 have no:∀{a},bC b.length pin (bE n d) a≠.no->a.length=b.length/\eB pin 0 a=ai:=λ{a} h=>by
  unfold bC at h;by_cases z:a.length=b.length/\eB pin 0 a=ai
  .exact z
  .rw[if_neg z]at h;exact absurd rfl h
 exact Ky D F v y (λa h=>(no h).1) (λa h i r e=>by have:=mh (no h).2 i r e;rwa[rz]at this) (λa h=>by unfold bC;rw[if_pos (no h)]) u
theorem FX{f:af}{r:gh}{t:eK}{P:aK}{w:aD}{K:au}{q:Str->Option ah}{j:ay}{x a:Str}{g:a8}{N c:List Str}{k n:Nat}{d:ak->R aR}{pin:List Nat}(I:mr K x a g f r)(G:cr N c (a6 g))(B:N.length=c.length+n)(C:∀(kV p v:ah) (F:Option af) (m D:ah) (o:List ah),o.length=c.length->eF (ir x a (iG g) (fi g) (a6 g) .none kV p v F m D) ⟨o,[]⟩=pure (c.zip o))(y:∀(f:af) (m:ah) (A:aM) (l:List Env) (s:ao) (H:Hp) (E:XK),Room k (A.deeper (ip a (a6 g) s.heap.objs.size f m))->gq (gv t P w K q j N a (a6 g) f m A l s H E) E pin (fi g) d):iZ P w K q j t (k+1) f r c (bP K (bC c.length pin (bE n d))):=by
 have no:∀{b},bC c.length pin (bE n d) b≠.no->b.length=c.length/\eB pin 0 b=ai:=λ{b} h=>by
  unfold bC at h;by_cases z:b.length=c.length/\eB pin 0 b=ai
  .exact z
  .rw[if_neg z]at h;exact absurd rfl h
 exact Ao I G B C (λb h=>(no h).1) (λb h i u e=>by have:=mh (no h).2 i u e;rwa[rz]at this) (λb h=>by unfold bC;rw[if_pos (no h)]) y
theorem Bt{P:List ah->Prop}(h:∀a,P [a])(c:List ah)(d:c.length=1):P c:=by
 cases c with
 |nil=>cases d
 |cons a r=>cases r with
  |nil=>exact h a
  |cons b r=>cases d
theorem BI{P:List ah->Prop}(h:∀a b,P [a,b])(c:List ah)(d:c.length=2):P c:=by
 cases c with
 |nil=>cases d
 |cons a r=>exact Bt (P:=λr=>P (a::r)) (h a) r (ya d)
theorem zp{P:List ah->Prop}(h:∀a b c,P [a,b,c])(d:List ah)(f:d.length=3):P d:=by
 cases d with
 |nil=>cases f
 |cons a r=>exact BI (P:=λr=>P (a::r)) (h a) r (ya f)
theorem JM{P:List ah->Prop}(h:∀a b c d,P [a,b,c,d])(f:List ah)(g:f.length=4):P f:=by
 cases f with
 |nil=>cases g
 |cons a r=>exact zp (P:=λr=>P (a::r)) (h a) r (ya g)
theorem Lp{d:gh}{c:List Str}(h:∀a,eF d ⟨[a],[]⟩=pure (c.zip [a]))(b:List ah)(f:b.length=1):eF d ⟨b,[]⟩=pure (c.zip b):=Bt (P:=λb=>eF d ⟨b,[]⟩=pure (c.zip b)) h b f
theorem Le{f:gh}{d:List Str}(h:∀a b,eF f ⟨[a,b],[]⟩=pure (d.zip [a,b]))(c:List ah)(g:c.length=2):eF f ⟨c,[]⟩=pure (d.zip c):=BI (P:=λc=>eF f ⟨c,[]⟩=pure (d.zip c)) h c g
theorem Lm{g:gh}{f:List Str}(h:∀a b c,eF g ⟨[a,b,c],[]⟩=pure (f.zip [a,b,c]))(d:List ah)(i:d.length=3):eF g ⟨d,[]⟩=pure (f.zip d):=zp (P:=λd=>eF g ⟨d,[]⟩=pure (f.zip d)) h d i
theorem Lz{i:gh}{g:List Str}(h:∀a b c d,eF i ⟨[a,b,c,d],[]⟩=pure (g.zip [a,b,c,d]))(f:List ah)(j:f.length=4):eF i ⟨f,[]⟩=pure (g.zip f):=JM (P:=λf=>eF i ⟨f,[]⟩=pure (g.zip f)) h f j
theorem ja{P:aK}{w:aD}{X:Cx}:oB (cp P w) X E0:=λ_ _ _ _ _ _ _ h=>by obtain⟨a,T,c,b,_,_,_,_,_,_,_,z⟩:=h;exact z.elim
theorem gw:dm "len"=aa (.builtin "len"):=by decide +kernel
theorem xE:dm "all"=aa (.builtin "all"):=by decide +kernel
theorem lq:dm "sorted"=aa (.builtin "sorted"):=by decide +kernel
theorem oz:dm "isinstance"=aa (.builtin "isinstance"):=by decide +kernel
theorem HH:dm "int"=aa (.type "int"):=by decide +kernel
theorem Hz:dm "bool"=aa (.type "bool"):=by decide +kernel
theorem Gr:dm "str"=aa (.type "str"):=by decide +kernel
theorem tf:dm "list"=aa (.type "list"):=by decide +kernel
theorem n9:dm "tuple"=aa (.type "tuple"):=by decide +kernel
theorem Gh:dm "set"=aa (.type "set"):=by decide +kernel
def lw:az->Bool
 |.Starred _ _=>ai
 |_=>aj
theorem ka{e:az}{es:List az}{env:Env}(h:lw e=aj):aN (e::es) env=(aj,aP e env)::aN es env:=by
 cases e <;> first|rfl|cases h
section
variable{X:Cx}{E:XK}{e:az}{a:List az}{d:ak->R PV}{b:ak->R (List PV)}{c:ak->R (List bL)}
theorem aV(g:DE X E e d)(f:DA X E a b)(h:lw e=aj:=by rfl):DA X E (e::a) (aB d b):=GD g f (ka h)
theorem aT(g:DE X E e d)(f:DG X E a c)(h:lw e=aj:=by rfl):DG X E (e::a) (gV d c):=Er g f (ka h)
end
def tW:List ah:=[.type "ValueError",.type "Exception",.type "BaseException",.type "object"]
theorem JD{K:au}{h:ay}{C:af}{B:List ah}{nw:String}(X:K.In h)(q:pt K C B nw=ai):∃i N v p bs D j a F c E A z y x w g,h.get? C=aa (excClassObj v p C N bs i D j a F c E A z y x w nw)/\h.Ns N g/\g "__init__"=ae/\OwnTail h B i:=by
 unfold pt at q;split at q
 case h_2=>cases q
 case h_1 d0 cdata slots look=>
  split at q
  case h_2=>cases q
  case h_1 C2 tl s0 s1 s2 s3 nn s5 em es=>
   rw[eU,eU,eU,eU,eU]at q;obtain⟨⟨⟨⟨⟨u,t⟩,f⟩,s⟩,b⟩,r⟩:=q;have o:=beq_iff_eq.mp u;have n:=beq_iff_eq.mp t;have d:=beq_iff_eq.mp r;subst o n;cases cdata;dsimp only at em f b d;subst em;have m:=Cw _ |>.mp f
   subst m;have l:slots=#[s0,s1,s2,s3,aa (.builtin nn),s5]:=by cases slots;exact congrArg Array.mk es
   subst l;exact⟨tl,_,_,_,_,_,_,_,_,_,d0,s0,s1,s2,s3,s5,_,X _ _ look,Heap.Ns.of_isNs (PySem.W.isNs_of_in X b),PySem.W.nsMap_none_of_in X b d,PySem.W.tail_of_in X s⟩
theorem Ex{K:au}{h:ay}{a:Str->Option ah}{x:Str}{C:af}{B:List ah}{nw:String}(X:K.In h)(e:a x=aa (.ref C))(q:pt K C B nw=ai):OwnCls x C B nw a h:=⟨e,JD X q⟩
def subB(K:au)(D C:af):Bool:=match K.lookup C with
 |some ⟨_,_,.cls a,_⟩=>a.mro.contains (.ref D)
 |_=>aj
def Ar(K:au)(C:af):Bool :=
 uI K (.ref C) "__getattribute__" == aa (aa (.builtin "BaseException.__getattribute__"))&&uI K (.ref C) "__getattr__" == aa ae&&uI K (.ref C) "__class__" == aa (aa (.builtin "object.__class__")) &&
 PySem.W.specialIn K (.builtin "object.__class__") "__get__" == aa (aa (.builtin "getset_descriptor.__get__"))&&PySem.W.takesIn K (.builtin "object.__class__") == aa ai&&PySem.W.mroIn K C (.type "object") == aa ai&&PySem.W.mroIn K C (.type "BaseException") == aa ai&&(PySem.W.clsIn K C).isSome
def vx(K:au):Bool:=K.all λp=>match p.2.cls with
 |.type t=>t != "list"
 |_=>ai
theorem Bd{a:af}{o:Obj}:∀{K:au},K.lookup a=aa o->(a,o)∈K
 |[],e=>by cases e
 | (b,u)::K,e=>by
  rw[iR]at e;cases q:a == b with
  |true=>rw[q]at e;cases e;rw[beq_iff_eq.mp q];exact je ..
  |false=>rw[q]at e;exact iO _ (Bd e)
theorem Ai{K:au}{H:Hp}{F:af->Prop}:∀a:List Int,aX K H F (a.map .int) (a.map V.int)
 |[]=>rfl
 |x::a=>⟨.int x,a.map V.int,rfl,rfl,Ai a⟩
theorem IW{K:au}{H:Hp}{a:af}{b:List V}(h:vx K=ai)(s:bX K H a b):Rd H a (.lst b):=by
 rcases s with s|⟨o,d,n,c,f,_⟩
 .exact s
 .have:=kR.mp h _ (Bd c);rw[f]at this;simp at this
theorem JJ{K:au}{g:ak->R Slot}{H:Hp}{a:af}{c:List Int}{E:XK}(d:Rd H a (.lst (c.map V.int)))(h:g [.val (.lst (c.map .int))]=.ok (.val (.bl ai)) [.val (.lst (c.map .int))]):bP K g [.ref a] H (λv _=>v=.bl ai) E:=by
 refine⟨λb=>b=a,λ_ _=>False,[.val (.lst (c.map .int))],⟨rfl,λb e=>?_,λi pv e=>?_,λi l e=>?_,λi b z=>z.elim,λi j b z=>z.elim⟩,?_⟩
 .subst e;rcases d with d|⟨o,d⟩ <;> exact⟨_,d⟩
 .cases i with
  |zero=>cases e;exact⟨_,rfl,a,_,rfl,d,rfl,Ai c⟩
  |succ i=>simp at e
 .cases i with
  |zero=>cases e
  |succ i=>simp at e
 .rw[h];exact λv q n p m _ _ f _ _=>f.1
theorem Lw{K:au}{x:Str}{i:Int}{t:Tok}(e:dP K bV x=aa (aa (.int i t))):∃t,dP K bV x=aa (aa (.int i t)):=⟨t,e⟩
theorem Lq{K:au}{x:Str}{l:Tx}{t:Tok}(e:dP K bV x=aa (aa (.str (tS l) t))):∃t,dP K bV x=aa (aa (.str (tS l) t)):=⟨t,e⟩
def cU(K:au)(x:Str)(a:a8):Prop:=∃f oc g kV h d j b i c,dP K bV x=aa (aa (.ref f))/\K.lookup f=aa ⟨oc,g,.func (ir x x (iG a) (fi a) (a6 a) .none kV h d j b i),c⟩/\uP K b x=ai/\q0 K (.ref f)=ai
theorem Ld{K:au}{x:Str}{b:a8}{f:af}{oc kV j h d m:ah}{i n:Option af}{g:Array (Option ah)}(a:dP K bV x=aa (aa (.ref f)))(l:K.lookup f=aa ⟨oc,i,.func (ir x x (iG b) (fi b) (a6 b) .none kV j h n d m),g⟩)(c:uP K d x=ai) (k:q0 K (.ref f)=ai):cU K x b:=⟨f,oc,i,kV,j,h,n,d,m,g,a,l,c,k⟩
theorem cU.at{K:au}{h:ay}{mg:Str->Option ah}{x:Str}{st:a8}(d:cU K x st)(X:K.In h)(G:h.Ns bV mg):cF K mg x st:=by obtain⟨f,oc,i,kV,j,g,o,n,m,b,a,l,c,k⟩:=d;exact⟨f,_,lO X G a,Bb l c k⟩
def Eh(a:List (bH×PV))(k:bH):Option PV:=(a.find? λb=>decide (b.1=k)).map (·.2)
def Fm:PV->Option bH
 |.int i=>aa (.inl i)
 |.str x=>aa (.inr (tS x))
 |_=>ae
section
variable{K:au}{F:af->Prop}{S:Nat->af->Prop}{d:ak}{f:St}{H:Hp}{i:Nat}{l:List (bH×PV)}{m:List (bH×V)}{a:af}
theorem aI.updO{s po':PO}{o':HO}(r:aI K F S d f H)(e:d[i]?=aa (.own s))(P:ga s=ai)(G:f[i]?=aa (aa (.ref a)))(O:dE o')(h:∀A,(∀x v,aJ K H F x v->aJ K A F x v)->(∀x v,aX K H F x v->aX K A F x v)->A a=aa o'->∀J:af->Prop,(∀b,J b↔b=a)->dU K A F po' a J):aI K F S (d.set i (.own po')) f (L2.upd H a o')/\bn (U S) (U S) F F H (L2.upd H a o'):=by
 obtain⟨Q,I,N⟩:=r.own i s e;rw[G]at I;cases I;have t:=zA N P;have C:S i a:=(t a).mpr rfl;have E:∀b,S i b->b=a:=λb z=>(t b).mp z;have B:i<d.length:=(cE.mp e).1;have g:bn (U S) (U S) F F H (L2.upd H a o'):=⟨λ_ z=>z,λb o q n=>by rw[b7 (by rintro rfl;exact n ⟨i,C⟩)];exact q,λb o q=>by
  by_cases D:b=a
  .subst D;exact⟨_,cI⟩
  .exact⟨o,by rw[b7 D];exact q⟩,λ_ z=>.inl z,λ_ z=>.inl z⟩
 refine⟨⟨by rw[gi];exact r.len,λb z=>let ⟨o,q⟩:=r.ex b z;g.there b o q,λj pv q=>?_,λj s q=>?_,λj b z=>?_,r.dist⟩,g⟩
 .have p:i≠j:=by rintro rfl;rw[fq B]at q;cases q
  rw[dq p]at q;obtain⟨v,y,u⟩:=r.val j pv q;exact⟨v,y,u.grow g r.fit⟩
 .by_cases p:i=j
  .subst p;rw[fq B]at q;cases q;exact⟨a,G,h _ (λ_ _ z=>z.grow g r.fit) (λ_ _ z=>z.grow g r.fit) cI _ t⟩
  .rw[dq p]at q;obtain⟨c,y,u⟩:=r.own j s q;refine⟨c,y,u.mono (λ_ _ z=>z.grow g r.fit) (λ_ _ z=>z.grow g r.fit) λb o z w=>?_⟩;rw[b7 (by rintro rfl;exact p (r.dist i j b C z))];exact w
 .obtain⟨⟨s,y⟩,u,o,M,L⟩:=r.foot j b z;by_cases p:i=j
  .subst p;rw[E b z];exact⟨⟨_,fq B⟩,by rw[<-E b z];exact u,_,cI,O⟩
  .exact⟨⟨s,by rw[dq p];exact y⟩,u,o,by rw[b7 (by rintro rfl;exact p (r.dist i j b C z))];exact M,L⟩
end
def xo(b:ak)(i:Nat):Option (List (bH×PV)):=match b[i]? with
 |some (.own (.dK a))=>aa a
 |_=>ae
section
variable{X:Cx}{E:XK}{pin:List Nat}{e b c:az}{de C I:ak->R PV}{A:Pos}
def Bh(i:Nat)(C:ak->R PV):ak->R PV:=λd=>(aZ (xo d i) d).bind λ_ d=>(C d).bind λk a=>(aZ (xo a i) a).bind λf a=>aZ ((Fm k).bind λk=>Eh f k) a
def tF(X:Cx)(E:XK)(m:List az)(d:ak->R (PO×List bL)):Prop :=
 ∀F S i f H Q,aI X.K F S i f H->Ok X.K E f F S H (d i) (λp _ h n g=>∀a l j,dU X.K g h p.1 a l->(∀b,l b->H b=ae/\¬h b/\¬U n b/\∃o,g b=aa o/\dE o)->gP X.K (f++[aa (.ref a)]) h g p.2 j->Q j g)->l9 X m f H Q
theorem gP.app{K:au}{g:St}{F:af->Prop}{H:Hp}(d:St):∀{l:List bL}{j:List V},gP K g F H l j->gP K (g++d) F H l j
 |[],_,h=>h
 |.inl _::_,_,⟨v,r,e,a,f⟩=>⟨v,r,e,a,f.app d⟩
 |.inr i::_,_,⟨v,r,e,a,f⟩=>⟨v,r,e,by rw[gF (cE.mp a).1];exact a,f.app d⟩
theorem dU.stay{K:au}{O l F i:af->Prop}{H h:Hp}{j:PO}{a:af}{d:af->Prop}(q:dU K H F j a d)(g:bn O l F i H h)(fit:Fit O F H)(f:∀b,d b->¬F b/\¬O b/\∃o,H b=aa o/\dE o):dU K h i j a d/\∀b,d b->¬i b/\¬l b/\∃o,h b=aa o/\dE o:=by refine⟨q.mono (λ_ _ z=>z.grow g fit) (λ_ _ z=>z.grow g fit) λb o z w=>(g.stay w (f b z).2.1 (f b z).1).1,λb z=>?_⟩;obtain⟨u,t,o,s,r⟩:=f b z;obtain⟨p,n,m⟩:=g.stay s t u;exact⟨n,m,o,p,r⟩
variable{m:List az}{dn:ak->R PO}{B:ak->R (List bL)}{t:ak->R (PO×List bL)}
def gN(dn:ak->R PO)(B:ak->R (List bL)):ak->R (PO×List bL):=λf=>(dn f).bind λg d=>(B d).bind λh a=>.ok (g,.inr a.length::h) a
theorem E_(w:DN X E e dn)(v:DG X E m B)(u:lw e=aj:=by rfl):tF X E (e::m) (gN dn B):=λF S q i H Q r h=>by refine mo (gU bt fN (ka u)) (w F S q i H _ r ((Ok.bind h).imp λT d P L N n W y a J s o=>?_));refine v P L d i N _ n ((Ok.bind y).imp λY p O K M l D x j G=>?_);obtain⟨f,g⟩:=s.stay D n.fit λb z=>(o b z).2;refine x O K M l (bn.refl ..) a J (.ref a::j) f (λb z=>⟨(o b z).1,g b z⟩) ⟨.ref a,j,rfl,?_,G.app _⟩;rw[l.len,mW (aY _),Nat.sub_self];rfl
def tL(d:ak->R PV)(t:ak->R (PO×List bL)):ak->R (PO×List bL):=λg=>(d g).bind λx f=>(t f).bind λp a=>.ok (p.1,.inl x::p.2) a
theorem yS(y:DE X E e de)(w:tF X E m t)(u:lw e=aj:=by rfl):tF X E (e::m) (tL de t):=λF S l f H Q q h=>by refine mo (gU bt fN (ka u)) (y F S l f H _ q ((Ok.bind h).imp λx d Y O T g K G v o=>?_));refine w Y O d f T _ g ((Ok.bind G).imp λp j W N P r J D a M n s i L=>?_);exact D W N P r (bn.refl ..) a M _ s (λb z=>⟨mi K (i b z).1,(i b z).2⟩) ⟨v,n,rfl,o.grow J g.fit,L⟩
theorem aI.push{K:au}{F:af->Prop}{S:Nat->af->Prop}{d:ak}{y:St}{H:Hp}{w:PO}{a:af}{i:af->Prop}(r:aI K F S d y H)(D:dU K H F w a i)(x:∀b,i b->¬F b/\¬U S b/\∃o,H b=aa o/\dE o):aI K F (λj b=>S j b\/(j=d.length/\i b)) (d++[.own w]) (y++[aa (.ref a)]) H:=by
 have lt:∀j b,S j b->j<d.length:=λj b z=>by obtain⟨⟨p,q⟩,_⟩:=r.foot j b z;exact(cE.mp q).1
 refine⟨by simp[r.len],r.ex,λj pv q=>?_,λj p q=>?_,λj b z=>?_,λj k b g f=>?_⟩
 .by_cases h:j<d.length
  .rw[gF h]at q;obtain⟨v,u,l⟩:=r.val j pv q;exact⟨v,by rw[gF (by rw[<-r.len];exact h)];exact u,l⟩
  .rw[mW ∅]at q;cases s:j-d.length with
   |zero=>rw[s]at q;simp at q
   |succ n=>rw[s]at q;simp at q
 .by_cases h:j<d.length
  .rw[gF h]at q;obtain⟨v,u,l⟩:=r.own j p q;refine⟨v,by rw[gF (by rw[<-r.len];exact h)];exact u,?_⟩;have:(λb=>S j b\/(j=d.length/\i b))=S j:=by funext b;exact propext ⟨λz=>z.elim id λz=>absurd z.1 (cD h),.inl⟩
   rw[this];exact l
  .rw[mW ∅]at q;cases s:j-d.length with
   |zero=>
    rw[s]at q;simp at q;subst q;have L:j=d.length:=∅
    subst L;refine⟨a,by rw[r.len,mW (aY _),Nat.sub_self];rfl,?_⟩;have:(λb=>S d.length b\/(d.length=d.length/\i b))=i:=by funext b;exact propext ⟨λz=>z.elim (λz=>absurd (lt _ _ z) (gf _)) (·.2),λz=>.inr ⟨rfl,z⟩⟩
    rw[this];exact D
   |succ n=>rw[s]at q;simp at q
 .rcases z with z|⟨rfl,z⟩
  .obtain⟨⟨p,q⟩,l⟩:=r.foot j b z;exact⟨⟨p,by rw[gF (lt j b z)];exact q⟩,l⟩
  .obtain⟨J,M,G⟩:=x b z;exact⟨⟨w,by rw[mW (aY _),Nat.sub_self];rfl⟩,J,G⟩
 .rcases g with g|⟨rfl,g⟩ <;> rcases f with f|⟨rfl,f⟩
  .exact r.dist j k b g f
  .exact absurd ⟨j,g⟩ (x b f).2.1
  .exact absurd ⟨k,f⟩ (x b g).2.1
  .rfl
theorem aI.pop{K:au}{F:af->Prop}{S:Nat->af->Prop}{d:ak}{n:Slot}{h:St}{u:Option V}{H:Hp}(r:aI K F S (d++[n]) (h++[u]) H):aI K F (λj b=>S j b/\j<d.length) d h H:=by
 have len:d.length=h.length:=by have:=r.len;simpa using this
 refine⟨len,r.ex,λj pv q=>?_,λj p q=>?_,λj b z=>?_,λj k b l i=>r.dist j k b l.1 i.1⟩
 .have a:=(cE.mp q).1;obtain⟨v,g,f⟩:=r.val j pv (by rw[gF a];exact q);exact⟨v,by rw[gF (by rw[<-len];exact a)]at g;exact g,f⟩
 .have a:=(cE.mp q).1;obtain⟨v,g,f⟩:=r.own j p (by rw[gF a];exact q);refine⟨v,by rw[gF (by rw[<-len];exact a)]at g;exact g,?_⟩;have:(λb=>S j b/\j<d.length)=S j:=by funext b;simp[a]
  rw[this];exact f
 .obtain⟨⟨p,q⟩,f⟩:=r.foot j b z.1;exact⟨⟨p,by rw[gF z.2]at q;exact q⟩,f⟩
def zU{d:Type}:R d->R d
 |.ok s a=>.ok s a.dropLast
 |.er c a=>.er c a.dropLast
 |.no=>.no
def sN(g:ak->R Slot)(t:ak->R (PO×List bL)):ak->R Slot:=λd=>(t d).bind λp a=>(aZ (if(cz p.2).Nodup then fj (a++[.own p.1]) p.2 else ae) a).bind λf a=>zU (iC (a++[.own p.1]) p.2 (g f))
theorem yL{a:ak}{n:Nat}(h:a.length=n+1):∃l x,a=l++[x]/\l.length=n:=by
 refine⟨a.dropLast,a.getLast (by intro z;rw[z]at h;cases h),(List.dropLast_concat_getLast _).symm,by rw[Cy,h];rfl⟩
theorem bn.pushed{K:au}{F s:af->Prop}{S i:Nat->af->Prop}{f H p:Hp}{n:Nat}{h:af->Prop}(g:bn (U λj b=>S j b\/(j=n/\h b)) (U i) F s H p){r:af->Prop}{l:Nat->af->Prop}(a:bn (U l) (U S) r F f H)(d:∀b,h b->f b=ae):bn (U l) (U λj b=>i j b/\j<n) r s f p where
 fro:=λb z=>g.fro b (a.fro b z)
 keep:=λb o q no=>g.keep b o (a.keep b o q no) λ⟨j,z⟩=>by
  rcases z with z|⟨_,z⟩
  .rcases a.onew b ⟨j,z⟩with w|w
   .exact no w
   .rw[w]at q;cases q
  .rw[d b z]at q;cases q
 there:=λb o q=>let ⟨o',q'⟩:=a.there b o q;g.there b o' q'
 fnew:=λb z=>by
  rcases g.fnew b z with w|w|⟨j,w|⟨_,w⟩⟩
  .exact a.fnew b w
  .exact .inr (.inl (mi a w))
  .exact .inr ((a.onew b ⟨j,w⟩).symm)
  .exact .inr (.inl (d b w))
 onew:=λb ⟨j,z,_⟩=>by
  rcases g.onew b ⟨j,z⟩with⟨k,w|⟨_,w⟩⟩|w
  .exact a.onew b ⟨k,w⟩
  .exact .inr (d b w)
  .exact .inr (mi a w)
variable{D:eK}{x:Str}{k:Nat}{G:List Str}{g:ak->R Slot}{p:Pos}
theorem IR(c:cG D X.prog X.w X.K X.mg X.base x k G (bP X.K g))(hr:Room k X.A)(hx:oB D X E)(ha:tF X E (e::m) t)(hg:Gl X x:=by rfl)(hd:(x==("__debug__":Str))=aj:=by decide) (h1:aN (e::m) X.env=(aj,aP e X.env)::aN m X.env:=by rfl) (h2:(cM A (aN m X.env)).any (·.1)=aj:=by rfl):DR X E (.Call (.Name x p) (e::m) [] A) (sN g t):=λF S ε W H Q rl h=>by
 obtain⟨f,fd,hm,Fn,hb,hk⟩:=c.ex;refine bW (zo Fn hr hg hm hk hb .nil hx fN hd h1 h2) (ha F S ε W H _ rl ?_);unfold sN at h;cases ed:t ε with
 |no=>rw[ed]at h;exact h.elim
 |er cv d=>rw[ed]at h;exact h
 |ok pa d=>
  obtain⟨P,q⟩:=pa;rw[ed]at h;simp only[R.bind_ok]at h;intro F1 S1 H1 r1 g1 a Sa vs ow Z T;dsimp only at h T ow;have O:=r1.push ow λb z=>(Z b z).2;by_cases L:(cz q).Nodup
  .rw[if_pos L]at h;cases m:fj (d++[.own P]) q with
   |none=>rw[m]at h;exact h.elim
   |some ss=>
    rw[m]at h;simp only[dJ,R.bind_ok]at h;rw[iQ];refine⟨F1,ku q _,ss,O.cal T m L,?_⟩;have len:∀n,(f8 (d++[.own P]) q n).length=d.length+1:=λn=>by rw[sZ];simp
    cases eg:g ss with
    |no=>rw[eg]at h;exact h.elim
    |er cv n=>
     rw[eg]at h;intro y F' S' H' Y g';unfold iC at h;dsimp only at h;by_cases u:gA q n=ai
     .rw[if_pos u]at h;obtain⟨S2,J,g2,_⟩:=O.called T m L Y g' (λ_ z=>z) (mD u);obtain⟨l,sl,N,ll⟩:=yL (len n);rw[N]at J;have h:Ok X.K E W F S H (R.er cv (f8 (d++[.own P]) q n).dropLast:R Slot) _:=h;rw[N,List.dropLast_concat]at h;have M:=bn.pushed (K:=X.K) g2 g1 λb z=>(Z b z).1;rw[<-ll]at M;exact h y F' _ H' J.pop M
     .rw[if_neg u]at h;exact h.elim
    |ok s n=>
     rw[eg]at h;intro v F' S' H' Sr Y g' rv r fr;unfold iC at h;dsimp only at h;by_cases u:gA q n=ai
     .rw[if_pos u]at h;obtain⟨S2,J,g2,u2⟩:=O.called T m L Y g' (λ_ z=>.inl z) (mD u);obtain⟨l,sl,N,ll⟩:=yL (len n);rw[N]at J;have h:Ok X.K E W F S H (R.ok s (f8 (d++[.own P]) q n).dropLast:R Slot) _:=h;rw[N,List.dropLast_concat]at h;have M:=bn.pushed (K:=X.K) g2 g1 λb z=>(Z b z).1;rw[<-ll]at M;refine h F' _ H' J.pop M v Sr rv λb z=>⟨mi g1 (fr b z),(r b z).1,λ⟨j,w,_⟩=>?_,(r b z).2.2⟩
      rcases u2 b ⟨j,w⟩with w|⟨i,w⟩
      .exact(r b z).2.1 w
      .obtain⟨_,_,o,y1,_⟩:=O.foot i b w;rw[fr b z]at y1;cases y1
     .rw[if_neg u]at h;exact h.elim
  .rw[if_neg L]at h;exact h.elim
end
section
variable{X:Cx}{E:XK}{pin:List Nat}{e b c o:az}{de db n d:ak->R PV}{m:ak->R (List PV)}{g p q l:Pos}
def wy(i j:Nat)(d:ak->R PV):ak->R aR:=λε=>(d ε).bind λx ε1=>match x with
 |.tup [a,b]=>.ok .next ((ε1.set i (.val a)).set j (.val b))
 |_=>.no
theorem Kb(i j:Nat){x y:Str}{k:Nat}{f s r:Pos}(hc:X.calm=ai)(w:X.N.Nodup)(he:DE X E e de)(Y:i∉pin:=by decide)(fz:j∉pin:=by decide)(hi:X.N[i]?=aa x:=by rfl)(Z:X.N[j]?=aa y:=by rfl)(Q:Loc X.env.scope x:=by first|exact Or.inl rfl|exact Or.inr rfl) (P:Loc X.env.scope y:=by first|exact Or.inl rfl|exact Or.inr rfl)(hf:X.fn x=ai\/X.env.scope.names.lookup x=aa .local:=by first|exact .inl rfl|exact .inr rfl) (t:X.fn y=ai\/X.env.scope.names.lookup y=aa .local:=by first|exact .inl rfl|exact .inr rfl)(W:swapsWithSole [.Tuple [.Name x s,.Name y r] k f] e g.line X.env=pure aj:=by rfl) (T:swappedStores [.Tuple [.Name x s,.Name y r] k f] e X.env=pure ae:=by rfl):DS X E pin (.Assign [.Tuple [.Name x s,.Name y r] k f] e g) (wy i j de):=λF S C A H D L h=>by
 refine gW (z5 bt (Iy hc (BK (uC w hi Q hf) (BK (uC w Z P t) Il))) W T rfl) (he F S C A H _ L (h.bindE.imp λz B F1 S1 H1 O g1 u v J=>?_));split at u
 .rename_i a b;obtain⟨p,us,rfl,gm,K⟩:=J;obtain⟨I,ra,rfl,N,G,rb,rfl,M,rfl⟩:=K;refine⟨p,_,rfl,bQ.of gm,rfl,I,_,rfl,G,_,rfl,rfl,?_⟩;exact u F1 _ _ H1 ((O.set N).set M) ((bn.less i).trans (bn.less j)) ((h_.set Y).trans (h_.set fz))
 .exact u.elim
def Fw(K:au)(r:V->List V->Hp->VK->Prop)(i:TE)(t:TA):TE:=λf H Q=>i f H λx h=>(∃p a,x=.ref p/\h p=aa (.tup a))/\t f h λa j=>r x a j Q
theorem yJ{i:Str}{w:String}{r:V->List V->Hp->VK->Prop}{B:TE}{t:TA}{j f:Pos}{es:List az}(u:PySem.Slot "tuple" i w)(lT:typeOf (.builtin w)=pure (.type "method_descriptor"))(hm:uB X w r)(ho:PE X o B)(ha:PA X (e::es) t)(kW:mZ o i X.env (aP o X.env)=aP o X.env:=by rfl)(N:((cM f (aN (e::es) X.env)).all (λx=>!x.1)&&(rf f (rg [] X.env)).all (λx=>x.1.isSome)&&decide ((e::es).length+([]:List jh).length+(if([]:List jh).isEmpty then 0 else 1)<30))=ai:=by rfl)(kX:(j.endLine == f.line)=ai:=by rfl) (hs:aN (e::es) X.env=(aj,aP e X.env)::aN es X.env:=by rfl) (O:(cM f (aN es X.env)).any (·.1)=aj:=by rfl):PE X (.Call (.Attribute o i j) (e::es) [] f) (Fw X.K r B t):=by
 intro A s y H Q I h;refine wpAny_Call_method_late kW N kX rfl (aL (ho A s y H _ I h) λv C h'=>?_);obtain⟨x,G,F,S,⟨p,J,rfl,hp⟩,W⟩:=h';cases S;obtain⟨_,its,_,⟨Y,e1,e2,_⟩,Z,e3,e4⟩:=(show cW X.prog X.w G C.heap p (.tup J)from F.hok p _ hp)
 refine⟨"tuple",w,PySem.F.plainAttrs_tuple,u,lT,⟨Y,e1,e2⟩,λa z=>?_,?_⟩
 .cases z;exact⟨Z,e3,e4⟩
 have D:=ha f A C y G _ F W;rw[hs]at D ⊢;refine Calls.callWith_builtin (by show(aj||(cM f (aN es X.env)).any (·.1))=aj;rw[O] <;> rfl) (Cb ?_);exact aL D λL M h2=>by obtain⟨K,H2,I2,P,T⟩:=h2;exact hm A M y H2 (.ref p) K (.ref p) L Q I2 rfl P T
def kl(f:List PV->PV->Option PV)(d de:ak->R PV):ak->R PV:=λε=>(d ε).bind λx h=>match x with
 |.tup i=>(de h).bind λk a=>aZ (f i k) a
 |_=>.no
theorem Ax{f a:Pos}(T:DE X E o d)(Y:DE X E e de)(P:mZ o "count" X.env (aP o X.env)=aP o X.env:=by rfl)(O:(f.endLine == a.line)=ai:=by rfl) (Z:lw e=aj:=by rfl):DE X E (.Call (.Attribute o "count" f) [e] [] a) (kl my d de):=λF S I A H Q M h=>by
 have u:=ka (es:=[]) (env:=X.env) Z;refine bW (yJ PySem.F.slot_tuple_count PySem.F.type_tuple_count C5 bt (gU bt i5 u) P (by rw[u];rfl) O u rfl) (T F S I A H _ M ((Ok.bind h).imp λx j F1 S1 H1 s g1 y v K=>?_));split at y
 .rename_i J;obtain⟨p,B,rfl,C,L⟩:=K;refine⟨⟨p,B,rfl,C⟩,Y F1 S1 j A H1 _ s ((Ok.bind y).imp λk G F2 S2 H2 N D q w r=>?_)⟩;unfold my at q;cases i:cx k with
  |none=>rw[i]at q;exact q.elim
  |some z=>
   cases t:gx J with
   |none=>rw[i,t]at q;exact q.elim
   |some ws=>rw[i,t]at q;obtain⟨rfl,W⟩:=sT (L.grow D s.fit) t;rw[h8 r i];exact⟨p,B,z,rfl,rfl,bQ.of (D.imm s.fit C id),pP i,W,q F2 S2 H2 N (bn.refl ..) _ rfl⟩
 .exact y.elim
end
section
variable{X:Cx}
def AV:List (bH×PV)->Option (List Tx)
 |[]=>aa []
 | (.inr k,_)::r=>(AV r).map (k.cps.toList::·)
 |_=>ae
def FI(b:List (bH×PV)):Option PO:=(AV b).bind λa=>if a.length<64/\(∀x∈a,x.length<=cA)then aa (.lst (am (aO a)))else ae
def Kg(i:Nat):ak->R PO:=λa=>(aZ (xo a i) a).bind λb a=>aZ (FI b) a
end
end Pu
namespace L2
def tR:Bool->Keyed->Array Keyed->Nat->Nat->Nat->StateT bi Sem (Option Nat):=sortPriv% PySem.Builtin.gallop
def A6:Array Keyed->Array Keyed->StateT bi Sem (Array Keyed):=sortPriv% PySem.Builtin.mergeLo
def A8:Array Keyed->Array Keyed->StateT bi Sem (Array Keyed):=sortPriv% PySem.Builtin.mergeHi
def kO(a:KeyKind)(p:Keyed):a.α:=(a.keyOf p.1).getD a.dflt
def eZ(b:KeyKind)(p:Keyed):Prop:=∃a,b.keyOf p.1=aa a
theorem eZ.k{κ:KeyKind}{p:Keyed}(h:eZ κ p):κ.keyOf p.1=aa (kO κ p):=by obtain⟨a,e⟩:=h;unfold kO;rw[e];rfl
def gB(κ:KeyKind)(kz:gk)(c:aK)(w:aD)(A:aM)(s:ao):Prop :=
 ∀(E:ah->ao->Prop) (x y:ah) (a b:κ.α) {Q:Bool->ao->Prop},κ.keyOf x=aa a->κ.keyOf y=aa b->Q (κ.blt a b) s->aq (ar c w) A (keyLt' kz x y) Q E s
theorem OneLt.ok{κ:KeyKind}(f:κ.OneLt){prog:aK}{w:aD}{A:aM}{s:ao}:gB κ oneType' prog w A s:=λE x y a b _ d c h=>by rw[keyLt'_oneType];exact f prog w A E s x y a b d c h
structure SB(kz:gk)(st:bi):Prop where
 kind:kindOf st=kz
 failed:failedOf st=ae
section
variable{a:aK}{w:aD}{A:aM}{E:ah->ao->Prop}{s:ao}{d:KeyKind}{f:gk}
theorem qW(j:gB d f a w A s){b:bi}{x y:Keyed}{Q:Option Bool->bi->Prop}(i:SB f b)(g:eZ d x)(c:eZ d y)(h:Q (aa (d.blt (kO d x) (kO d y))) b):wpS (ar a w) A E s (lt' x y) Q b:=by rw[lt'_eq];refine aA (jk ?_);rw[i.kind];exact aA (pA (wpAny_attempt (j _ x.1 y.1 _ _ g.k c.k ⟨rfl,aF h⟩)))
theorem dz{c:bi}{b:Array Keyed}{i:Nat}(g:i<b.size){Q:Keyed->bi->Prop}(h:Q b[i] c):wpS (ar a w) A E s (elem' b i) Q c:=by rw[elem'_eq,getElem?_pos b i g];exact aF h
def yG(c:Bool)(g:Keyed)(j:Array Keyed)(h i:Nat):StateT bi Sem (Option Bool) :=elem' j (h+i) >>= λx=>if c=ai then lt' x g else lt' g x >>= λb=>pure (b.map (!·))
def jA(d:KeyKind)(b:Bool)(c x:Keyed):Bool:=if b=ai then d.blt (kO d x) (kO d c)else !d.blt (kO d c) (kO d x)
theorem FR(p:gB d f a w A s){l:bi}{c:Bool}{j:Keyed}{g:Array Keyed}{b i:Nat}{Q:Option Bool->bi->Prop}(o:SB f l)(n:eZ d j)(q:b+i<g.size)(m:eZ d g[b+i])(h:Q (aa (jA d c j g[b+i])) l):wpS (ar a w) A E s (yG c j g b i) Q l:=by
 refine aA (dz q ?_);cases c
 .rw[if_neg (by simp)];exact aA (qW p o n m (aF h))
 .rw[if_pos rfl];exact qW p o m n h
theorem A_(hO:gB d f a w A s){J:bi}(hk:SB f J){F:Bool}{K:Keyed}{y:Array Keyed}{t n b:Nat}{Q:Option Nat->bi->Prop}(d9:eZ d K)(hn:t+n<=y.size)(hA:∀i (g:i<y.size),eZ d y[i]) (B:Nat->Bool) (hB:∀i (g:i<n),B i=jA d F K (y[t+i]'∅))(mono:∀i j,i<=j->j<n->B j=ai->B i=ai) (hh:b<n)(h:∀r,r<=n->(∀i,i<r->B i=ai)->(∀i,r<=i->i<n->B i=aj)->Q (aa r) J):wpS (ar a w) A E s (tR F K y t n b) Q J:=by
 have N:∀{i:Nat}{Q:Option Bool->bi->Prop},i<n->Q (aa (B i)) J->wpS (ar a w) A E s (yG F K y t i) Q J:=λ{i Q} g q=>FR hO hk d9 ∅ (hA _ _) (by rw[<-hB i g];exact q);have dn:∀{i j:Nat},i<=j->j<n->B i=aj->B j=aj:=λ{i j} bj hj hf=>by
  cases e:B j with
  |false=>rfl
  |true=>rw[mono i j bj hj e]at hf;cases hf
 unfold tR;refine aA (N hh ?_);cases hr:B b with
 |true=>
  dsimp only;rw[if_pos rfl];refine aA (eW (eX (I:=λx c m=>m=J/\∃l o,c=(ae,l,o)/\l<o/\x<o/\l<n-b/\B (b+l)=ai) (Q:=λc m=>m=J/\∃l o,c=(ae,l,o)/\l<o/\l<n-b/\B (b+l)=ai/\(n-b<=o\/(o<n-b/\B (b+o)=aj))) ?_ ?_ ?_) ?_)
  .rintro x c m _ O ⟨rfl,l,o,rfl,H,S,G,p⟩;dsimp only;by_cases u:o ≥ n-b
   .rw[if_pos u];exact aF ⟨rfl,l,o,rfl,H,G,p,.inl u⟩
   .rw[if_neg u];refine aA (N ∅ ?_);cases e:B (b+o)with
    |true=>exact aF ⟨rfl,o,2*o+1,rfl,∅,∅,∅,e⟩
    |false=>exact aF ⟨rfl,l,o,rfl,H,G,p,.inr ⟨∅,e⟩⟩
  .rintro c m ⟨rfl,l,o,rfl,H,S,G,p⟩;exact⟨rfl,l,o,rfl,H,G,p,.inl ∅⟩
  .exact⟨rfl,0,1,rfl,∅,∅,∅,hr⟩
  rintro c m ⟨rfl,l,o,rfl,H,G,p,L⟩;dsimp only;have Y:b+l+1<=b+min o (n-b):=∅
  have X:b+min o (n-b)<=n:=∅
  have W:∀i,i<b+l+1->B i=ai:=λi g=>mono i (b+l) ∅ ∅ p;have T:∀i,b+min o (n-b)<=i->i<n->B i=aj:=by
   intro i g M;rcases L with L|⟨L,P⟩
   .lia
   .exact dn (i:=b+o) ∅ M P
  clear L;generalize b+l+1=lo at *;generalize b+min o (n-b)=g at *;refine aA (eW (eX (I:=λx c v=>v=m/\∃l r,c=(ae,l,r)/\l<=r/\r<=n/\r-l<=n-x/\(∀i,i<l->B i=ai)/\(∀i,r<=i->i<n->B i=aj)) (Q:=λc v=>v=m/\∃l r,c=(ae,l,r)/\r<=n/\(∀i,i<r->B i=ai)/\(∀i,r<=i->i<n->B i=aj)) ?_ ?_ ?_) ?_)
  .rintro x c v _ O ⟨rfl,l,r,rfl,a1,D,Z,C,z⟩;dsimp only;by_cases u:l ≥ r
   .rw[if_pos u];have:l=r:=∅
    subst this;exact aF ⟨rfl,l,l,rfl,D,C,z⟩
   .rw[if_neg u];refine aA (N ∅ ?_);cases e:B (l+(r-l) / 2)with
    |true=>exact aF ⟨rfl,_,r,rfl,∅,D,∅,λi g=>mono _ _ ∅ ∅ e,z⟩
    |false=>exact aF ⟨rfl,l,_,rfl,∅,∅,∅,C,λi g M=>dn (i:=l+(r-l) / 2) g M e⟩
  .rintro c v ⟨rfl,l,r,rfl,a1,D,Z,C,z⟩;have:l=r:=∅
   subst this;exact⟨rfl,l,l,rfl,D,C,z⟩
  .exact⟨rfl,lo,g,rfl,Y,X,∅,W,T⟩
  .rintro c v ⟨rfl,l,r,rfl,D,C,z⟩;exact aF (h r D C z)
 |false=>
  dsimp only;rw[if_neg (by simp)];refine aA (eW (eX (I:=λx c m=>m=J/\∃l o,c=(ae,l,o)/\l<o/\x<o/\l<=b/\B (b-l)=aj) (Q:=λc m=>m=J/\∃l o,c=(ae,l,o)/\l<o/\l<=b/\B (b-l)=aj/\(b+1<=o\/(o<=b/\B (b-o)=ai))) ?_ ?_ ?_) ?_)
  .rintro x c m _ O ⟨rfl,l,o,rfl,H,S,G,p⟩;dsimp only;by_cases u:o ≥ b+1
   .rw[if_pos u];exact aF ⟨rfl,l,o,rfl,H,G,p,.inl u⟩
   .rw[if_neg u];refine aA (N ∅ ?_);cases e:B (b-o)with
    |false=>exact aF ⟨rfl,o,2*o+1,rfl,∅,∅,∅,e⟩
    |true=>exact aF ⟨rfl,l,o,rfl,H,G,p,.inr ⟨∅,e⟩⟩
  .rintro c m ⟨rfl,l,o,rfl,H,S,G,p⟩;exact⟨rfl,l,o,rfl,H,G,p,.inl ∅⟩
  .exact⟨rfl,0,1,rfl,∅,∅,∅,hr⟩
  rintro c m ⟨rfl,l,o,rfl,H,G,p,L⟩;dsimp only;have Y:b+1-min o (b+1)<=b-l:=∅
  have X:b-l<=n:=∅
  have W:∀i,i<b+1-min o (b+1)->B i=ai:=by
   intro i g;rcases L with L|⟨L,P⟩
   .lia
   .exact mono i (b-o) ∅ ∅ P
  have T:∀i,b-l<=i->i<n->B i=aj:=λi g M=>dn (i:=b-l) ∅ M p;clear L p;generalize b+1-min o (b+1)=lo at *;generalize b-l=g at *;refine aA (eW (eX (I:=λx c v=>v=m/\∃l r,c=(ae,l,r)/\l<=r/\r<=n/\r-l<=n-x/\(∀i,i<l->B i=ai)/\(∀i,r<=i->i<n->B i=aj)) (Q:=λc v=>v=m/\∃l r,c=(ae,l,r)/\r<=n/\(∀i,i<r->B i=ai)/\(∀i,r<=i->i<n->B i=aj)) ?_ ?_ ?_) ?_)
  .rintro x c v _ O ⟨rfl,l,r,rfl,a1,D,Z,C,z⟩;dsimp only;by_cases u:l ≥ r
   .rw[if_pos u];have:l=r:=∅
    subst this;exact aF ⟨rfl,l,l,rfl,D,C,z⟩
   .rw[if_neg u];refine aA (N ∅ ?_);cases e:B (l+(r-l) / 2)with
    |true=>exact aF ⟨rfl,_,r,rfl,∅,D,∅,λi g=>mono _ _ ∅ ∅ e,z⟩
    |false=>exact aF ⟨rfl,l,_,rfl,∅,∅,∅,C,λi g M=>dn (i:=l+(r-l) / 2) g M e⟩
  .rintro c v ⟨rfl,l,r,rfl,a1,D,Z,C,z⟩;have:l=r:=∅
   subst this;exact⟨rfl,l,l,rfl,D,C,z⟩
  .exact⟨rfl,lo,g,rfl,Y,X,∅,W,T⟩
  .rintro c v ⟨rfl,l,r,rfl,D,C,z⟩;exact aF (h r D C z)
end
section
variable{κ:KeyKind}{kz:gk}
def bp(κ:KeyKind)(x y:Keyed):Prop:=κ.kle (kO κ x) (kO κ y)
theorem bp.trans{x y z:Keyed}(b:bp κ x y)(a:bp κ y z):bp κ x z:=rA b a
structure MS(κ:KeyKind)(T o ra rb:List Keyed):Prop where
 perm:(o++(ra++rb)).Perm T
 so:o.Pairwise (bp κ)
 sa:ra.Pairwise (bp κ)
 sb:rb.Pairwise (bp κ)
 oa:∀x∈o,∀y∈ra,bp κ x y
 ob:∀x∈o,∀y∈rb,bp κ x y
theorem MS.stepA{T o x f d:List Keyed}(h:MS κ T o (x++f) d)(i:∀u∈x,∀v∈d,bp κ u v):MS κ T (o++x) f d:=by
 obtain⟨n,m,c,l,g,j⟩:=h;rw[Cz]at c;refine⟨by simpa[jT]using n,?_,c.2.1,l,?_,?_⟩
 .rw[Cz];exact⟨m,c.1,λu a v b=>g u a v (xJ _ b)⟩
 .intro u a v b;rcases iP.mp a with a|a
  .exact g u a v (jM _ b)
  .exact c.2.2 u a v b
 .intro u a v b;rcases iP.mp a with a|a
  .exact j u a v b
  .exact i u a v b
theorem MS.swap{T o b a:List Keyed}(h:MS κ T o b a):MS κ T o a b :=⟨(Cn _ List.perm_append_comm).trans h.perm,h.so,h.sb,h.sa,h.ob,h.oa⟩
theorem MS.stepB{T o x a b:List Keyed}(h:MS κ T o a (x++b))(c:∀u∈x,∀v∈a,bp κ u v):MS κ T (o++x) a b :=(h.swap.stepA c).swap
def eP(κ:KeyKind)(T:List Keyed)(r:Array Keyed):Prop:=r.toList.Perm T/\r.toList.Pairwise (bp κ)
theorem MS.endA{T o a:List Keyed}{r:Array Keyed}(h:MS κ T o a [])(e:r.toList=o++a):eP κ T r:=by obtain⟨f,d,c,i,b,g⟩:=h;refine⟨by rw[e];simpa using f,?_⟩;rw[e,Cz];exact⟨d,c,b⟩
theorem MS.last{T o b a:List Keyed}{r:Array Keyed}(h:MS κ T o b a)(c:∀u∈a,∀v∈b,bp κ u v)(e:r.toList=o++(a++b)):eP κ T r:=by
 have d:MS κ T o b (a++[]):=by simpa using h
 exact(d.stepB c).endA (by rw[e];simp)
theorem i_(a:Array Keyed)(i j:Nat):(a.extract i j).toList=(a.toList.drop i).take (j-i):=by simp[Array.toList_extract,List.extract_eq_take_drop]
theorem oy(a:Array Keyed)(i:Nat):(a.extract i a.size).toList=a.toList.drop i:=by rw[i_,jR];simp
theorem Ab{a:Array Keyed}{i:Nat}(h:i<a.size):a.toList.drop i=a[i]::a.toList.drop (i+1):=by rw[vf (by simpa using h)];simp
theorem BM(a:Array Keyed)(i k:Nat):a.toList.drop i=(a.extract i (i+k)).toList++a.toList.drop (i+k):=by rw[i_,show i+k-i=k by lia,<-List.drop_drop,o_]
theorem nL{a:Array Keyed}{i:Nat}{x:Keyed}(h:x∈a.toList.drop i):∃j,∃d:j<a.size,i<=j/\a[j]=x:=by
 obtain⟨k,c,e⟩:=vg h;rw[yb]at e;have b:i+k<a.size:=by simp at c;lia
 exact⟨i+k,b,∅,by simpa using e⟩
theorem z9{a:Array Keyed}{i k:Nat}{x:Keyed}(h:x∈(a.extract i (i+k)).toList):∃j,∃c:j<a.size,i<=j/\j<i+k/\a[j]=x:=by
 rw[i_]at h;obtain⟨m,b,e⟩:=vg h;rw[yc,yb]at e;refine⟨i+m,?_,∅,?_,by simpa using e⟩
 all_goals simp at b;lia
def qw(κ:KeyKind)(a:Array Keyed):Prop:=∀i j (b:j<a.size) (c:i<=j),bp κ (a[i]'∅) a[j]
theorem qw.pw{a:Array Keyed}(h:qw κ a):a.toList.Pairwise (bp κ):=by rw[List.pairwise_iff_getElem];intro i j c b d;have:=h i j (by simpa using b) ∅;simpa using this
structure dS(κ:KeyKind)(a b c:Array Keyed)(d f:Nat):Prop where
 ms:MS κ (a.toList++b.toList) c.toList (a.toList.drop d) (b.toList.drop f)
 la:d<=a.size
 lb:f<=b.size
variable{a b c:Array Keyed}{d f:Nat}
theorem dS.pushA(h:dS κ a b c d f)(i:d<a.size)(l:∀j (g:j<b.size),f<=j->bp κ a[d] b[j]):dS κ a b (c.push a[d]) (d+1) f:=by refine⟨?_,i,h.lb⟩;rw[rk];refine MS.stepA (by rw[yd,<-Ab i];exact h.ms) λu n v m=>?_;obtain⟨j,g,o,rfl⟩:=nL m;rw[eV.mp n];exact l j g o
theorem dS.pushB(h:dS κ a b c d f)(i:f<b.size)(l:∀j (g:j<a.size),d<=j->bp κ b[f] a[j]):dS κ a b (c.push b[f]) d (f+1):=by refine⟨?_,h.la,i⟩;rw[rk];refine MS.stepB (by rw[yd,<-Ab i];exact h.ms) λu n v m=>?_;obtain⟨j,g,o,rfl⟩:=nL m;rw[eV.mp n];exact l j g o
theorem dS.extA{k:Nat}(h:dS κ a b c d f)(p:d+k<=a.size)(m:∀i (l:i<a.size),d<=i->i<d+k->∀j (g:j<b.size),f<=j->bp κ a[i] b[j]):dS κ a b (c++a.extract d (d+k)) (d+k) f:=by refine⟨?_,p,h.lb⟩;rw[fP];refine MS.stepA (by rw[<-BM];exact h.ms) λu o v n=>?_;obtain⟨j,g,s,rfl⟩:=nL n;obtain⟨i,l,r,q,rfl⟩:=z9 o;exact m i l r q j g s
theorem dS.extB{k:Nat}(h:dS κ a b c d f)(p:f+k<=b.size)(m:∀i (l:i<b.size),f<=i->i<f+k->∀j (g:j<a.size),d<=j->bp κ b[i] a[j]):dS κ a b (c++b.extract f (f+k)) d (f+k):=by refine⟨?_,h.la,p⟩;rw[fP];refine MS.stepB (by rw[<-BM];exact h.ms) λu o v n=>?_;obtain⟨j,g,s,rfl⟩:=nL n;obtain⟨i,l,r,q,rfl⟩:=z9 o;exact m i l r q j g s
theorem dS.doneA(h:dS κ a b c d f)(e:f=b.size):eP κ (a.toList++b.toList) (c++a.extract d a.size++b.extract f b.size):=by have:=h.ms;rw[show b.toList.drop f=[] by rw[ye];simp[e]]at this;refine this.endA ?_;rw[fP,fP,oy,oy,show b.toList.drop f=[] by rw[ye];simp[e],iQ]
theorem dS.doneB(h:dS κ a b c d f)(e:d=a.size):eP κ (a.toList++b.toList) (c++a.extract d a.size++b.extract f b.size):=by have:=h.ms;rw[show a.toList.drop d=[] by rw[ye];simp[e]]at this;refine this.swap.endA ?_;rw[fP,fP,oy,oy,show a.toList.drop d=[] by rw[ye];simp[e],iQ]
theorem dS.last(h:dS κ a b c d f)(e:d+1=a.size)(n:∀j (g:j<b.size),bp κ b[j] (a[d]'∅)):eP κ (a.toList++b.toList) (c++b.extract f b.size++a.extract d a.size):=by
 refine h.ms.last (λu m v l=>?_) (by rw[fP,fP,oy,oy,jT]);obtain⟨j,g,q,rfl⟩:=nL m;obtain⟨i,o,p,rfl⟩:=nL l;have:i=d:=∅
 subst this;exact n j g
end
section
variable{b:aK}{w:aD}{A:aM}{E:ah->ao->Prop}{s:ao}{a:KeyKind}{c:gk}
theorem wU(x:gB a c b w A s){l:bi}(t:SB c l){f:Keyed}{d:Array Keyed}{base n hint:Nat}{Q:Option Nat->bi->Prop}(C:eZ a f)(q:base+n<=d.size)(y:∀i (g:i<d.size),eZ a d[i]) (o:∀i j (D:i<=j) (m:j<base+n),base<=i->bp a (d[i]'∅) (d[j]'∅)) (u:hint<n)(h:∀r,r<=n->(∀i (g:i<d.size),base<=i->i<base+r->bp a d[i] f)->(∀i (g:i<d.size),base+r<=i->i<base+n->a.klt (kO a f) (kO a d[i]))->Q (aa r) l):wpS (ar b w) A E s (tR aj f d base n hint) Q l:=by
 refine A_ x t C q y (λi=>if g:i<n then jA a aj f (d[base+i]'∅)else aj) (λi g=>by rw[dif_pos g]) ?_ u ?_
 .intro i j D m e;rw[dif_pos m]at e;rw[dif_pos ∅];simp only[jA,jS,if_false,Cw]at e ⊢;exact rA (o (base+i) (base+j) ∅ ∅ ∅) e
 .intro r p B z;refine h r p (λi g v F=>?_) (λi g v F=>?_)
  .have:=B (i-base) ∅;rw[dif_pos ∅]at this;simp only[jA,jS,if_false,Cw,show base+(i-base)=i by lia]at this;exact this
  .have:=z (i-base) ∅ ∅;rw[dif_pos ∅]at this;simp only[jA,jS,if_false,Bool.not_eq_false',show base+(i-base)=i by lia]at this;exact this
theorem wq(x:gB a c b w A s){l:bi}(t:SB c l){f:Keyed}{d:Array Keyed}{base n hint:Nat}{Q:Option Nat->bi->Prop}(C:eZ a f)(q:base+n<=d.size)(y:∀i (g:i<d.size),eZ a d[i]) (o:∀i j (D:i<=j) (m:j<base+n),base<=i->bp a (d[i]'∅) (d[j]'∅)) (u:hint<n)(h:∀r,r<=n->(∀i (g:i<d.size),base<=i->i<base+r->a.klt (kO a d[i]) (kO a f))->(∀i (g:i<d.size),base+r<=i->i<base+n->bp a f d[i])->Q (aa r) l):wpS (ar b w) A E s (tR ai f d base n hint) Q l:=by
 refine A_ x t C q y (λi=>if g:i<n then jA a ai f (d[base+i]'∅)else aj) (λi g=>by rw[dif_pos g]) ?_ u ?_
 .intro i j D m e;rw[dif_pos m]at e;rw[dif_pos ∅];simp only[jA,if_true]at e ⊢;exact KeyOrd.klt_of_kle_of_klt (o (base+i) (base+j) ∅ ∅ ∅) e
 .intro r p B z;refine h r p (λi g v F=>?_) (λi g v F=>?_)
  .have:=B (i-base) ∅;rw[dif_pos ∅]at this;simp only[jA,if_true,show base+(i-base)=i by lia]at this;exact this
  .have:=z (i-base) ∅ ∅;rw[dif_pos ∅]at this;simp only[jA,if_true,show base+(i-base)=i by lia]at this;exact this
end
structure eO(st ax:bi):Prop where
 kind:kindOf ax=kindOf st
 arr:arrOf ax=arrOf st
 pend:a7 ax=a7 st
 failed:failedOf ax=failedOf st
theorem eO.rfl{st:bi}:eO st st:=⟨_root_.rfl,_root_.rfl,_root_.rfl,_root_.rfl⟩
theorem eO.sb{b:gk}{a c:bi}(h:eO a c)(k:SB b a):SB b c:=⟨h.kind.trans k.kind,h.failed.trans k.failed⟩
section
variable{prog:aK}{w:aD}{A:aM}{E:ah->ao->Prop}{s:ao}{κ:KeyKind}{kz:gk}
theorem bS{a d:Type}{M:Model}{c:Prop}[Decidable c]{t e:StateT a Sem d}{Q:d->a->Prop}{b:a}(g:c->wpS M A E s t Q b)(f:¬c->wpS M A E s e Q b):wpS M A E s (if c then t else e) Q b:=by
 split
 .exact g ‹_›
 .exact f ‹_›
def Hi:Nat->StateT bi Sem Unit:=sortPriv% PySem.Builtin.setMinGallop
theorem eO.trans{a b c:bi}(f:eO a b)(d:eO b c):eO a c:=⟨d.kind.trans f.kind,d.arr.trans f.arr,d.pend.trans f.pend,d.failed.trans f.failed⟩
theorem v4{a b:bi}{g:Nat}{Q:Unit->bi->Prop}(d:eO b a)(h:∀c,eO b c->Q () c):wpS (ar prog w) A E s (Hi g) Q a :=kT (h _ (d.trans ⟨rfl,rfl,rfl,rfl⟩))
theorem Im(hO:gB κ kz prog w A s){K:bi}(hk:SB kz K){a b:Array Keyed}{Q:Array Keyed->bi->Prop}(ha:0<a.size)(hb:0<b.size)(hA:∀i (N:i<a.size),eZ κ a[i]) (hB:∀i (N:i<b.size),eZ κ b[i]) (Z:qw κ a) (sb:qw κ b)(h0:bp κ b[0] a[0]) (hl:∀j (p:j<b.size),bp κ b[j] a[a.size-1])(h:∀r D,eO K D->eP κ (a.toList++b.toList) r->Q r D):wpS (ar prog w) A E s (A6 a b) Q K:=by
 have hU:∀{i:Nat} (N:i<a.size),i+1=a.size->∀j (p:j<b.size),bp κ b[j] a[i]:=λ{i} N e j p=>by
  have:i=a.size-1:=∅
  subst this;exact hl j p
 have I0:dS κ a b #[b[0]] 0 1:=by
  have v:dS κ a b #[] 0 0:=⟨⟨by simp,by simp,by simpa using Z.pw,by simpa using sb.pw,by simp,by simp⟩,∅,∅⟩
  exact v.pushB hb λj p _=>h0.trans (Z 0 j p ∅)
 unfold A6;refine aA (pA (kN ⟨rfl,?_⟩));refine aA (dz hb ?_);by_cases e1:1=b.size
 .rw[if_pos (by simp[<-e1])];exact aF (h _ _ .rfl (I0.doneA e1))
 rw[if_neg (by simpa using e1)];by_cases e2:0+1=a.size
 .rw[if_pos (by simp[<-e2])];exact aF (h _ _ .rfl (I0.last e2 (hU ∅ ∅)))
 rw[if_neg (by simpa using e2)];refine aA (jk ?_);refine aA (eW (eX (I:=λx c D=>eO K D/\∃d f l H,c=(ae,d,f,l,H)/\dS κ a b d f l/\f+1<a.size/\l<b.size/\x+1<=f+l) (Q:=λc D=>eO K D/\∃r,c.1=aa r/\eP κ (a.toList++b.toList) r) ?_ ?_ ?_) ?_);rotate_left
 .rintro c D ⟨_,d,f,l,H,rfl,u,v,q,L⟩;lia
 .exact⟨.rfl,_,0,1,_,rfl,I0,∅,∅,∅⟩
 .rintro⟨c1,c⟩ D ⟨t,r,rfl,W⟩;exact aF (h r D t W)
 rintro x c D _ hx ⟨t,d,f,l,H,rfl,u,v,q,L⟩;refine aA (eW (eX (I:=λy c B=>B=D/\∃d f l C z,c=(ae,d,f,l,C,z)/\dS κ a b d f l/\f+1<a.size/\l<b.size/\x+1+y<=f+l) (Q:=λc B=>B=D/\((∃r X,c=(aa r,X)/\eP κ (a.toList++b.toList) r)\/∃d f l C z,c=(ae,d,f,l,C,z)/\dS κ a b d f l/\f+1<a.size/\l<b.size/\x+1+1<=f+l)) ?_ ?_ ?_) ?_)
 .rintro y c B _ hy ⟨rfl,d,f,l,C,z,rfl,u,v,q,L⟩;dsimp only;refine aA (dz q (aA (dz ∅ (aA (qW hO (t.sb hk) (hB l q) (hA f ∅) ?_)))));cases e:κ.blt (kO κ b[l]) (kO κ (a[f]'∅))with
  |true=>
   dsimp only;rw[if_pos rfl];refine aA (dz q ?_);have M:=u.pushB q λj p dR=>bp.trans (jl e) (Z f j p dR);by_cases G:l+1=b.size
   .rw[if_pos (by simp[G])];exact aF ⟨rfl,.inl ⟨_,_,rfl,M.doneA G⟩⟩
   rw[if_neg (by simpa using G)];split
   .exact aF ⟨rfl,.inr ⟨_,_,_,_,_,rfl,M,∅,∅,∅⟩⟩
   .exact aF ⟨rfl,_,_,_,_,_,rfl,M,∅,∅,∅⟩
  |false=>
   dsimp only;rw[if_neg (by simp)];refine aA (dz ∅ ?_);have M:=u.pushA ∅ λj p dR=>bp.trans (show bp κ (a[f]'∅) b[l] from e) (sb l j p dR);by_cases G:f+1+1=a.size
   .rw[if_pos (by simp[G])];exact aF ⟨rfl,.inl ⟨_,_,rfl,M.last G (hU ∅ ∅)⟩⟩
   rw[if_neg (by simpa using G)];split
   .exact aF ⟨rfl,.inr ⟨_,_,_,_,_,rfl,M,∅,∅,∅⟩⟩
   .exact aF ⟨rfl,_,_,_,_,_,rfl,M,∅,∅,∅⟩
 .rintro c B ⟨rfl,d,f,l,C,z,rfl,u,v,q,L⟩;lia
 .exact⟨rfl,_,_,_,_,_,rfl,u,v,q,∅⟩
 rintro c B ⟨rfl,⟨r,X,rfl,W⟩|⟨d,f,l,C,z,rfl,u,v,q,L⟩⟩
 .exact aF ⟨t,r,rfl,W⟩
 refine aA (pA (kN ⟨rfl,?_⟩));refine aA (eW (eX (I:=λy c B=>eO K B/\∃d f l H C z,c=(ae,d,f,l,H,C,z)/\dS κ a b d f l/\f+1<a.size/\l<b.size/\x+2+y<=f+l) (Q:=λc B=>eO K B/\((∃r X,c=(aa r,X)/\eP κ (a.toList++b.toList) r)\/∃d f l H C z,c=(ae,d,f,l,H,C,z)/\dS κ a b d f l/\f+1<a.size/\l<b.size/\x+1+1<=f+l)) ?_ ?_ ?_) ?_);rotate_left
 .rintro c B ⟨_,d,f,l,H,C,z,rfl,u,v,q,L⟩;lia
 .exact⟨t,_,_,_,_,_,_,rfl,u,v,q,∅⟩
 .rintro c B ⟨t,⟨r,X,rfl,W⟩|⟨d,f,l,H,C,z,rfl,u,v,q,L⟩⟩
  .exact aF ⟨t,r,rfl,W⟩
  .dsimp only;refine aA (kT (aF ⟨⟨t.kind,t.arr,t.pend,t.failed⟩,_,_,_,_,rfl,u,v,q,∅⟩))
 clear v q L u t I0 e1 e2;rintro y c B _ hy ⟨t,d,f,l,H,C,z,rfl,u,v,q,L⟩;clear hx hy;have iz:∀{i j:Nat} (J:i<=j) (p:j<b.size),bp κ (b[i]'∅) b[j]:=λ{i j} J p=>sb i j p J;have nz:∀{i j:Nat} (J:i<=j) (p:j<a.size),bp κ (a[i]'∅) a[j]:=λ{i j} J p=>Z i j p J;refine(?_:wpS (ar prog w) A E s _ ?Q _);extract_lets -merge x1 x2 x3 x4 x5 x6 x7 x8 x9 xa xb xc jp;have p:∀g S,eO K S->wpS (ar prog w) A E s (jp () g) ?Q S:=by
  intro g S F;dsimp -zeta only[jp,x1,x2,x3,x4,x5,x6,x7,x8,x9,xa,xb,xc];refine aA (v4 F λS F=>?_);refine aA (dz q ?_);refine aA (wU hO (F.sb hk) (base:=f) (n:=a.size-f) (hint:=0) (hB l q) ∅ hA (λi j J p _=>nz J ∅) ∅ λk fA bO eh=>?_);dsimp -zeta only;extract_lets -merge y1 jp2;have sj:∀o n,dS κ a b o n l->f+k<=n->n+1<a.size->wpS (ar prog w) A E s (jp2 () o n) ?Q S:=by
   intro o n T l6 e4;dsimp -zeta only[jp2,y1];refine aA (dz q ?_);have O:=T.pushB q λj p g=>jl (eh j p ∅ ∅);refine bS (λe5=>?_) λe5=>?_
   .exact aF ⟨F,.inl ⟨_,_,rfl,O.doneA (by simpa using e5)⟩⟩
   have e5':l+1≠b.size:=by simpa using e5
   refine aA (dz ∅ ?_);refine aA (wq hO (F.sb hk) (base:=l+1) (n:=b.size-(l+1)) (hint:=0) (hA _ _) ∅ hB (λi j J p _=>iz J ∅) ∅ λk' m1 m2 m3=>?_);dsimp -zeta only;extract_lets -merge z1 z2 jp3;have sm:∀o m,dS κ a b o n m->l+1+k'<=m->m<b.size->wpS (ar prog w) A E s (jp3 () o m) ?Q S:=by
    intro o m Y e6 e7;dsimp -zeta only[jp3,z1,z2];refine aA (dz ∅ ?_);have sr:=Y.pushA ∅ (λj p g=>m3 j p ∅ ∅);refine bS (λe7=>?_) λe7=>?_
    .have P:n+1+1=a.size:=by simpa using e7
     exact aF ⟨F,.inl ⟨_,_,rfl,sr.last P (hU ∅ P)⟩⟩
    have P:n+1+1≠a.size:=by simpa using e7
    refine bS (λe8=>?_) λe8=>?_
    .exact aF ⟨F,.inr ⟨_,_,_,_,_,_,rfl,sr,∅,∅,∅⟩⟩
    .exact aF ⟨F,_,_,_,_,_,_,rfl,sr,∅,∅,∅⟩
   clear_value jp3;refine bS (λyv=>?_) (λyv=>?_)
   .have Y:=O.extB (k:=k') ∅ (λi N g1 g2 j p g3=>bp.trans (jl (m2 i N g1 g2)) (nz g3 p));refine bS (λe6=>?_) λe6=>?_
    .exact aF ⟨F,.inl ⟨_,_,rfl,Y.doneA (by simpa using e6)⟩⟩
    have e6':l+1+k'≠b.size:=by simpa using e6
    exact sm _ _ Y ∅ ∅
   .exact sm _ _ O ∅ ∅
  clear_value jp2;refine bS (λhk0=>?_) (λhk0=>?_)
  .have T:dS κ a b (d++a.extract f (f+k)) (f+k) l:=u.extA ∅ λi N g1 g2 j p g3=>(bO i N g1 g2).trans (iz g3 p);refine bS (λG=>?_) λG=>?_
   .have l6:f+k+1=a.size:=by simpa using G
    exact aF ⟨F,.inl ⟨_,_,rfl,T.last l6 (hU ∅ l6)⟩⟩
   have l6:f+k+1≠a.size:=by simpa using G
   refine bS (λe4=>?_) λe4=>?_
   .exact aF ⟨F,.inl ⟨_,_,rfl,T.doneB (by simpa using e4)⟩⟩
   have e4':f+k≠a.size:=by simpa using e4
   exact sj _ _ T ∅ ∅
  .exact sj _ _ u ∅ ∅
 exact bS (λ_=>p _ _ t) λ_=>p _ _ t
end
def wR(d:KeyKind):KeyKind where
 α:=d.α
 blt:=λa b=>d.blt b a
 irrefl:=d.irrefl
 trans:=λa b c g f=>d.trans c b a f g
 negTrans:=λa b c h=>(d.negTrans c b a h).symm
 total:=λa b g f=>d.total a b f g
 keyOf:=d.keyOf
 dflt:=d.dflt
section
variable{κ:KeyKind}{g:gk}
theorem pQ{x y:Keyed}(h:bp κ y x):bp (wR κ) x y:=h
theorem yH{a:Array Keyed}{n:Nat}(h:0<n)(b:n<=a.size):(a.toList.take n).reverse=(a[n-1]'∅)::(a.toList.take (n-1)).reverse:=by
 obtain⟨m,rfl⟩:∃m,n=m+1:=⟨n-1,∅⟩
 rw[List.take_succ_eq_append_getElem (by simp;lia),CA];simp
theorem Bi(a:Array Keyed)(p n:Nat)(b:p<=n):a.toList.take n=a.toList.take p++(a.extract p n).toList:=by
 rw[i_]
 conv=>lhs;rw[show n=p+(n-p) by lia]
 rw[List.take_add]
theorem n8{a:Array Keyed}{n:Nat}(d:n<=a.size){x:Keyed}(h:x∈a.toList.take n):∃j,∃f:j<a.size,j<n/\a[j]=x:=by
 obtain⟨m,b,e⟩:=vg h;rw[yc]at e;have c:m<n:=by simp at b;lia
 exact⟨m,∅,c,by simpa using e⟩
theorem ww{a:Array Keyed}{p n:Nat}(d:n<=a.size){x:Keyed}(h:x∈(a.extract p n).toList):∃j,∃f:j<a.size,p<=j/\j<n/\a[j]=x:=by
 rw[i_]at h;obtain⟨m,b,e⟩:=vg h;rw[yc,yb]at e;have c:p+m<n:=by simp at b;lia
 exact⟨p+m,∅,∅,c,by simpa using e⟩
theorem mB(a:Array Keyed)(n:Nat):(a.extract 0 n).toList=a.toList.take n:=by rw[i_];simp
structure dX(κ:KeyKind)(a b c:Array Keyed)(f d:Nat):Prop where
 ms:MS (wR κ) (a.toList++b.toList) c.toList (a.toList.take f).reverse (b.toList.take d).reverse
 la:f<=a.size
 lb:d<=b.size
variable{a b c:Array Keyed}{f d:Nat}
theorem dX.pushA(h:dX κ a b c f d)(o:0<f)(p:f-1<a.size)(l:∀j (i:j<b.size),j<d->bp κ b[j] a[f-1]):dX κ a b (c.push a[f-1]) (f-1) d:=by refine⟨?_,∅,h.lb⟩;rw[rk];refine MS.stepA (by rw[yd,<-yH o h.la];exact h.ms) λu n v m=>?_;obtain⟨j,i,q,rfl⟩:=n8 h.lb (nq.mp m);rw[eV.mp n];exact pQ (l j i q)
theorem dX.pushB(h:dX κ a b c f d)(o:0<d)(p:d-1<b.size)(l:∀j (i:j<a.size),j<f->bp κ a[j] b[d-1]):dX κ a b (c.push b[d-1]) f (d-1):=by refine⟨?_,h.la,∅⟩;rw[rk];refine MS.stepB (by rw[yd,<-yH o h.lb];exact h.ms) λu n v m=>?_;obtain⟨j,i,q,rfl⟩:=n8 h.la (nq.mp m);rw[eV.mp n];exact pQ (l j i q)
theorem dX.extA{p:Nat}(h:dX κ a b c f d)(l:p<=f)(o:∀i (n:i<a.size),p<=i->i<f->∀j (m:j<b.size),j<d->bp κ b[j] a[i]):dX κ a b (c++(a.extract p f).reverse) p d:=by refine⟨?_,cn l h.la,h.lb⟩;rw[fP,Array.toList_reverse];refine MS.stepA (by rw[<-CA,<-Bi _ _ _ l];exact h.ms) λu r v q=>?_;obtain⟨j,m,w,rfl⟩:=n8 h.lb (nq.mp q);obtain⟨i,n,t,s,rfl⟩:=ww h.la (nq.mp r);exact pQ (o i n t s j m w)
theorem dX.extB{p:Nat}(h:dX κ a b c f d)(l:p<=d)(o:∀i (n:i<b.size),p<=i->i<d->∀j (m:j<a.size),j<f->bp κ a[j] b[i]):dX κ a b (c++(b.extract p d).reverse) f p:=by refine⟨?_,h.la,cn l h.lb⟩;rw[fP,Array.toList_reverse];refine MS.stepB (by rw[<-CA,<-Bi _ _ _ l];exact h.ms) λu r v q=>?_;obtain⟨j,m,w,rfl⟩:=n8 h.la (nq.mp q);obtain⟨i,n,t,s,rfl⟩:=ww h.lb (nq.mp r);exact pQ (o i n t s j m w)
theorem vF{T:List Keyed}{r q:Array Keyed}(h:eP (wR κ) T q)(e:r.toList=q.toList.reverse):eP κ T r:=by refine⟨by rw[e];exact(CB _).trans h.1,?_⟩;rw[e,CC];exact h.2
theorem dX.doneA(h:dX κ a b c f d)(e:f=0):eP κ (a.toList++b.toList) (a.extract 0 f++b.extract 0 d++c.reverse):=by have:=h.ms;rw[e,x0,List.reverse_nil]at this;refine vF (q:=(c.toList++(b.toList.take d).reverse).toArray) (this.swap.endA (by simp)) ?_;rw[fP,fP,mB,mB,e];simp
theorem dX.doneB(h:dX κ a b c f d)(e:d=0):eP κ (a.toList++b.toList) (a.extract 0 f++b.extract 0 d++c.reverse):=by have:=h.ms;rw[e,x0,List.reverse_nil]at this;refine vF (q:=(c.toList++(a.toList.take f).reverse).toArray) (this.endA (by simp)) ?_;rw[fP,fP,mB,mB,e];simp
theorem dX.first(h:dX κ a b c f d)(e:d=1)(p:∀j (n:j<a.size),bp κ (b[0]'(by have:=h.lb;lia)) a[j]):eP κ (a.toList++b.toList) (b.extract 0 d++a.extract 0 f++c.reverse):=by
 refine vF (q:=(c.toList++((a.toList.take f).reverse++(b.toList.take d).reverse)).toArray) (h.ms.swap.last (λu m v l=>?_) (by simp)) ?_
 .obtain⟨i,o,s,rfl⟩:=n8 h.la (nq.mp m);obtain⟨j,n,r,rfl⟩:=n8 h.lb (nq.mp l);have:j=0:=∅
  subst this;exact pQ (p i o)
 .rw[fP,fP,mB,mB];simp
end
section
variable{f:aK}{w:aD}{A:aM}{E:ah->ao->Prop}{s:ao}{d:KeyKind}{l:gk}
theorem Fi(hO:gB d l f w A s){S:bi}(hk:SB l S){a b:Array Keyed}{Q:Array Keyed->bi->Prop}(ha:0<a.size)(hb:0<b.size)(hA:∀i (hi:i<a.size),eZ d a[i]) (hB:∀i (hi:i<b.size),eZ d b[i]) (sa:qw d a) (sb:qw d b)(h0:bp d b[0] a[0]) (hl:∀j (v:j<b.size),bp d b[j] a[a.size-1])(h:∀r J,eO S J->eP d (a.toList++b.toList) r->Q r J):wpS (ar f w) A E s (A8 a b) Q S:=by
 have iz:∀{i j:Nat} (P:i<=j) (v:j<b.size),bp d (b[i]'∅) b[j]:=λ{i j} P v=>sb i j v P;have nz:∀{i j:Nat} (P:i<=j) (v:j<a.size),bp d (a[i]'∅) a[j]:=λ{i j} P v=>sa i j v P;have hf:∀j (v:j<a.size),bp d b[0] a[j]:=λj v=>h0.trans (nz ∅ v);have I0:dX d a b #[a[a.size-1]] (a.size-1) b.size:=by
  have B:dX d a b #[] a.size b.size:=by
   refine⟨⟨?_,by simp,?_,?_,by simp,by simp⟩,∅,∅⟩
   .simp only[<-kF,CD,fQ];exact List.Perm.append (CB _) (CB _)
   .simp only[<-kF,CD,CC];exact sa.pw
   .simp only[<-kF,CD,CC];exact sb.pw
  exact B.pushA ha ∅ λj v _=>hl j v
 unfold A8;refine aA (pA (kN ⟨rfl,?_⟩));refine aA (dz ∅ ?_);refine bS (λe1=>aF (h _ _ .rfl (I0.doneA (by simpa using e1)))) λe1=>?_;have pH:a.size-1≠0:=by simpa using e1
 refine bS (λe2=>?_) λe2=>?_
 .have jq:b.size=1:=by simpa using e2
  exact aF (h _ _ .rfl (I0.first jq hf))
 have jq:b.size≠1:=by simpa using e2
 refine aA (jk ?_);refine aA (eW (eX (I:=λx c J=>eO S J/\∃t u q O,c=(ae,u,q,t,O)/\dX d a b t u q/\0<u/\u<=a.size/\1<q/\q<=b.size/\x+1+u+q<=a.size+b.size) (Q:=λc J=>eO S J/\∃r,c.1=aa r/\eP d (a.toList++b.toList) r) ?_ ?_ ?_) ?_);rotate_left
 .rintro c J ⟨_,t,u,q,O,rfl,z,B,M,K,N,T⟩;lia
 .exact⟨.rfl,_,_,_,_,rfl,I0,∅,∅,∅,∅,∅⟩
 .rintro⟨c1,c⟩ J ⟨H,r,rfl,hD⟩;exact aF (h r J H hD)
 rintro x c J _ hx ⟨H,t,u,q,O,rfl,z,B,M,K,N,T⟩;refine aA (eW (eX (I:=λy c F=>F=J/\∃t u q G D,c=(ae,u,q,t,G,D)/\dX d a b t u q/\0<u/\u<=a.size/\1<q/\q<=b.size/\x+1+y+u+q<=a.size+b.size) (Q:=λc F=>F=J/\((∃r c',c=(aa r,c')/\eP d (a.toList++b.toList) r)\/∃t u q G D,c=(ae,u,q,t,G,D)/\dX d a b t u q/\0<u/\u<=a.size/\1<q/\q<=b.size/\x+1+1+u+q<=a.size+b.size)) ?_ ?_ ?_) ?_)
 .rintro y c F _ hy ⟨rfl,t,u,q,G,D,rfl,z,B,M,K,N,T⟩;dsimp only;refine aA (dz ∅ (aA (dz ∅ (aA (qW hO (H.sb hk) (hB (q-1) ∅) (hA (u-1) ∅) ?_)))));cases e:d.blt (kO d (b[q-1]'∅)) (kO d (a[u-1]'∅))with
  |true=>
   dsimp only;rw[if_pos rfl];refine aA (dz ∅ ?_);have W:=z.pushA B ∅ λj v dR=>bp.trans (iz (show j<=q-1 by lia) ∅) (jl e);refine bS (λL=>?_) λL=>?_
   .exact aF ⟨rfl,.inl ⟨_,_,rfl,W.doneA (by simpa using L)⟩⟩
   have l6:u-1≠0:=by simpa using L
   refine bS (λe4=>?_) λe4=>?_
   .exact aF ⟨rfl,.inr ⟨_,_,_,_,_,rfl,W,∅,∅,∅,∅,∅⟩⟩
   .exact aF ⟨rfl,_,_,_,_,_,rfl,W,∅,∅,∅,∅,∅⟩
  |false=>
   dsimp only;rw[if_neg (by simp)];refine aA (dz ∅ ?_);have W:=z.pushB ∅ ∅ λj v dR=>bp.trans (nz (show j<=u-1 by lia) ∅) (show bp d (a[u-1]'∅) (b[q-1]'∅)from e);refine bS (λL=>?_) λL=>?_
   .exact aF ⟨rfl,.inl ⟨_,_,rfl,W.first (by simpa using L) hf⟩⟩
   have l6:q-1≠1:=by simpa using L
   refine bS (λe4=>?_) λe4=>?_
   .exact aF ⟨rfl,.inr ⟨_,_,_,_,_,rfl,W,∅,∅,∅,∅,∅⟩⟩
   .exact aF ⟨rfl,_,_,_,_,_,rfl,W,∅,∅,∅,∅,∅⟩
 .rintro c F ⟨rfl,t,u,q,G,D,rfl,z,B,M,K,N,T⟩;lia
 .exact⟨rfl,_,_,_,_,_,rfl,z,B,M,K,N,∅⟩
 rintro c F ⟨rfl,⟨r,c',rfl,hD⟩|⟨t,u,q,G,D,rfl,z,B,M,K,N,T⟩⟩
 .exact aF ⟨H,r,rfl,hD⟩
 refine aA (pA (kN ⟨rfl,?_⟩));refine aA (eW (eX (I:=λy c F=>eO S F/\∃t u q O G D,c=(ae,u,q,t,O,G,D)/\dX d a b t u q/\0<u/\u<=a.size/\1<q/\q<=b.size/\x+2+y+u+q<=a.size+b.size) (Q:=λc F=>eO S F/\((∃r c',c=(aa r,c')/\eP d (a.toList++b.toList) r)\/∃t u q O G D,c=(ae,u,q,t,O,G,D)/\dX d a b t u q/\0<u/\u<=a.size/\1<q/\q<=b.size/\x+1+1+u+q<=a.size+b.size)) ?_ ?_ ?_) ?_);rotate_left
 .rintro c F ⟨_,t,u,q,O,G,D,rfl,z,B,M,K,N,T⟩;lia
 .exact⟨H,_,_,_,_,_,_,rfl,z,B,M,K,N,∅⟩
 .rintro c F ⟨H,⟨r,c',rfl,hD⟩|⟨t,u,q,O,G,D,rfl,z,B,M,K,N,T⟩⟩
  .exact aF ⟨H,r,rfl,hD⟩
  .dsimp only;exact aA (v4 H λY C=>aF ⟨C,_,_,_,_,rfl,z,B,M,K,N,∅⟩)
 clear B M K N T z H I0 e1 e2;rintro y c F _ hy ⟨H,t,u,q,O,G,D,rfl,z,B,M,K,N,T⟩;clear hx hy;refine(?_:wpS (ar f w) A E s _ ?Q _);extract_lets -merge x1 x2 x3 x4 x5 x6 x7 x8 x9 xa xb xc jp;have v:∀g Y,eO S Y->wpS (ar f w) A E s (jp () g) ?Q Y:=by
  intro g Y C;dsimp -zeta only[jp,x1,x2,x3,x4,x5,x6,x7,x8,x9,xa,xb,xc];refine aA (v4 C λY C=>?_);refine aA (dz ∅ ?_);refine aA (wU hO (C.sb hk) (base:=0) (n:=u) (hint:=u-1) (hB (q-1) ∅) ∅ hA (λi j P v _=>nz P ∅) ∅ λp fA bO eh=>?_);dsimp -zeta only;extract_lets -merge y1 y2 jp2;have sj:∀n o,dX d a b o n q->0<n->n<=p->wpS (ar f w) A E s (jp2 () n o) ?Q Y:=by
   intro n o sk l6 e4;dsimp -zeta only[jp2,y1,y2];refine aA (dz ∅ ?_);have X:=sk.pushB ∅ ∅ λj v g=>bO j v ∅ ∅;refine bS (λe5=>?_) λe5=>?_
   .exact aF ⟨C,.inl ⟨_,_,rfl,X.first (by simpa using e5) hf⟩⟩
   have e5':q-1≠1:=by simpa using e5
   refine aA (dz ∅ ?_);refine aA (wq hO (C.sb hk) (base:=0) (n:=q-1) (hint:=q-1-1) (hA _ _) ∅ hB (λi j P v _=>iz P ∅) ∅ λp' m1 m2 m3=>?_);dsimp -zeta only;extract_lets -merge z1 z2 z3 jp3;have sm:∀m o,dX d a b o n m->1<m->m<=p'->wpS (ar f w) A E s (jp3 () m o) ?Q Y:=by
    intro m o Z e6 e7;dsimp -zeta only[jp3,z1,z2,z3];refine aA (dz ∅ ?_);have sr:=Z.pushA ∅ ∅ (λj v g=>jl (m2 j v ∅ ∅));refine bS (λe7=>?_) λe7=>?_
    .exact aF ⟨C,.inl ⟨_,_,rfl,sr.doneA (by simpa using e7)⟩⟩
    have e7':n-1≠0:=by simpa using e7
    refine bS (λe8=>?_) λe8=>?_
    .exact aF ⟨C,.inr ⟨_,_,_,_,_,_,rfl,sr,∅,∅,∅,∅,∅⟩⟩
    .exact aF ⟨C,_,_,_,_,_,_,rfl,sr,∅,∅,∅,∅,∅⟩
   clear_value jp3;refine bS (λyv=>?_) (λyv=>?_)
   .have Z:=X.extB (p:=p') ∅ (λi hi g1 g2 j v g3=>bp.trans (nz (show j<=n-1 by lia) ∅) (m3 i hi ∅ ∅));refine bS (λe6=>?_) λe6=>?_
    .exact aF ⟨C,.inl ⟨_,_,rfl,Z.first (by simpa using e6) hf⟩⟩
    refine bS (λe9=>?_) λe9=>?_
    .exact aF ⟨C,.inl ⟨_,_,rfl,Z.doneB (by simpa using e9)⟩⟩
    have e6':p'≠1:=by simpa using e6
    have e9':p'≠0:=by simpa using e9
    exact sm _ _ Z ∅ ∅
   .exact sm _ _ X ∅ ∅
  clear_value jp2;refine bS (λhk0=>?_) (λhk0=>?_)
  .have sk:dX d a b (t++(a.extract p u).reverse) p q:=z.extA ∅ λi hi g1 g2 j v g3=>bp.trans (iz (show j<=q-1 by lia) ∅) (jl (eh i hi ∅ ∅));refine bS (λL=>?_) λL=>?_
   .exact aF ⟨C,.inl ⟨_,_,rfl,sk.doneA (by simpa using L)⟩⟩
   have l6:p≠0:=by simpa using L
   exact sj _ _ sk ∅ ∅
  .exact sj _ _ z ∅ ∅
 exact bS (λ_=>v _ _ H) λ_=>v _ _ H
end
def putL(a:Array Keyed)(c:Nat)(l:List Keyed):Array Keyed:=l.zipIdx.foldl (λa (b:Keyed×Nat)=>a.setIfInBounds (c+b.2) b.1) a
theorem vO:∀(l:List Keyed) (n b:Nat) (a:Array Keyed),b+n+l.length<=a.size -> ((l.zipIdx n).foldl (λa (c:Keyed×Nat)=>a.setIfInBounds (b+c.2) c.1) a).size=a.size /\ ∀k,((l.zipIdx n).foldl (λa (c:Keyed×Nat)=>a.setIfInBounds (b+c.2) c.1) a)[k]?=if b+n<=k/\k<b+n+l.length then l[k-(b+n)]? else a[k]?
 |[],n,b,a,_=>⟨rfl,λk=>by rw[if_neg (by simp)];rfl⟩
 |x::l,n,b,a,h=>by
  have g:b+(n+1)+l.length<=(a.setIfInBounds (b+n) x).size:=by simp at h ⊢;lia
  obtain⟨j,i⟩:=vO l (n+1) b (a.setIfInBounds (b+n) x) g;rw[List.zipIdx_cons,m_];refine⟨by rw[j];simp,λk=>?_⟩;rw[i];by_cases f:b+n=k
  .subst f;rw[if_neg ∅,if_pos (by simp)];rw[Array.getElem?_setIfInBounds_self_of_lt (by simp at h;lia)];simp
  .by_cases d:b+(n+1)<=k/\k<b+(n+1)+l.length
   .rw[if_pos d,if_pos (by simp;lia)];rw[show k-(b+n)=k-(b+(n+1))+1 by lia,List.getElem?_cons_succ]
   .rw[if_neg d,if_neg (by simp;lia),Array.getElem?_setIfInBounds_ne f]
theorem ED{a:Array Keyed}{b:Nat}{l:List Keyed}(h:b+l.length<=a.size):(putL a b l).size=a.size:=(vO l 0 b a ∅).1
theorem wB{a:Array Keyed}{b:Nat}{l:List Keyed}(h:b+l.length<=a.size)(k:Nat):(putL a b l)[k]?=if b<=k/\k<b+l.length then l[k-b]? else a[k]? :=(vO l 0 b a ∅).2 k
theorem Io{a:Array Keyed}{b n:Nat}{l:List Keyed}(h:b+n<=a.size)(d:l.Perm ((a.toList.drop b).take n)):(putL a b l).toList.Perm a.toList:=by
 have f:l.length=n:=by rw[d.length_eq,kJ,lK];simp;lia
 have e:(putL a b l).toList=a.toList.take b++(l++a.toList.drop (b+n)):=by
  apply xY;intro k;rw[yf,wB ∅,List.getElem?_append,List.getElem?_append,kJ,List.getElem?_take,List.getElem?_drop,f];simp only[kF,yf];rw[show min b a.size=b by lia];by_cases c:k<b
  .rw[if_neg ∅,if_pos c,if_pos c]
  .rw[if_neg c];by_cases i:k<b+n
   .rw[if_pos ∅,if_pos ∅]
   .rw[if_neg ∅,if_neg ∅];congr 1;lia
 rw[e];have g:a.toList=a.toList.take b++((a.toList.drop b).take n++a.toList.drop (b+n)):=by rw[<-List.drop_drop,o_,o_]
 conv=>rhs;rw[g]
 exact Cn _ (List.Perm.append_right _ d)
section
variable{κ:KeyKind}{kz:gk}
def Run(κ:KeyKind)(a:Array Keyed)(b n:Nat):Prop:=∀i j x y,b<=i->i<=j->j<b+n->a[i]?=aa x->a[j]?=aa y->bp κ x y
theorem bp.refl(x:Keyed):bp κ x x:=jV _
structure Wr(a a':Array Keyed)(lo n:Nat):Prop where
 perm:a'.toList.Perm a.toList
 size:a'.size=a.size
 out:∀k,k<lo\/lo+n<=k->a'[k]?=a[k]?
theorem Run.keep{a m:Array Keyed}{c n b f:Nat}(h:Run κ a c n)(w:Wr a m b f)(d:c+n<=b\/b+f<=c):Run κ m c n:=by intro i j x y q p o l g;rw[w.out i ∅]at l;rw[w.out j ∅]at g;exact h i j x y q p o l g
end
section
variable{b:aK}{w:aD}{A:aM}{E:ah->ao->Prop}{s:ao}{κ:KeyKind}{c:gk}
theorem Jl{a:Type}{M:Model}{Q:PUnit->a->Prop}{f d:a}(h:Q ⟨⟩ d):wpS M A E s (set d:StateT a Sem PUnit) Q f:=by unfold wpS;rw[StateT.run_set];exact aC ⟨rfl,h⟩
theorem KP(a:Array Keyed){p q t:Nat}(f:p<=q)(d:q<=t):(a.extract p q).toList++(a.extract q t).toList=(a.extract p t).toList:=by rw[i_,i_,i_,show t-p=(q-p)+(t-q) by lia,List.take_add,List.drop_drop,show p+(q-p)=q by lia]
theorem J1{a:Array Keyed}{d f p k g:Nat}(hsz:d+f+p<=a.size)(hk:k<f)(h0:0<g)(hnb:g<=p)(Z:Run κ a d f)(Y:Run κ a (d+f) p)(a1:∀i (o:i<a.size),d<=i->i<d+k->bp κ a[i] (a[d+f]'∅)) (b2:∀i (o:i<a.size),d+f+g<=i->i<d+f+p->bp κ (a[d+f-1]'∅) a[i]){r:Array Keyed} (v:eP κ ((a.extract (d+k) (d+f)).toList++(a.extract (d+f) (d+f+g)).toList) r):Wr a (putL a (d+k) r.toList) d (f+p)/\Run κ (putL a (d+k) r.toList) d (f+p):=by
 rw[KP _ ∅ ∅]at v;have aW:r.toList.length=f-k+g:=by rw[v.1.length_eq,i_,kJ,lK,kF];lia
 have F:d+k+r.toList.length<=a.size:=∅
 have C:∀m∈r.toList,∃t,∃D:t<a.size,d+k<=t/\t<d+f+g/\a[t]=m:=λm C=>ww ∅ (v.1.mem_iff.mp C);have H:∀{i j:Nat} (B:i<=j) (l:j<d+f),d<=i->bp κ (a[i]'∅) (a[j]'∅):=λ{i j} B l o=>Z i j _ _ o B l (getElem?_pos _ _ _) (getElem?_pos _ _ _);have G:∀{i j:Nat} (B:i<=j) (l:j<d+f+p),d+f<=i->bp κ (a[i]'∅) (a[j]'∅):=λ{i j} B l o=>Y i j _ _ o B l (getElem?_pos _ _ _) (getElem?_pos _ _ _);have K:∀i (o:i<a.size) j (l:j<a.size),d<=i->i<d+k->d+f<=j->j<d+f+p->bp κ a[i] a[j]:=λi o j l c1 J O c4=>(a1 i o c1 J).trans (G O c4 (aY _));refine⟨⟨?_,ED F,λq hq=>?_⟩,?_⟩
 .refine Io (n:=f-k+g) ∅ ?_;have:=v.1;rwa[i_,show d+f+g-(d+k)=f-k+g by lia]at this
 .rw[wB F,if_neg ∅]
 .intro i j x y h1 L h3 u h;rw[wB F]at u h;by_cases N:d+k<=i/\i<d+k+r.toList.length
  .rw[if_pos N]at u;obtain⟨t,D,X,W,rfl⟩:=C x (uO u);by_cases z:d+k<=j/\j<d+k+r.toList.length
   .rw[if_pos z]at h;by_cases I:i=j
    .subst I;rw[u]at h;cases h;exact bp.refl _
    .obtain⟨T,S⟩:=cE.mp u;obtain⟨Q,P⟩:=cE.mp h;have:=List.pairwise_iff_getElem.mp v.2 (i-(d+k)) (j-(d+k)) T Q ∅;rw[S,P]at this;exact this
   .rw[if_neg z]at h;obtain⟨l,rfl⟩:=pc.mp h;by_cases M:t<d+f
    .exact(H (show t<=d+f-1 by lia) ∅ ∅).trans (b2 j l ∅ ∅)
    .exact G ∅ ∅ ∅
  .rw[if_neg N]at u;obtain⟨o,rfl⟩:=pc.mp u;by_cases z:d+k<=j/\j<d+k+r.toList.length
   .rw[if_pos z]at h;obtain⟨t,D,X,W,rfl⟩:=C y (uO h);by_cases M:t<d+f
    .exact H ∅ M ∅
    .exact K i o t D ∅ ∅ ∅ ∅
   .rw[if_neg z]at h;obtain⟨l,rfl⟩:=pc.mp h;by_cases J:i<d+k
    .by_cases O:j<d+k
     .exact H L ∅ h1
     .exact K i o j l ∅ J ∅ ∅
    .exact G L ∅ ∅
theorem yQ{a:Array Keyed}{f d g:Nat}(q:f+d+g<=a.size)(t:0<d)(r:0<g)(n:Run κ a f d)(m:Run κ a (f+d) g)(u:bp κ (a[f+d-1]'∅) (a[f+d]'∅)):Run κ a f (d+g):=by
 intro i j x y p o z l h;by_cases v:j<f+d
 .exact n i j x y p o v l h
 .by_cases B:i<f+d
  .exact((n i (f+d-1) x _ p ∅ ∅ l (getElem?_pos _ _ _)).trans u).trans (m (f+d) j _ y ∅ ∅ ∅ (getElem?_pos _ _ _) h)
  .exact m i j x y ∅ o ∅ l h
theorem Wr.same{a:Array Keyed}{lo n:Nat}:Wr a a lo n:=⟨pf _,rfl,λ_ _=>rfl⟩
theorem Ij(J:gB κ c b w A s){o:bi}(hk:SB c o)(v:∀i (m:i<(arrOf o).size),eZ κ (arrOf o)[i]){i d a pw g D:Nat}(M:(a7 o)[i]?=aa (d,a,pw)) (L:(a7 o)[i+1]?=aa (d+a,g,D)) (x:0<a) (F:0<g) (p:d+a+g<=(arrOf o).size)(z:Run κ (arrOf o) d a) (y:Run κ (arrOf o) (d+a) g) {Q:Bool->bi->Prop}(h:∀t,SB c t->a7 t=((a7 o).setIfInBounds i (d,a+g,pw)).eraseIdxIfInBounds (i+1)->Wr (arrOf o) (arrOf t) d (a+g)->Run κ (arrOf t) d (a+g)->Q ai t):wpS (ar b w) A E s (mergeAt' i) Q o:=by
 obtain⟨kd,f,I,mg,fl⟩:=o;have P:c=kd:=hk.kind.symm;have ny:fl=ae:=hk.failed;subst ny;subst P;replace v:∀i (m:i<f.size),eZ κ f[i]:=v;replace p:d+a+g<=f.size:=p;replace z:Run κ f d a:=z;replace y:Run κ f (d+a) g:=y;replace M:I[i]?=aa (d,a,pw):=M;replace L:I[i+1]?=aa (d+a,g,D):=L;replace h:∀t,SB c t->a7 t=(I.setIfInBounds i (d,a+g,pw)).eraseIdxIfInBounds (i+1)->Wr f (arrOf t) d (a+g)->Run κ (arrOf t) d (a+g)->Q ai t:=h;have g1:∀{i j:Nat} (q:i<=j) (l:j<d+a),d<=i->bp κ (f[i]'∅) (f[j]'∅):=λ{i j} q l m=>z i j _ _ m q l (getElem?_pos _ _ _) (getElem?_pos _ _ _);have g2:∀{i j:Nat} (q:i<=j) (l:j<d+a+g),d+a<=i->bp κ (f[i]'∅) (f[j]'∅):=λ{i j} q l m=>y i j _ _ m q l (getElem?_pos _ _ _) (getElem?_pos _ _ _);unfold mergeAt';refine aA (jk ?_);dsimp only;rw[M,L];dsimp only;refine aA (Jl ?_);generalize (I.setIfInBounds i (d,a+g,pw)).eraseIdxIfInBounds (i+1)=pend at *;refine aA (dz ∅ ?_);refine aA (wU J ⟨rfl,rfl⟩ (base:=d) (n:=a) (hint:=0) (v _ _) ∅ v (λi j q l m=>g1 q l m) x λk m1 Z m3=>?_);dsimp only;refine bS (λW=>?_) λW=>?_
 .have X:a<=k:=by have:a-k=0:=(by simpa using W);lia
  refine aF (h _ ⟨rfl,rfl⟩ rfl Wr.same (yQ p x F z y (Z _ _ ∅ ∅)))
 have X:k<a:=by have:a-k≠0:=(by simpa using W);lia
 refine aA (dz ∅ ?_);refine aA (wq J ⟨rfl,rfl⟩ (base:=d+a) (n:=g) (hint:=g-1) (v _ _) ∅ v (λi j q l m=>g2 q l m) ∅ λu n1 Y N=>?_);dsimp only;have G:d+k+(a-k)-1=d+a-1:=∅
 simp only[G]at Y N;refine bS (λT=>?_) λT=>?_
 .have jq:u=0:=by simpa using T
  refine aF (h _ ⟨rfl,rfl⟩ rfl Wr.same (yQ p x F z y (N _ _ ∅ ∅)))
 have jq:u≠0:=by simpa using T
 have xs:(f.extract (d+k) (d+a)).size=a-k:=by simp;lia
 have ys:(f.extract (d+a) (d+a+u)).size=u:=by simp;lia
 refine bS (λ_=>?_) λ_=>?_
 all_goals
  first
   |refine aA (Im J ⟨rfl,rfl⟩ ∅ ∅ ?_ ?_ ?_ ?_ ?_ ?_ ?_)
   |refine aA (Fi J ⟨rfl,rfl⟩ ∅ ∅ ?_ ?_ ?_ ?_ ?_ ?_ ?_)
  .intro j l;rw[kU];exact v _ _
  .intro j l;rw[kU];exact v _ _
  .intro i j l q;rw[kU,kU];exact g1 ∅ ∅ ∅
  .intro i j l q;rw[kU,kU];exact g2 ∅ ∅ ∅
  .rw[kU,kU];exact jl (m3 _ _ ∅ ∅)
  .intro j l;rw[kU,kU];have:=Y (d+a+j) ∅ ∅ ∅;have e:d+k+((f.extract (d+k) (d+a)).size-1)=d+a-1:=∅
   simp only[e];exact jl this
  .rintro r ⟨O,H,K,mg',S⟩ ⟨C,B,c3,c4⟩ hD;change O=c at C;change H=f at B;change K=pend at c3;change S=ae at c4;subst C B c3 c4;refine aA (kT ?_);refine aA (jk ?_);obtain⟨w1,w2⟩:=J1 p X ∅ n1 z y (λi m C B=>Z i m C B) (λi m C B=>N i m C B) hD;exact aF (h _ ⟨rfl,rfl⟩ rfl w1 w2)
end
section
variable{κ:KeyKind}{kz:gk}
theorem vX{a:Array Keyed}{i:Nat}{x:Keyed}(h:a[i]?=aa x):KK κ a i=kO κ x:=by unfold KK kO;rw[h]
theorem t_{a:Array Keyed}{i:Nat}(h:i<a.size):KK κ a i=kO κ a[i]:=vX (getElem?_pos _ _ _)
def fD(κ:KeyKind)(a:Array Keyed)(lo n:Nat):Prop:=∀i j,lo<=i->i<=j->j<lo+n->κ.kle (KK κ a i) (KK κ a j)
def lf(κ:KeyKind)(a:Array Keyed)(lo n:Nat):Prop:=∀i j,lo<=i->i<=j->j<lo+n->κ.kle (KK κ a j) (KK κ a i)
theorem fD.run{a:Array Keyed}{b n:Nat}(h:fD κ a b n):Run κ a b n:=by intro i j x y l g f d c;have:=h i j l g f;rw[vX d,vX c]at this;exact this
theorem Wr.trans{a b c:Array Keyed}{d n:Nat}(g:Wr a b d n)(f:Wr b c d n):Wr a c d n :=⟨f.perm.trans g.perm,f.size.trans g.size,λk h=>(f.out k h).trans (g.out k h)⟩
theorem Wr.mono{a b:Array Keyed}{d n c f:Nat}(h:Wr a b d n)(j:c<=d)(i:d+n<=c+f):Wr a b c f :=⟨h.perm,h.size,λk g=>h.out k ∅⟩
theorem C_{a:Array Keyed}{i j:Nat}(b:j<=a.size)(d:i<=j):Wr a (mirror a i j ((j-i) / 2)) i (j-i) :=⟨CF.mp (mirror_perm _ _ _ _),mirror_size _ _ _ _,λk c=>by rw[getElem?_mirror_all b,if_neg ∅]⟩
theorem GI{a:Array Keyed}{b d:Nat}(c:b<a.size)(f:d<=b):Wr a (bubble a b d) (b-d) (d+1) :=⟨CF.mp (bubble_perm _ _ _),bubble_size _ _ _,λk g=>by rw[getElem?_bubble c d f,if_neg ∅,if_neg ∅]⟩
def AllK(κ:KeyKind)(a:Array Keyed):Prop:=∀i (b:i<a.size),eZ κ a[i]
theorem AllK.of{a b:Array Keyed}(h:AllK κ a)(p:b.toList.Perm a.toList):AllK κ b:=by intro i f;have c:b[i]∈a.toList:=p.mem_iff.mp (by simp);obtain⟨j,d,e⟩:=vg c;rw[<-e];simpa using h j (by simpa using d)
end
section
variable{d:aK}{w:aD}{A:aM}{E:ah->ao->Prop}{s:ao}{κ:KeyKind}{f:gk}
theorem mj(m:gB κ f d w A s){a:bi}(l:SB f a)(g:AllK κ (arrOf a)){i j:Nat}{Q:Option Bool->bi->Prop}(c:i<(arrOf a).size)(b:j<(arrOf a).size)(h:Q (aa (κ.blt (KK κ (arrOf a) i) (KK κ (arrOf a) j))) a):wpS (ar d w) A E s (ltAt' i j) Q a:=by rw[t_ c,t_ b]at h;rw[ltAt'_eq];refine aA (jk ?_);exact aA (dz c (aA (dz b (qW m l (g i c) (g j b) h))))
theorem qx{b a:bi}{lo n i j:Nat}{Q:Unit->bi->Prop}(l:SB f a)(o:a7 a=a7 b)(g:Wr (arrOf b) (arrOf a) lo n)(r:i<=j)(p:j<=(arrOf b).size)(q:lo<=i)(t:j<=lo+n)(h:∀c,SB f c->a7 c=a7 b->Wr (arrOf b) (arrOf c) lo n->(∀k,KK κ (arrOf c) k=if i<=k/\k<j then KK κ (arrOf a) (i+j-1-k)else KK κ (arrOf a) k)->Q () c):wpS (ar d w) A E s (reverseSlice' i j) Q a:=by
 have m:j<=(arrOf a).size:=by rw[g.size];exact p
 exact wpS_reverse (h _ ⟨l.kind,l.failed⟩ o (g.trans ((C_ m r).mono q ∅)) λk=>KK_mirror m k)
theorem KD{i:Type}{c:Prop}[Decidable c]{j h:StateT bi Sem i}{Q:i->bi->Prop}{g:bi}{J:bi->Prop}(l:¬c->J g)(a:∀b,J b->wpS (ar d w) A E s h Q b)(m:c->(∀b,J b->wpS (ar d w) A E s h Q b)->wpS (ar d w) A E s j Q g):wpS (ar d w) A E s (if c then j else h) Q g :=bS (λe=>m e a) λe=>a g (l e)
theorem wt{a:Array Keyed}{lo x:Nat}(b:fD κ a lo x)(h:1<=x)(e:κ.kle (KK κ a (lo+x-1)) (KK κ a (lo+x))):fD κ a lo (x+1):=λi j c n o=>by
 by_cases g:j<lo+x
 .exact b i j c n g
 .have m:j=lo+x:=∅
  subst m;by_cases l:i=lo+x
  .subst l;exact jV _
  .exact rA (b i (lo+x-1) c ∅ ∅) e
theorem yK{a:Array Keyed}{lo x:Nat}(b:lf κ a lo x)(h:1<=x)(e:κ.kle (KK κ a (lo+x)) (KK κ a (lo+x-1))):lf κ a lo (x+1):=λi j c n o=>by
 by_cases g:j<lo+x
 .exact b i j c n g
 .have m:j=lo+x:=∅
  subst m;by_cases l:i=lo+x
  .subst l;exact jV _
  .exact rA e (b i (lo+x-1) c ∅ ∅)
theorem FZ{a:Array Keyed}{lo x b:Nat}(g:∀i,lo+x-(b+1)<=i->i<lo+x->KK κ a i=KK κ a (lo+x-1))(h:KK κ a (lo+x)=KK κ a (lo+x-1)):∀i,lo+(x+1)-(b+1+1)<=i->i<lo+(x+1)->KK κ a i=KK κ a (lo+(x+1)-1):=λi l j=>by
 rw[show lo+(x+1)-1=lo+x by lia];by_cases c:i=lo+x
 .rw[c]
 .rw[g i ∅ ∅,h]
theorem zd{a b:Array Keyed}{i j n:Nat}(g:∀k,KK κ b k=if i<=k/\k<j then KK κ a (i+j-1-k)else KK κ a k)(c:∀k,i<=k->k<j->KK κ a k=KK κ a n):∀k,KK κ b k=KK κ a k:=λk=>by
 rw[g];split
 .rw[c _ ∅ ∅,c k ∅ ∅]
 .rfl
theorem D6(P:gB κ f d w A s){u:bi}(O:SB f u)(S:AllK κ (arrOf u)){lo a:Nat}(h1:1<=a)(hsz:lo+a<=(arrOf u).size){Q:Option Nat->bi->Prop}(h:∀n p,SB f p->a7 p=a7 u->Wr (arrOf u) (arrOf p) lo a->1<=n->n<=a->fD κ (arrOf p) lo n->Q (aa n) p):wpS (ar d w) A E s (countRun' lo a) Q u:=by
 have one:fD κ (arrOf u) lo 1:=λi j r v C=>by
  have:i=j:=∅
  subst this;exact jV _
 have go:∀{t:bi},Wr (arrOf u) (arrOf t) lo a->(arrOf t).size=(arrOf u).size:=λw=>w.size;unfold countRun';refine aA (eW (eX (I:=λx c g=>g=u/\c=(ae,x)/\fD κ (arrOf u) lo x) (Q:=λc g=>g=u/\∃n,c=(ae,n)/\1<=n/\n<=a/\fD κ (arrOf u) lo n/\(n=a\/κ.klt (KK κ (arrOf u) (lo+n)) (KK κ (arrOf u) (lo+n-1)))) ?_ ?_ ?_) ?_)
 .rintro x c g su sv ⟨rfl,rfl,o⟩;dsimp only;refine aA (mj P O S ∅ ∅ ?_);cases e:κ.blt (KK κ (arrOf g) (lo+x)) (KK κ (arrOf g) (lo+x-1))with
  |true=>exact aF ⟨rfl,x,rfl,∅,∅,o,.inr e⟩
  |false=>exact aF ⟨rfl,rfl,wt o ∅ e⟩
 .rintro c g ⟨rfl,rfl,o⟩;rw[show max 1 a=a by lia]at o ⊢;exact⟨rfl,a,rfl,∅,∅,o,.inl rfl⟩
 .exact⟨rfl,rfl,one⟩
 rintro c p ⟨rfl,n,rfl,n1,n2,o,hn⟩;dsimp only;refine bS (λe1=>aF (h n p O rfl Wr.same n1 n2 o)) λe1=>?_;have pH:n≠a:=by simpa using e1
 replace hn:κ.klt (KK κ (arrOf p) (lo+n)) (KK κ (arrOf p) (lo+n-1)):=hn.resolve_left pH;refine KD (J:=λB=>SB f B/\a7 B=a7 p/\Wr (arrOf p) (arrOf B) lo a/\lf κ (arrOf B) lo (n+1)) (λen=>⟨O,rfl,Wr.same,λi j r v C=>?_⟩) (λB ⟨bO,fz,pI,hD⟩=>?_) λen key=>?_
 .have en':n=1:=∅
  by_cases hi:i=j
  .subst hi;exact jV _
  .have e1:i=lo+n-1:=∅
   have e2:j=lo+n:=∅
   rw[e1,e2];exact jl hn
 .refine aA (pA (kN ⟨rfl,?_⟩));refine aA (eW (eX (I:=λx c l=>∃b,c=(ae,x,b)/\SB f l/\a7 l=a7 p/\Wr (arrOf p) (arrOf l) lo a/\lf κ (arrOf l) lo x/\b+1<=x/\(∀i,lo+x-(b+1)<=i->i<lo+x->KK κ (arrOf l) i=KK κ (arrOf l) (lo+x-1))) (Q:=λc l=>∃m b,c=(ae,m,b)/\SB f l/\a7 l=a7 p/\Wr (arrOf p) (arrOf l) lo a/\1<=m/\m<=a/\lf κ (arrOf l) lo m/\b+1<=m/\(∀i,lo+m-(b+1)<=i->i<lo+m->KK κ (arrOf l) i=KK κ (arrOf l) (lo+m-1))) ?_ ?_ ?_) ?_)
  .rintro x c l su sv ⟨b,rfl,z,F,y,D,hq,G⟩;have sz3:=y.size;dsimp only;refine aA (mj P z (S.of y.perm) ∅ ∅ ?_);cases e3:κ.blt (KK κ (arrOf l) (lo+x)) (KK κ (arrOf l) (lo+x-1))with
   |true=>
    have hd':lf κ (arrOf l) lo (x+1):=yK D ∅ (jl e3);dsimp only;rw[if_pos rfl];refine bS (λyw=>?_) λyw=>?_
    .refine aA (qx (κ:=κ) (lo:=lo) (n:=a) z F y ∅ ∅ ∅ ∅ λbu Z fW T yx=>?_);have X:=zd yx G;exact aF ⟨0,rfl,Z,fW,T,λi j r v C=>by rw[X,X];exact hd' i j r v C,∅,λi r v=>by congr 1;lia⟩
    .exact aF ⟨0,rfl,z,F,y,hd',∅,λi r v=>by congr 1;lia⟩
   |false=>
    dsimp only;rw[if_neg (by simp)];refine aA (mj P z (S.of y.perm) ∅ ∅ ?_);cases e4:κ.blt (KK κ (arrOf l) (lo+x-1)) (KK κ (arrOf l) (lo+x))with
    |true=>exact aF ⟨x,b,rfl,z,F,y,∅,∅,D,hq,G⟩
    |false=>have ex:KK κ (arrOf l) (lo+x)=KK κ (arrOf l) (lo+x-1):=KeyOrd.kle_antisymm e4 e3;exact aF ⟨b+1,rfl,z,F,y,yK D ∅ (by rw[ex];exact jV _),∅,FZ G ex⟩
  .rintro c l ⟨b,rfl,z,F,y,D,hq,G⟩;rw[show max (n+1) a=a by lia]at D hq G ⊢;exact⟨a,b,rfl,z,F,y,∅,∅,D,hq,G⟩
  .exact⟨0,rfl,bO,fz,pI,hD,∅,λi r v=>by congr 1;lia⟩
  rintro c l ⟨m,b,rfl,z,F,y,m1,m2,D,hq,G⟩;dsimp only;refine bS (λyw=>?_) λyw=>?_
  .refine aA (qx (κ:=κ) (lo:=lo) (n:=a) z F y ∅ ∅ ∅ ∅ λbu Z fW T yx=>?_);have X:=zd yx G;have N:lf κ (arrOf bu) lo m:=λi j r v C=>by rw[X,X];exact D i j r v C
   refine aA (qx (κ:=κ) (lo:=lo) (n:=a) Z fW T ∅ ∅ ∅ ∅ λt Y M H W=>?_);have L:fD κ (arrOf t) lo m:=λi j r v C=>by rw[W,W,if_pos ⟨r,∅⟩,if_pos ⟨∅,C⟩];exact N _ _ ∅ ∅ ∅
   have sz5:=H.size;refine aA (eW (eX (I:=λx c g=>g=t/\c=(ae,x)/\fD κ (arrOf t) lo x) (Q:=λc g=>g=t/\∃n,c=(ae,n)/\1<=n/\n<=a/\fD κ (arrOf t) lo n/\(n=a\/κ.klt (KK κ (arrOf t) (lo+n)) (KK κ (arrOf t) (lo+n-1)))) ?_ ?_ ?_) ?_)
   .rintro x c g su sv ⟨rfl,rfl,o⟩;dsimp only;refine aA (mj P Y (S.of H.perm) ∅ ∅ ?_);cases e:κ.blt (KK κ (arrOf g) (lo+x)) (KK κ (arrOf g) (lo+x-1))with
    |true=>exact aF ⟨rfl,x,rfl,∅,∅,o,.inr e⟩
    |false=>exact aF ⟨rfl,rfl,wt o ∅ e⟩
   .rintro c g ⟨rfl,rfl,o⟩;rw[show max m a=a by lia]at o ⊢;exact⟨rfl,a,rfl,∅,∅,o,.inl rfl⟩
   .exact⟨rfl,rfl,L⟩
   rintro c g ⟨rfl,q,rfl,q1,q2,K,_⟩;exact aF (h q g Y M H q1 q2 K)
  .have Z:=z;have fW:=F;have T:=y;have N:=D;refine aA (qx (κ:=κ) (lo:=lo) (n:=a) Z fW T ∅ ∅ ∅ ∅ λt Y M H W=>?_);have L:fD κ (arrOf t) lo m:=λi j r v C=>by rw[W,W,if_pos ⟨r,∅⟩,if_pos ⟨∅,C⟩];exact N _ _ ∅ ∅ ∅
   have sz5:=H.size;refine aA (eW (eX (I:=λx c g=>g=t/\c=(ae,x)/\fD κ (arrOf t) lo x) (Q:=λc g=>g=t/\∃n,c=(ae,n)/\1<=n/\n<=a/\fD κ (arrOf t) lo n/\(n=a\/κ.klt (KK κ (arrOf t) (lo+n)) (KK κ (arrOf t) (lo+n-1)))) ?_ ?_ ?_) ?_)
   .rintro x c g su sv ⟨rfl,rfl,o⟩;dsimp only;refine aA (mj P Y (S.of H.perm) ∅ ∅ ?_);cases e:κ.blt (KK κ (arrOf g) (lo+x)) (KK κ (arrOf g) (lo+x-1))with
    |true=>exact aF ⟨rfl,x,rfl,∅,∅,o,.inr e⟩
    |false=>exact aF ⟨rfl,rfl,wt o ∅ e⟩
   .rintro c g ⟨rfl,rfl,o⟩;rw[show max m a=a by lia]at o ⊢;exact⟨rfl,a,rfl,∅,∅,o,.inl rfl⟩
   .exact⟨rfl,rfl,L⟩
   rintro c g ⟨rfl,q,rfl,q1,q2,K,_⟩;exact aF (h q g Y M H q1 q2 K)
 .refine aA (mj P O S ∅ ∅ ?_);cases e2:κ.blt (KK κ (arrOf p) lo) (KK κ (arrOf p) (lo+n-1))with
  |true=>exact aF (h n p O rfl Wr.same n1 n2 o)
  |false=>
   dsimp only;rw[if_neg (by simp)];have iy:∀i,lo<=i->i<lo+n->KK κ (arrOf p) i=KK κ (arrOf p) lo:=λi r v=>KeyOrd.kle_antisymm (rA (o i (lo+n-1) r ∅ ∅) e2) (o lo i (aY _) r v);refine aA (qx (κ:=κ) (lo:=lo) (n:=a) O rfl Wr.same ∅ ∅ ∅ ∅ λB bO fz pI k6=>?_);have hD:lf κ (arrOf B) lo (n+1):=by
    have hv:∀i,lo<=i->i<lo+n->KK κ (arrOf B) i=KK κ (arrOf p) lo:=λi r v=>by rw[k6,if_pos ⟨r,v⟩];exact iy _ ∅ ∅
    have hl:κ.klt (KK κ (arrOf B) (lo+n)) (KK κ (arrOf p) lo):=by rw[k6,if_neg ∅,<-iy (lo+n-1) ∅ ∅];exact hn
    intro i j r v C;by_cases hj:j<lo+n
    .rw[hv i r ∅,hv j ∅ hj];exact jV _
    .have gL:j=lo+n:=∅
     subst gL;by_cases hi:i=lo+n
     .subst hi;exact jV _
     .rw[hv i r ∅];exact jl hl
   exact key B ⟨bO,fz,pI,hD⟩
theorem HJ{g c:bi}{lo n a b:Nat}{Q:Unit->bi->Prop}(l:SB f c)(o:a7 c=a7 g)(j:Wr (arrOf g) (arrOf c) lo n)(t:b<=a)(p:a<(arrOf g).size)(r:lo<=b)(q:a<lo+n)(h:∀i,SB f i->a7 i=a7 g->Wr (arrOf g) (arrOf i) lo n->(∀k,KK κ (arrOf i) k=if k=b then KK κ (arrOf c) a else if b<k/\k<=a then KK κ (arrOf c) (k-1)else KK κ (arrOf c) k)->Q () i):wpS (ar d w) A E s (moveDown' a b) Q c:=by
 have m:a<(arrOf c).size:=by rw[j.size];exact p
 rw[moveDown'_eq];refine kT (h _ ⟨l.kind,l.failed⟩ o (j.trans ((GI m (show a-b<=a by lia)).mono ∅ ∅)) λk=>?_);have:=KK_bubble (κ:=κ) m (show a-b<=a by lia) k;rw[show a-(a-b)=b by lia]at this;exact this
theorem Dl(M:gB κ f d w A s){b:bi}(K:SB f b)(N:AllK κ (arrOf b)){lo n ok:Nat}(J:ok<=n)(G:lo+n<=(arrOf b).size)(H:fD κ (arrOf b) lo ok){Q:Bool->bi->Prop}(h:∀v,SB f v->a7 v=a7 b->Wr (arrOf b) (arrOf v) lo n->fD κ (arrOf v) lo n->Q ai v):wpS (ar d w) A E s (binarySort' lo n ok) Q b:=by
 unfold binarySort';refine aA (eW (eX (I:=λk c a=>c=(ae,())/\SB f a/\a7 a=a7 b/\Wr (arrOf b) (arrOf a) lo n/\fD κ (arrOf a) lo (min k n)) (Q:=λc a=>c=(ae,())/\SB f a/\a7 a=a7 b/\Wr (arrOf b) (arrOf a) lo n/\fD κ (arrOf a) lo n) ?_ ?_ ?_) ?_)
 .rintro k c a fA bO ⟨rfl,p,u,o,g⟩;have sz:=o.size;rw[show min k n=k by lia]at g;refine aA (eW (eX (I:=λx c m=>m=a/\∃l r,c=(ae,l,r)/\l<=r/\r<=k/\r-l<=k-x /\ (∀i,i<l->κ.kle (KK κ (arrOf a) (lo+i)) (KK κ (arrOf a) (lo+k)))/\(∀i,r<=i->i<k->κ.klt (KK κ (arrOf a) (lo+k)) (KK κ (arrOf a) (lo+i)))) (Q:=λc m=>m=a/\∃l r,c=(ae,l,r)/\l<=k /\ (∀i,i<l->κ.kle (KK κ (arrOf a) (lo+i)) (KK κ (arrOf a) (lo+k)))/\(∀i,l<=i->i<k->κ.klt (KK κ (arrOf a) (lo+k)) (KK κ (arrOf a) (lo+i)))) ?_ ?_ ?_) ?_)
  .rintro x c m _ Y ⟨rfl,l,r,rfl,X,y,W,t,q⟩;dsimp only;refine bS (λP=>?_) λP=>?_
   .have:l=r:=∅
    subst this;exact aF ⟨rfl,l,l,rfl,y,t,q⟩
   .refine aA (mj M p (N.of o.perm) ∅ ∅ ?_);cases e:κ.blt (KK κ (arrOf m) (lo+k)) (KK κ (arrOf m) (lo+(l+r) / 2))with
    |true=>exact aF ⟨rfl,l,(l+r) / 2,rfl,∅,∅,∅,t,λi B O=>KeyOrd.klt_of_klt_of_kle e (g _ _ ∅ ∅ ∅)⟩
    |false=>exact aF ⟨rfl,(l+r) / 2+1,r,rfl,∅,∅,∅,λi B=>rA (g (lo+i) (lo+(l+r) / 2) ∅ ∅ ∅) e,q⟩
  .rintro c m ⟨rfl,l,r,rfl,X,y,W,t,q⟩;have:l=r:=∅
   subst this;exact⟨rfl,l,l,rfl,y,t,q⟩
  .exact⟨rfl,0,k,rfl,∅,∅,∅,λi Z=>∅,λi B O=>∅⟩
  .rintro c m ⟨rfl,l,r,rfl,y,t,q⟩;dsimp only;refine aA (HJ (κ:=κ) (lo:=lo) (n:=n) p u o ∅ ∅ ∅ ∅ λbf z S L C=>aF ⟨rfl,z,S,L,?_⟩);rw[show min (k+1) n=k+1 by lia];intro i j F D T;rw[C,C]
   repeat' split
   all_goals first
    | (exfalso;lia)
    |exact jV _
    | (have:=t (i-lo) ∅;rw[show lo+(i-lo)=i by lia]at this;exact this)
    | (have:=q (j-1-lo) ∅ ∅;rw[show lo+(j-1-lo)=j-1 by lia]at this;exact jl this)
    |exact g _ _ ∅ ∅ ∅
 .rintro c a ⟨rfl,p,u,o,g⟩;rw[show min (max (max ok 1) n) n=n by lia]at g;exact⟨rfl,p,u,o,g⟩
 .refine⟨rfl,K,rfl,Wr.same,λi j F D T=>?_⟩;by_cases B:ok=0
  .have:i=j:=∅
   subst this;exact jV _
  .exact H i j F D ∅
 .rintro c a ⟨rfl,p,u,o,g⟩;exact aF (h a p u o g)
end
theorem HG{c:Prop}[Decidable c]{a b n:Nat}(f:a+1<n)(d:b+1<n):(if c then a else b)+1<n:=by split <;> assumption
def iM:Nat->List (Nat×Nat)->Nat->Prop
 |f,[],t=>f=t
 |f,(a,n)::l,t=>a=f/\0<n/\iM (f+n) l t
theorem iM.app:∀{l1:List (Nat×Nat)}{f t:Nat}{b:List (Nat×Nat)},iM f (l1++b) t↔∃m,iM f l1 m/\iM m b t
 |[],f,t,b=>by simp[iM]
 | (a,n)::l1,f,t,b=>by
  simp only[iU,iM,iM.app (l1:=l1)];constructor
  .rintro⟨h,g,m,d,c⟩;exact⟨m,⟨h,g,d⟩,c⟩
  .rintro⟨m,⟨h,g,d⟩,c⟩;exact⟨h,g,m,d,c⟩
theorem iM.le:∀{l:List (Nat×Nat)}{f t:Nat},iM f l t->f+l.length<=t/\∀e∈l,f<=e.1/\e.1+e.2<=t
 |[],f,t,h=>⟨by cases h;simp,by simp⟩
 | (a,n)::l,f,t,⟨g,j,d⟩=>by
  obtain⟨i,c⟩:=iM.le d;refine⟨by simp;lia,λe b=>?_⟩;rcases bF.mp b with rfl|b
  .subst g;exact⟨aY _,by simp;lia⟩
  .have:=c e b;exact⟨∅,this.2⟩
def PL(a:Array (Nat×Nat×Nat)):List (Nat×Nat):=a.toList.map λe=>(e.1,e.2.1)
structure gb(κ:KeyKind)(arr:Array Keyed)(pd:Array (Nat×Nat×Nat))(lo:Nat):Prop where
 ch:iM 0 (PL pd) lo
 run:∀e∈PL pd,Run κ arr e.1 e.2
theorem t7(a:Array (Nat×Nat×Nat)):(PL a).length=a.size:=by simp[PL]
theorem lj(a:Array (Nat×Nat×Nat))(e:Nat×Nat×Nat):PL (a.push e)=PL a++[(e.1,e.2.1)]:=by simp[PL]
theorem tI(a:Array (Nat×Nat×Nat))(k pw:Nat):PL (a.modify k λx=>(x.1,x.2.1,pw))=PL a:=by
 apply xY;intro i;simp only[PL,iq,yf,Array.getElem?_modify];split
 .cases a[i]? <;> rfl
 .rfl
theorem GN{j:Array (Nat×Nat×Nat)}{i:Nat}(h:i+1<j.size):∃a f b d g sb c m,j[i]?=aa (b,d,g)/\j[i+1]?=aa (sb,c,m)/\PL j=a++(b,d)::(sb,c)::f /\ PL ((j.setIfInBounds i (b,d+c,g)).eraseIdxIfInBounds (i+1))=a++(b,d+c)::f:=by
 obtain⟨l⟩:=j;simp only[bM]at h;have e:l=l.take i++l[i]::l[i+1]::l.drop (i+2):=by rw[<-vf,<-vf,o_]
 obtain⟨a,x,y,f,n,p⟩:∃a x y f,a.length=i/\l=a++x::y::f:=⟨l.take i,l[i],l[i+1],l.drop (i+2),by simp;lia,e⟩
 subst n p;obtain⟨b,d,g⟩:=x;obtain⟨sb,c,m⟩:=y;refine⟨a.map λe=>(e.1,e.2.1),f.map λe=>(e.1,e.2.1),b,d,g,sb,c,m,by simp,by simp[mW],by simp[PL],?_⟩;have o:((a++(b,d,g)::(sb,c,m)::f).toArray.setIfInBounds a.length (b,d+c,g)).eraseIdxIfInBounds (a.length+1)=(a++(b,d+c,g)::f).toArray:=by rw[List.setIfInBounds_toArray,List.set_append_right _ _ (aY _),KZ];congr 1;rw[List.eraseIdx_append_of_length_le ∅];simp
 rw[o];simp[PL]
section
variable{prog:aK}{w:aD}{A:aM}{E:ah->ao->Prop}{s:ao}{κ:KeyKind}{kz:gk}
theorem gb.keep{a f:Array Keyed}{c:Array (Nat×Nat×Nat)}{b n:Nat}(h:gb κ a c b)(w:Wr a f b n):gb κ f c b :=⟨h.ch,λe d=>(h.run e d).keep w (.inl (h.ch.le.2 e d).2)⟩
theorem wD(H:gB κ kz prog w A s){a:bi}(F:SB kz a)(I:AllK κ (arrOf a)){i l:Nat}(g:gb κ (arrOf a) (a7 a) l)(D:l<=(arrOf a).size)(G:i+1<(a7 a).size){Q:Bool->bi->Prop}(h:∀c,SB kz c->Wr (arrOf a) (arrOf c) 0 l->gb κ (arrOf c) (a7 c) l->(a7 c).size+1=(a7 a).size->Q ai c):wpS (ar prog w) A E s (mergeAt' i) Q a:=by
 obtain⟨W,T,f,j,S,sb,t,P,K,J,d,p⟩:=GN G;have u:=g.ch;rw[d]at u;obtain⟨m,x,O,N,M,L,v⟩:=iM.app.mp u;subst O M;have b1:=x.le;have b2:=v.le;have z:Run κ (arrOf a) f j:=g.run (f,j) (by rw[d];simp);have y:Run κ (arrOf a) (f+j) t:=g.run (f+j,t) (by rw[d];simp);refine Ij H F I K J N L ∅ z y λc B n o C=>h c B (o.mono ∅ ∅) ⟨?_,?_⟩ ?_
 .rw[n,p];exact iM.app.mpr ⟨f,x,rfl,∅,by rw[<-nk];exact v⟩
 .rw[n,p];intro e b;rcases iP.mp b with b|b
  .exact(g.run e (by rw[d];exact xJ _ b)).keep o (.inl (b1.2 e b).2)
  .rcases bF.mp b with rfl|b
   .exact C
   .exact(g.run e (by rw[d];simp[b])).keep o (.inr (by have:=(b2.2 e b).1;lia))
 .have r:=t7 (a7 c);have q:=t7 (a7 a);rw[n,p]at r;rw[d]at q;rw[n,<-r,<-q];simp;lia
theorem Ef(hO:gB κ kz prog w A s){st:bi}(hk:SB kz st)(hA:AllK κ (arrOf st))(hp:a7 st=#[]){Q:Unit->bi->Prop}(h:∀ax,SB kz ax->(arrOf ax).toList.Perm (arrOf st).toList->Run κ (arrOf ax) 0 (arrOf st).size->Q () ax):wpS (ar prog w) A E s sortRuns' Q st:=by
 unfold sortRuns';refine aA (jk ?_);dsimp only;obtain⟨b,La⟩:∃b,b=(arrOf st).size:=⟨_,rfl⟩
 have K5:((sortPriv% PySem.Builtin.SortState.a) st).size=b:=La.symm;simp only[K5];refine aA (eW (eX (I:=λx c o=>∃f,c=(ae,f)/\x<=f/\f<=b/\SB kz o/\(arrOf o).toList.Perm (arrOf st).toList/\(arrOf o).size=b/\gb κ (arrOf o) (a7 o) f) (Q:=λc o=>c=(ae,b)/\SB kz o/\(arrOf o).toList.Perm (arrOf st).toList/\(arrOf o).size=b/\gb κ (arrOf o) (a7 o) b) ?_ ?_ ?_) ?_);rotate_left
 .rintro c o ⟨f,rfl,b1,b2,fA,K,T,N⟩;have:f=b:=∅
  subst this;exact⟨rfl,fA,K,T,N⟩
 .exact⟨0,rfl,∅,∅,hk,pf _,La.symm,by rw[hp];exact⟨rfl,by simp[PL]⟩⟩
 .rintro c o ⟨rfl,fA,K,T,N⟩;dsimp only;refine aA (eW (eX (I:=λx c l=>c=(ae,())/\SB kz l/\(arrOf l).toList.Perm (arrOf st).toList/\(arrOf l).size=b/\gb κ (arrOf l) (a7 l) b/\(a7 l).size+x<=b+1) (Q:=λc l=>c=(ae,())/\SB kz l/\(arrOf l).toList.Perm (arrOf st).toList/\(arrOf l).size=b/\gb κ (arrOf l) (a7 l) b/\(a7 l).size<=1) ?_ ?_ ?_) ?_)
  .rintro x c l _ hx ⟨rfl,D,fz,fX,O,hb⟩;refine aA (jk ?_);refine bS (λe1=>aF ⟨rfl,D,fz,fX,O,e1⟩) λe1=>?_;have pH:1<(a7 l).size:=Nat.lt_of_not_le e1;refine aA (wD hO D (hA.of fz) O ∅ ?_ λM L hV F hq=>?_)
   .exact HG (show(a7 l).size-2-1+1<(a7 l).size by lia) (show(a7 l).size-2+1<(a7 l).size by lia)
   .exact aF ⟨rfl,L,hV.perm.trans fz,hV.size.trans fX,F,∅⟩
  .rintro c l ⟨rfl,D,fz,fX,O,hb⟩;exact⟨rfl,D,fz,fX,O,∅⟩
  .have:=N.ch.le.1;rw[t7]at this;exact⟨rfl,fA,K,T,N,∅⟩
  .rintro c l ⟨rfl,D,fz,fX,O,hb⟩;refine aF (h l D fz ?_);rw[<-La];have hc:=O.ch;have hr:=O.run;have hl:=t7 (a7 l)
   match hq:PL (a7 l),hc,hr,hl with
   |[],hc,hr,hl=>
    cases hc;intro i j x y a1 a2 a3;lia
   |[(a,n)],hc,hr,hl=>
    obtain⟨d1,d2,d3⟩:=hc;cases d1;have d3':0+n=b:=d3;have:=hr (0,n) (by simp);rw[show b=n by lia];exact this
   |_::_::_,hc,hr,hl=>simp at hl;lia
 rintro x c o _ hx ⟨f,rfl,b1,b2,fA,K,T,N⟩;dsimp only;refine bS (λe1=>?_) λe1=>?_
 .have:f=b:=∅
  subst this;exact aF ⟨rfl,fA,K,T,N⟩
 refine aA (D6 hO fA (hA.of K) ∅ ∅ λr l D Y pI f1 f2 pJ=>?_);dsimp only;refine bS (λe2=>?_) λe2=>?_
 .refine aA (pA (kN ⟨rfl,?_⟩));refine aA (Dl hO D ((hA.of K).of pI.perm) ∅ (by rw[pI.size];lia) pJ λM L hq3 hV X=>?_);rw[if_neg (by simp)];have J:Wr (arrOf o) (arrOf M) f (b-f):=pI.trans (hV.mono ∅ ∅);have sB:a7 M=a7 o:=hq3.trans Y;generalize hn:min (b-f) _=n at *;have n1:0<n:=∅
  have n2:f+n<=b:=∅
  clear D pI pJ Y hV hq3;have F:gb κ (arrOf M) (a7 M) f:=by rw[sB];exact N.keep J
  have d_:(arrOf M).toList.Perm (arrOf st).toList:=J.perm.trans K;have lX:(arrOf M).size=b:=J.size.trans T;have hR:Run κ (arrOf M) f n:=X.run;clear J sB;refine aA (jk ?_);obtain⟨kd,arr,P,mg,fl⟩:=M;dsimp only;cases hbk:P.back? with
  |none=>
   dsimp only;refine aA (kT (aF ⟨f+n,rfl,∅,n2,⟨L.kind,L.failed⟩,d_,lX,?_⟩));refine⟨?_,?_⟩
   .show iM 0 (PL (P.push (f,n,0))) _;rw[lj];exact iM.app.mpr ⟨f,F.ch,rfl,n1,rfl⟩
   .show ∀e∈PL (P.push (f,n,0)),_;rw[lj];intro e m;rcases iP.mp m with m|m
    .exact F.run e m
    .rw[eV.mp m];exact hR
  |some bk=>
   obtain⟨s1,m1,q1⟩:=bk;dsimp only;refine aA (eW (eX (I:=λx c g=>c=(ae,())/\SB kz g/\(arrOf g).toList.Perm (arrOf st).toList/\(arrOf g).size=b/\gb κ (arrOf g) (a7 g) f/\Run κ (arrOf g) f n) (Q:=λc g=>c=(ae,())/\SB kz g/\(arrOf g).toList.Perm (arrOf st).toList/\(arrOf g).size=b/\gb κ (arrOf g) (a7 g) f/\Run κ (arrOf g) f n) ?_ (λ_ _ hh=>hh) ?_) ?_)
   .rintro y c g _ hy ⟨rfl,z,C,H,t,G⟩;refine aA (jk ?_);have rL:∀{p:bi},p=g->((ae,()):Option Unit×Unit)=(ae,())/\SB kz p/\(arrOf p).toList.Perm (arrOf st).toList/\(arrOf p).size=b/\gb κ (arrOf p) (a7 p) f/\Run κ (arrOf p) f n:=λe=>by subst e;exact⟨rfl,z,C,H,t,G⟩
    by_cases hg:1<(a7 g).size
    .obtain⟨v,q,d,u,B⟩:=g;have W:d.size > 1:=hg;dsimp only;rw[if_pos W,getElem?_pos d (d.size-2) ∅];obtain⟨u1,u2,u3⟩:=d[d.size-2];dsimp only;refine bS (λ_=>aF (rL rfl)) λ_=>?_;refine aA (wD hO z (hA.of C) t ∅ (show d.size-2+1<d.size by lia) λp k7 S Z _=>?_);exact aF ⟨rfl,k7,S.perm.trans C,S.size.trans H,Z,G.keep S (.inr ∅)⟩
    .obtain⟨v,q,d,u,B⟩:=g;have W:¬d.size > 1:=hg;dsimp only;rw[if_neg W];exact aF (rL rfl)
   .exact⟨rfl,L,d_,lX,F,hR⟩
   rintro c g ⟨rfl,z,C,H,t,G⟩;obtain⟨v,q,d,u,B⟩:=g;dsimp only;refine aA (kT (aA (kT (aF ⟨f+n,rfl,∅,n2,⟨z.kind,z.failed⟩,C,H,?_⟩))));refine⟨?_,?_⟩
   .show iM 0 (PL ((d.modify (d.size-1) λx=>(x.1,x.2.1,_)).push (f,n,0))) _;rw[lj,tI];exact iM.app.mpr ⟨f,t.ch,rfl,n1,rfl⟩
   .show ∀e∈PL ((d.modify (d.size-1) λx=>(x.1,x.2.1,_)).push (f,n,0)),_;rw[lj,tI];intro e m;rcases iP.mp m with m|m
    .exact t.run e m
    .rw[eV.mp m];exact G
 .have L:=D;have X:=pJ;have J:Wr (arrOf o) (arrOf l) f (b-f):=pI;have sB:a7 l=a7 o:=Y;have n1:0<r:=∅
  have n2:f+r<=b:=∅
  have F:gb κ (arrOf l) (a7 l) f:=by rw[sB];exact N.keep J
  have d_:(arrOf l).toList.Perm (arrOf st).toList:=J.perm.trans K;have lX:(arrOf l).size=b:=J.size.trans T;have hR:Run κ (arrOf l) f r:=X.run;clear J sB;refine aA (jk ?_);obtain⟨kd,arr,P,mg,fl⟩:=l;dsimp only;cases hbk:P.back? with
  |none=>
   dsimp only;refine aA (kT (aF ⟨f+r,rfl,∅,n2,⟨L.kind,L.failed⟩,d_,lX,?_⟩));refine⟨?_,?_⟩
   .show iM 0 (PL (P.push (f,r,0))) _;rw[lj];exact iM.app.mpr ⟨f,F.ch,rfl,n1,rfl⟩
   .show ∀e∈PL (P.push (f,r,0)),_;rw[lj];intro e m;rcases iP.mp m with m|m
    .exact F.run e m
    .rw[eV.mp m];exact hR
  |some bk=>
   obtain⟨s1,m1,q1⟩:=bk;dsimp only;refine aA (eW (eX (I:=λx c g=>c=(ae,())/\SB kz g/\(arrOf g).toList.Perm (arrOf st).toList/\(arrOf g).size=b/\gb κ (arrOf g) (a7 g) f/\Run κ (arrOf g) f r) (Q:=λc g=>c=(ae,())/\SB kz g/\(arrOf g).toList.Perm (arrOf st).toList/\(arrOf g).size=b/\gb κ (arrOf g) (a7 g) f/\Run κ (arrOf g) f r) ?_ (λ_ _ hh=>hh) ?_) ?_)
   .rintro y c g _ hy ⟨rfl,z,C,H,t,G⟩;refine aA (jk ?_);have rL:∀{p:bi},p=g->((ae,()):Option Unit×Unit)=(ae,())/\SB kz p/\(arrOf p).toList.Perm (arrOf st).toList/\(arrOf p).size=b/\gb κ (arrOf p) (a7 p) f/\Run κ (arrOf p) f r:=λe=>by subst e;exact⟨rfl,z,C,H,t,G⟩
    by_cases hg:1<(a7 g).size
    .obtain⟨v,q,d,u,B⟩:=g;have W:d.size > 1:=hg;dsimp only;rw[if_pos W,getElem?_pos d (d.size-2) ∅];obtain⟨u1,u2,u3⟩:=d[d.size-2];dsimp only;refine bS (λ_=>aF (rL rfl)) λ_=>?_;refine aA (wD hO z (hA.of C) t ∅ (show d.size-2+1<d.size by lia) λp k7 S Z _=>?_);exact aF ⟨rfl,k7,S.perm.trans C,S.size.trans H,Z,G.keep S (.inr ∅)⟩
    .obtain⟨v,q,d,u,B⟩:=g;have W:¬d.size > 1:=hg;dsimp only;rw[if_neg W];exact aF (rL rfl)
   .exact⟨rfl,L,d_,lX,F,hR⟩
   rintro c g ⟨rfl,z,C,H,t,G⟩;obtain⟨v,q,d,u,B⟩:=g;dsimp only;refine aA (kT (aA (kT (aF ⟨f+r,rfl,∅,n2,⟨z.kind,z.failed⟩,C,H,?_⟩))));refine⟨?_,?_⟩
   .show iM 0 (PL ((d.modify (d.size-1) λx=>(x.1,x.2.1,_)).push (f,r,0))) _;rw[lj,tI];exact iM.app.mpr ⟨f,t.ch,rfl,n1,rfl⟩
   .show ∀e∈PL ((d.modify (d.size-1) λx=>(x.1,x.2.1,_)).push (f,r,0)),_;rw[lj,tI];intro e m;rcases iP.mp m with m|m
    .exact t.run e m
    .rw[eV.mp m];exact G
end
theorem wb{n:Nat}(h:n<=1000000):n<a9:=xU h (by decide)
theorem Run.sortedTo{κ:KeyKind}{a:Array Keyed}{n:Nat}(h:Run κ a 0 n)(c:n<=a.size):SortedToK κ a n:=by intro i j b d;have:=h i j _ _ (kM _) b ∅ (getElem?_pos a i ∅) (getElem?_pos a j ∅);rw[t_ (show i<a.size by lia),t_ (show j<a.size by lia)];exact this
theorem KeysOf.all{κ:KeyKind}{a:Array Keyed}(h:KeysOf κ a):AllK κ a:=λi b=>h _ (by simp)
section
variable{P:aK}{w:aD}{A:aM}{E:ah->ao->Prop}{s:ao}
theorem Ek{κ:KeyKind}{kz:gk}{a:af}{c:List ah}{n:Nat}{F:Fin->ao->Prop}(q:s.heap.get? a=aa (dv "list" c.toArray n))(I:KeysOf κ (jW c))(B:c.length<=1000000)(C:∀r:ay,(∀b o,b≠a->s.heap.get? b=aa o->r.get? b=aa o)->2<=c.length->gB κ kz P w A {s with heap:=r}/\∀{E:ah->ao->Prop}{Q:gk->ao->Prop},Q kz {s with heap:=r}->aq (ar P w) A (keyKind' c.toArray) Q E {s with heap:=r})(h:∀d:bi,(arrOf d).Perm (jW c)->SortedToK κ (arrOf d) (jW c).size->F (.done (.ret .none)) {s with heap:=sortedHeap s.heap a c ((arrOf d).map (·.2))}):aq (ar P w) A (Builtin.«list.sort» ⟨[.ref a],[]⟩) F E s:=by
 rw[list_sort_plain];have y:a<s.heap.objs.size:=bw q;have x:c.length<=a9:=kC (wb B);refine ap (listItems_at q rfl ?_);refine ap (xZ q rfl ?_);obtain⟨t,v⟩:∃t,(s.heap.update a (fv λ_=>#[])).get? a=aa (dv "list" #[] t):=⟨_,ve q (λ_=>#[])⟩
 refine ap (seqEpoch_at v rfl ?_);refine ap (wpAny_newTuple ?_ (hsz:=by rw[Cj];exact x));refine ap (wpAny_newList ?_);refine io ?_;have l:(((s.heap.update a (fv λ_=>#[])).push (dv "tuple" c.toArray 0)).push (dv "list" #[] 0)).get? a=aa (dv "list" #[] t):=by rw[Heap.get?_push_ne _ _ _ (by rw[g8,Cu];exact cD (jU y)),Heap.get?_push_ne _ _ _ (by rw[Cu];exact cD y)];exact v
 have keep:∀b o,b≠a->s.heap.get? b=aa o->(((s.heap.update a (fv λ_=>#[])).push (dv "tuple" c.toArray 0)).push (dv "list" #[] 0)).get? b=aa o:=λb o m e=>bd _ (bd _ (by rw[Cq _ _ _ _ m];exact e));show aq (ar P w) A _ F E {s with heap:=((s.heap.update a (fv λ_=>#[])).push (dv "tuple" c.toArray 0)).push (dv "list" #[] 0)};dsimp only;have f:∀d:bi,failedOf d=ae->(arrOf d).Perm (jW c)->SortedToK κ (arrOf d) (jW c).size ->
   aq (ar P w) A (do
    let touched:=(<-seqEpoch a) != t
    Builtin.List.listUpdate (.ref a) λ_=>(arrOf d).map (·.2)
    if let aa e:=failedOf d then rule "list.sort.comparison-raised";throw e
    if touched then rule "list.sort.modified";raiseError "ValueError" "list modified during sort"
    ret .none) F E {s with heap:=((s.heap.update a (fv λ_=>#[])).push (dv "tuple" c.toArray 0)).push (dv "list" #[] 0)}:=λd m p u=>by
  refine ap (seqEpoch_at l rfl ?_);refine ap (xZ l rfl ?_ (hsz2:=by refine cn (jQ ((Array.size_map ..).trans (p.size_eq.trans (pairsOf_size _)))) (Nat.le_succ_of_le x)));rw[m];simp only[bne_self_eq_false,jS,if_false];exact aC (h d p u)
 by_cases g:c.toArray.size<2
 .rw[if_pos g,if_pos g];refine ap (aC ?_);refine ap (aC ?_);refine f (SortSt.mk' general' (c.toArray.zip c.toArray) #[] 7 ae) rfl (Array.Perm.refl _) λi j M D=>?_;have:i=j:=by rw[pairsOf_size]at D;rw[bM]at g;lia
  subst this;exact jV _
 .rw[if_neg g,if_neg g];obtain⟨G,H⟩:=C _ keep (by rw[bM]at g;lia);refine ap (H ?_);refine ap (dO (Ef (κ:=κ) (kz:=kz) G (st:=SortSt.mk' kz (c.toArray.zip c.toArray) #[] 7 ae) (Q:=λ_ d=>SB kz d/\(arrOf d).toList.Perm (jW c).toList/\Run κ (arrOf d) 0 (jW c).size) ⟨rfl,rfl⟩ (KeysOf.all I) rfl λd L K J=>⟨L,K,J⟩) ?_ λ_ _ e=>e);rintro⟨⟨⟩,d⟩ s' ⟨rfl,m,p,u⟩;have z:(arrOf d).Perm (jW c):=CF.mpr p;exact f d m.failed z (u.sortedTo (by rw[z.size_eq];exact aY _))
theorem JF{g:KeyKind}(o:g.OneLt){a:af}{d:List ah}{n:Nat}{F:Fin->ao->Prop}(m:s.heap.get? a=aa (dv "list" d.toArray n))(p:KeysOf g (jW d)) (j:∀c b rest,d=c::b::rest->keyKind' (c::b::rest).toArray=pure oneType') (l:d.length<=1000000)(h:∀i:bi,(arrOf i).Perm (jW d)->SortedToK g (arrOf i) (jW d).size->F (.done (.ret .none)) {s with heap:=sortedHeap s.heap a d ((arrOf i).map (·.2))}):aq (ar P w) A (Builtin.«list.sort» ⟨[.ref a],[]⟩) F E s :=
 Ek m p l (λr _ f=>⟨OneLt.ok o,λq=>by
  obtain⟨c,b,rest,rfl⟩:∃c b rest,d=c::b::rest:=by
   match d,f with
   |[],f=>simp at f
   |[_],f=>simp at f
   |c::b::rest,_=>exact⟨c,b,rest,rfl⟩
  rw[j _ _ _ rfl];exact aC q⟩) h
theorem Ac{v:ah}{Q:ah->ao->Prop}(u:aq (ar P w) A.in1 (collect v) (λd s1=>∃ss:List Str,c7 d ss/\d.length<=1000000/\∀(i:ay) (out:Array ah) (f:List Str) (e:Nat),(∀b o,s1.heap.get? b=aa o->i.get? b=aa o) -> i.get? s1.heap.objs.size=aa (dv "list" out e)->c7 out.toList f->f.Perm ss->sortedS f=ai->Q (.ref s1.heap.objs.size) {s1 with heap:=i}) E s):aq (ar P w) A (call (.builtin "sorted") [v]) Q E s:=by refine Calls.call_function_entry kind_sorted plain_sorted entry_sorted (args_sorted1 _) ?_;unfold Builtin.«sorted»;refine ap (m:=checkCount "sorted" 1 1 _) (aC ?_);refine ap (aL u λd s1 ⟨ss,h,p,j⟩=>?_);refine ap (wpAny_newList ?_);have g:(s1.heap.push (dv "list" d.toArray 0)).get? s1.heap.objs.size=aa (dv "list" d.toArray 0):=cg _ rfl;refine ap (io (q_ slot_list_sort ⟨_,g,rfl⟩ entry_list_sort (JF strKind_oneLt g h.keysOf (λa b c e=>keyKind_strs (by rw[<-e];exact h)) p λx r q=>⟨_,rfl,?_⟩) (args_list_sort _)));obtain⟨f,B,z,y⟩:=sorted_out_str h r q;obtain⟨e,t⟩:=sortedHeap_at (out:=(arrOf x).map (·.2)) g;refine aC ⟨_,rfl,j _ _ f e (λb o l=>?_) t B z y⟩;have n:b<s1.heap.objs.size:=bw l;rw[sortedHeap_old (cD n) (by rw[g8];exact jU n)];exact bd _ l
end
section
variable{X:Cx}
theorem Inv.sorted2{h:List (af×Obj)}{g:St}{H:Hp}{s1:ao}{c:List Tx}{ss d:List Str}{f:ay}{a:Array ah}{e:Nat}(I:Inv X h g H s1)(l:ss=c.map tS)(s:c.length<=1000000)(k:∀b o,s1.heap.get? b=aa o->f.get? b=aa o) (j:f.get? s1.heap.objs.size=aa (dv "list" a e)) (r:c7 a.toList d) (q:d.Perm ss) (p:sortedS d=ai):Inv X h g (upd H s1.heap.objs.size (.lst (bA (aO c)))) {s1 with heap:=f}:=by
 have n:d.map (λz=>z.cps.toList)=aO c:=by
  refine uc ?_ (Ka p);have:=q.map λz=>z.cps.toList;rw[l,eY]at this;have m:(c.map ((λz:Str=>z.cps.toList) ∘ tS))=c:=by simp[Function.comp_def,i7]
  rw[m]at this;exact this
 have i:bh (bA (aO c)) a.toList:=by rw[<-n];exact AH r
 refine I.laid (t':=s1.toks) k (aY _) ⟨?_,a.toList,e,i,?_⟩
 .rw[w_,wS];exact kC (wb ∅)
 .rw[Array.toArray_toList];exact j
theorem mf:fY X (.builtin "sorted") (λt H Q=>∃(p:af) (d:List Tx),t=[.ref p]/\(bX X.K H p (bA d)\/bQ X.K H p (bA d))/\d.length<=1000000/\∀l,H l=ae->Q (.ref l) (upd H l (.lst (bA (aO d))))):=by
 intro F s w H t L Q I r h;obtain⟨p,d,rfl,f,A,q⟩:=h;obtain⟨u,rfl,x⟩:=vals1 r;cases x;have b:∀(T:String) (o:Obj) (a:List ah) (n:Nat),(T = "list"\/T = "tuple")->s.heap.get? p=aa o->o.cls=.type T->o.data=.seq a.toArray n->bh (bA d) a ->
   aq (ar X.prog X.w) X.A (call (.builtin "sorted") [Value.ref p]) (EP X F w Q) X.xe s:=λT o a n E j i g c=>by
  have D:=c.length;rw[w_]at D;have m:=wb (n:=a.length) ∅;refine Ac (wpAny_collect_seq p E j i g (λM B=>?_) (by rw[bM];lia));have v:=I.kept (t':=s.toks) B;refine⟨_,vz c,by rw[Cj];lia,λN z O e k j K J G=>?_⟩;exact⟨.ref _,_,Inv.sorted2 v rfl A k j K J G,rfl,q _ v.fresh⟩
 rcases f with f|f
 .obtain⟨a,c,y,C⟩:=I.list f;obtain⟨o,e,i,n,g⟩:=y.isList;exact b "list" o a n (.inl rfl) e i g c
 .obtain⟨a,c,⟨o,e,i,n,g⟩,C⟩:=I.tuple f;exact b "tuple" o a n (.inr rfl) e i g c
end
end L2
namespace Pu
open L2
section
variable{X:Cx}{K:au}
def iI:List PV->Option PO
 |[.lst b]=>(dZ b).bind λa=>if a.length<=1000000 then aa (.lst (am (aO a)))else ae
 |[.tup b]=>(dZ b).bind λa=>if a.length<=1000000 then aa (.lst (am (aO a)))else ae
 |_=>ae
theorem mQ:km K (λm H Q=>∃(p:af) (b:List Tx),m=[.ref p]/\(bX K H p (bA b)\/bQ K H p (bA b))/\b.length<=1000000/\∀l,H l=ae->Q (.ref l) (upd H l (.lst (bA (aO b))))) iI:=λF H m y Q o w n e q=>by
 have f:∀{g:List PV}{c:List V}{a:af},((dZ g).bind λb=>if b.length<=1000000 then aa (PO.lst (am (aO b)))else ae)=aa o->aX K H F g c->(bX K H a c\/bQ K H a c) ->
   ∃(p:af) (b:List Tx),[V.ref a]=[.ref p]/\(bX K H p (bA b)\/bQ K H p (bA b))/\b.length<=1000000/\∀l,H l=ae->Q (.ref l) (upd H l (.lst (bA (aO b)))):=λ{g c a} e d t=>by
  cases h:dZ g with
  |none=>rw[h]at e;cases e
  |some b=>
   rw[h]at e;simp only[iw]at e;split at e
   .rename_i r;cases e;rw[nN h]at d;obtain⟨rfl,u⟩:=Lh.mp d;refine⟨a,b,rfl,t,r,λl i=>q l F _ _ (Al.new0 i) (tx i (Lh.mpr ⟨rfl,λx s=>u x ((et b).mem_iff.mp s)⟩)) (tP i w trivial)⟩
   .cases e
 unfold iI at e;split at e
 .obtain⟨v,rfl,a,c,rfl,j,_,d⟩:=gu n;exact f e d (.inl (.inl j))
 .obtain⟨v,rfl,a,c,rfl,j,d⟩:=gu n;exact f e d (.inr (bQ.of j))
 .cases e
end
end Pu
namespace L2
def sU(a:Int)(n:Nat):It:=⟨λi _=>i<n,λi H x b=>b=H/\x=.int (a-i),λi _=>n<=i⟩
theorem Gb{P:aK}{w:aD}{K:au}{G:az}(c:af)(f:Int)(n:Nat):n_ P w K G (sU f n) [c] c (λi h=>xL h c (f+(i:Nat) * -1) ((n:Int)-(i:Nat)) (-1)) where
 mem:=by simp
 obj:=λi h a b d=>by
  have e:b=c:=by simpa using d
  subst e;exact⟨_,a,λv z=>by
   have F:Data.fields _=Data.cell v:=z;cases F⟩
 keep:=λi h j a k=>k c (by simp) _ a
 item:=by intro X q l r p i D s A H E I g a m;subst q l r;obtain⟨y,x,f2,f3,f4,u⟩:=g c (by simp);have W:=Walks.range (prog:=X.prog) (w:=X.w) (I.ok.hd p) c f (-1) n;refine W.item i s _ _ m a λv j B L C J=>?_;obtain⟨t,rfl⟩:=L;have N:Inv X D A H {s with heap:=j,toks:=B}:=I.turned (λb o d e=>J b o (by simpa using d) e) y x f3 f4 u;refine⟨_,rfl,pT (s:={s with heap:=j,toks:=B}) (n:="range_iterator") C rfl rfl (by decide) ⟨.int (f-i),H,N,⟨t,?_⟩,⟨rfl,rfl⟩,C,λb d=>(g b d).1⟩⟩;rw[show f+(i:Int) * -1=f-i by lia]
 done:=by intro X q l r p i D s A H E I g a m;subst q l r;obtain⟨y,x,f2,f3,f4,u⟩:=g c (by simp);exact wpAny_pyNext_range_end (I.ok.hd p) a (by have:n<=i:=m;lia) λj M=>⟨rfl,I.turned (t':=s.toks) (λb o d e=>M b o d e) y x f3 f4 u⟩
 self:=λ_ _ _ _ _ a h=>wpAny_pyIter_rangeiter a h
theorem rangeSize_down(a b:Int):xM a b (-1)=if a > b then a-b else 0:=by
 unfold xM;rw[if_neg (by decide)];split
 .rw[show(- -1:Int)=1 from rfl,Int.ediv_one];lia
 .rfl
theorem small_down{a b:Int}(g:-(2^62)<=a)(c:a<2^62)(f:-(2^62)<=b)(d:b<2^62):Builtin.Range.small a b (-1)=ai:=by unfold Builtin.Range.small;rw[rangeSize_down];simp only[Builtin.Range.rangeFitsLong,eU,u0,decide_eq_true_eq,beq_iff_eq,show ¬((-1:Int) > 0) by decide,if_false];split <;> lia
section
variable{X:Cx}{d:az}
theorem Jw{h:List (af×Obj)}{f:St}{H:Hp}{s:ao}{R:It->Hp->Prop}{E:ah->ao->Prop}{c a:Int}{t u v:Tok}{g:Nat}(I:Inv X h f H s)(p:-(2^62)<=a)(n:a<2^62)(m:-(2^62)<=c)(l:c<2^62)(q:R (sU a (a-c).toNat) H):aq (ar X.prog X.w) X.A (kH (.ref s.heap.objs.size)) (pY X h f d R) E {s with heap:=s.heap.push {cls:=.type "range",data:=.fields #[.int a t,.int c u,.int (-1) v]},toks:=g}:=by
 refine wpAny_pyIter_range (IsRange.new ..) (small_down p n m l) ?_;have i:Inv X h f H {s with heap:=s.heap.push {cls:=.type "range",data:=.fields #[.int a t,.int c u,.int (-1) v]},toks:=g}:=I.kept λb o e=>bd _ e;refine⟨(s.heap.push {cls:=.type "range",data:=.fields #[.int a t,.int c u,.int (-1) v]}).objs.size,[(s.heap.push {cls:=.type "range",data:=.fields #[.int a t,.int c u,.int (-1) v]}).objs.size],_,_,H,rfl,i.kept (t':=g) λb o e=>bd _ e,Gb _ a (a-c).toNat,?_,λb j=>?_,q⟩
 .have w:a+((0:Nat):Int) * -1=a:=by simp
  have r:(((a-c).toNat:Nat):Int)-((0:Nat):Int)=xM a c (-1):=by rw[rangeSize_down];split <;> lia
  show xL _ _ (a+((0:Nat):Int) * -1) ((((a-c).toNat:Nat):Int)-((0:Nat):Int)) (-1);rw[w,r];exact cg _ rfl
 .have e:b=(s.heap.push {cls:=.type "range",data:=.fields #[.int a t,.int c u,.int (-1) v]}).objs.size:=by simpa using j
  subst e;exact i.fpOk (aY _) (i.hok.fresh (aY _))
def G4(c:TA):TI:=λa H R=>c a H λb f=>∃i j:Int,b=[.int i,.int j,.int (-1)]/\(-(2^62)<=i/\i<2^62/\-(2^62)<=j/\j<2^62)/\R (sU i (i-j).toNat) f
theorem HV{a b c:az}{n:TA}{p g:Pos}(D:Gl X "range")(C:X.mg "range"=ae)(E:PA X [a,b,c] n)(B:aN [a,b,c] X.env=[(aj,aP a X.env),(aj,aP b X.env),(aj,aP c X.env)]:=by rfl)(o:aN [b,c] X.env=[(aj,aP b X.env),(aj,aP c X.env)]:=by rfl):PI X d (.Call (.Name "range" p) [a,b,c] [] g) (G4 n):=by
 intro F s u H R I h;refine Call_ (oN I D C boot_range (B3 (aL (E g F s u H _ I h) λK M ⟨J,N,G,w,m⟩=>?_) (by rw[B,o]) (by rw[o];rfl)));obtain⟨i,j,e,⟨m,A,z,y⟩,q⟩:=m;subst e;cases w with
 |cons r f=>
  cases f with
  |cons x f=>
   cases f with
   |cons l f=>
    cases f;obtain⟨t,rfl⟩:=r;obtain⟨L,rfl⟩:=x;obtain⟨v,rfl⟩:=l;exact call_range_3 (by decide) (Jw G m A z y q) (.inl (PyProof.noPylong_small (by decide)))
def oP(a:Int)(n:Nat):List V:=(cm n).map λi=>V.int (a-(i:Nat))
theorem vU(a:Int)(n:Nat):(oP a n).length=n:=by simp[oP]
theorem FA{a:Int}{n:Nat}:Walk (sU a n) (oP a n) (λ_=>True):=λH _ i=>by
 refine⟨λx b=>?_,λa=>by rw[vU]at a;exact jQ a.symm⟩;have c:i<n:=by have:=(cE.mp b).1;rw[vU]at this;exact this
 refine⟨c,λy g z=>⟨z.1,?_⟩⟩;unfold oP at b;rw[iq,Cg c]at b;have f:V.int (a-(i:Nat))=x:=dA b;rw[z.2,<-f]
end
end L2
namespace Pu
open L2
section
variable{X:Cx}{K:au}{E:XK}{m l a b c e:az}{d:ak->R PV}{g:ak->R (List PV)}{p f o:Pos}
def jJ(h:Int)(n:Nat):List PV:=(cm n).map λi=>PV.int (h-(i:Nat))
theorem Ix{H:Hp}{F:af->Prop}(h:Int)(n:Nat):aX K H F (jJ h n) (oP h n):=by
 unfold jJ oP
 induction (cm n)with
 |nil=>rfl
 |cons x j i=>exact⟨_,_,rfl,rfl,i⟩
def p6:List PV->Option (List PV)
 |[.int i,.int j,.int c]=>if c=-1/\j<=1000000/\-1000000<=j/\i<=1000000/\-1000000<=i then aa (jJ i (i-j).toNat)else ae
 |_=>ae
theorem D3(B:X.mg "range"=ae)(D:DA X E [a,b,c] g)(C:Gl X "range":=by rfl)(A:aN [a,b,c] X.env=[(aj,aP a X.env),(aj,aP b X.env),(aj,aP c X.env)]:=by rfl)(O:aN [b,c] X.env=[(aj,aP b X.env),(aj,aP c X.env)]:=by rfl):DI X E m (.Call (.Name "range" p) [a,b,c] [] f) (dL p6 g):=λF S w r H Rr x h=>by
 refine zy (HV C B fN A O) (D F S w r H _ x ((Ok.bind h).imp λW s T P Q y g1 n Y N=>?_));unfold p6 at n;split at n
 .rename_i i j c;split at n
  .rename_i q;obtain⟨v,Z,rfl,M,L⟩:=N;obtain⟨u,z,rfl,J,I⟩:=L;obtain⟨t,rfl,G⟩:=gu I;obtain⟨rfl,q⟩:=q;refine⟨i,j,by rw[show v=V.int i from M,show u=V.int j from J,show t=V.int (-1)from G],⟨∅,∅,∅,∅⟩,n T P Q y (bn.refl ..) _ _ _ (Ix i (i-j).toNat) (by rw[vU,mV];lia) FA λ_ _ _ _=>trivial⟩
  .exact n.elim
 .exact n.elim
end
end Pu
namespace L2
section
variable{X:Cx}
theorem GE(w:X.calm=ai):fY X (.builtin "sorted") (λc H Q=>∃(p:af) (a:List Tx),c=[.ref p]/\H p=aa (me X p a)/\a.length<4000/\∀l,H l=ae->Q (.ref l) (upd H l (.lst (bA (aO a))))):=by
 intro B s g H c F Q I r h;obtain⟨p,a,rfl,t,G,q⟩:=h;obtain⟨u,rfl,j⟩:=vals1 r;cases j;obtain⟨S,_,_⟩:=(show cW X.prog X.w H s.heap p (me X p a)from I.hok p _ t)
 refine Ac (GG (yF (I.ok.hd w)) S λi E ss D C L k z y=>?_);obtain⟨d,g',d',t',n⟩:=i;obtain rfl:g'=s.gens:=z;obtain rfl:n=s.os:=y;have f:Inv X B g H {s with heap:=d,drawn:=d',toks:=t'}:=by have:=Inv.call (ch:=[]) I (g':=s.gens) (d':=d') (t':=t') (Un.kept (fs:=eu X.stack) (ex:=[]) k) (I.hok.kept k) I.bare (λb x=>absurd x (by simp));exact this
 refine⟨ss,D,∅,λJ m K e o v b1 b2 A=>?_⟩;exact⟨.ref _,_,Inv.sorted2 (s1:={s with heap:=d,drawn:=d',toks:=t'}) (ss:=a.map tS) f rfl ∅ o v b1 (b2.trans C) A,rfl,q _ f.fresh⟩
end
end L2
namespace Pu
open L2
section
variable{X:Cx}{E:XK}{d:List Nat}{e j:az}{m f:ak->R (List PV)}{c p q b i g a:Pos}
theorem H_(l:List Tx):(b9 l).Nodup:=by
 unfold b9;have:∀(l n:List Tx),n.Nodup->(l.foldl (λks x=>if x∈ks then ks else ks++[x]) n).Nodup:=by
  intro l
  induction l with
  |nil=>exact λn h=>h
  |cons x l r=>
   intro n h;rw[m_];refine r _ ?_;split
   .exact h
   .rename_i t;rw[List.nodup_append];exact⟨h,by simp,λy s z o e=>by simp at o;subst o;subst e;exact t s⟩
 exact this l [] List.nodup_nil
def Ew(X:Cx):List V->Hp->VK->Prop:=λn H Q=>∃(p:af) (h:List Tx),n=[.ref p]/\H p=aa (me X p h)/\h.length<4000/\∀l,H l=ae->Q (.ref l) (upd H l (.lst (bA (aO h))))
end
end Pu
namespace Mx
def F5:Nat->Nat->Nat
 |0,x=>x
 |n+1,x=>F5 n (5*x+1)
end Mx
namespace L2
theorem Ff{d:Pos}{a b:Int}{c g:ah}(l:List ah)(h:TriplesOk l)(e:qY d (l++[cN a,cN b,c])=aa g):qY d l=aa g\/g=c:=by
 fun_induction TriplesOk l with
 |case1=>simp[qY,cN]at e;exact .inr e.2.symm
 |case2 o t n u x rest i=>
  simp only[iU,qY]at e ⊢;split at e
  .rename_i f;rw[if_pos f];exact .inl e
  .rename_i f;rw[if_neg f];exact i h e
 |case3 l m j=>exact h.elim
section
variable{X:Cx}{i:List (af×Obj)}{d:St}{H:Hp}{s:ao}
structure tz(X:Cx)(x:Str)(c P:af):Prop where
 mem:x∈qP
 tab:jd X.K x=aa (c,P)
 hd:uT X.K c P=ai
 code:X.env.code=.ref c
theorem JC(I:Inv X i d H s){x:Str}{c P:af}(L:tz X x c P){j:o0}{y:az}{l:cL}{F:Pos}{w:List (Str×af)}(hq:X.env.qual++"<lambda>"=x++".<locals>.<lambda>") (lV:uU l X.env=pure w) (rR:defaultsOf j X.env=([],[])) {Q:ah->ao->Prop}(h:∀f c' p H' Y,Inv X i d H' Y->(∀b o,H b=aa o->H' b=aa o)->Y.heap.get? f=aa (yg "<lambda>" (X.env.qual++"<lambda>") j y l w ((X.mg "__name__").getD .none) c' p)->f≠X.env.locals -> Y.heap.CodeRec (.ref c') (X.env.qual++"<lambda>")->c'≠X.env.locals->Q (.ref f) Y):aq (ar X.prog X.w) X.A (aP (.Lambda j y l F) X.env) Q X.xe s:=by
 have M:=I.tab x L.mem c P L.tab;obtain⟨ps,hP,C,g⟩:=I.hok P _ M;have J:s.heap.Ns bV X.mg:=I.mod.glob.keeps I.bk;have hgP:bV≠P:=λz=>by
  obtain⟨o,es,ep,e,Z,_⟩:=J;rw[z,hP]at e;cases e;cases Z
 have S:s.heap.BuiltinsAt X.mg P:=by
  obtain⟨bm,ob,b1,b2,b3,b4,b5,b6⟩:=I.mod.bm;refine⟨bm,ob,b1,b2,λz=>?_,λz=>?_,I.bk _ _ b3,b4,b5,b6⟩
  .obtain⟨o,es,ep,e,Z,_⟩:=I.mod.glob;rw[<-z,b3]at e;cases e;rw[b6]at Z;cases Z
  .have e:=I.bk _ _ b3;rw[z,hP]at e;cases e;simp at b4
 have hC:=PySem.W.codeHd_of_K I.kIn L.hd;have Lne:X.env.locals≠P:=λz=>by have:=I.free;rw[z,M]at this;cases this
 refine PySem.W.kla_eval rR ?_;cases hf:qY F ps.toList with
 |some cv=>
  obtain⟨A,rfl,iX,vv⟩:=g F _ hf;refine PySem.W.kla_makeFunctionHit (mg:=X.mg) lV I.ok.glob J L.code hC hP C hf S λp W tk hk hsz=>?_;have D:∀b o,s.heap.get? b=aa o->(W.push (yg "<lambda>" (X.env.qual++"<lambda>") j y l w ((X.mg "__name__").getD .none) A p)).get? b=aa o:=λb o e=>bd _ (hk b o e);refine h _ A p H _ (I.un (Un.kept D) (I.hok.kept D)) (λ_ _ e=>e) (cg _ rfl) (lG (eE I.lt hsz)) ?_ λz=>?_
  .have G:s.heap.CodeRec (.ref A) (X.env.qual++"<lambda>"):=by rw[hq];exact vv
   exact G.keeps D
  .have:=I.free;rw[<-z,iX]at this;cases this
 |none=>
  refine PySem.W.kla_makeFunction (mg:=X.mg) lV I.ok.glob J L.code hC hP C hf hgP S λA p W tk hx eH a_ vv O=>?_;generalize ho:yg "<lambda>" (X.env.qual++"<lambda>") j y l w ((X.mg "__name__").getD .none) A p=fo;have D:∀b o,b≠P->s.heap.get? b=aa o->(W.push fo).get? b=aa o:=λb o n e=>bd _ (hx b o n e);have fr:H A=ae:=I.hok.fresh eH;have B:(W.push fo).CodeRec (.ref A) (X.env.qual++"<lambda>"):=vv.keeps λb o e=>bd _ e;have nP:∀b,H b=ae->b≠P:=λb n z=>by rw[z,M]at n;cases n
  have nc:∀b o,s.heap.get? b=aa o->b≠A:=λb o e=>cD (eE (bw e) eH);have E:∀b o,H b=aa o->(upd H A (.own P)) b=aa o:=λb o e=>by rw[b7 (mq e fr)];exact e
  have I':Inv X i d (upd H A (.own P)) {s with heap:=W.push fo,gens:=s.gens,drawn:=s.drawn,toks:=tk}:=by
   refine I.step (ch:=[]) (λ_ z=>nomatch z) (λb o _ _ _ e n=>D b o (nP b n) e) (λb o _ _ _ e n=>⟨o.slots,D b o (nP b n) e⟩) (λb o _ e n=>by rw[b7 (nc b o e)];exact n)
    (λb o _ e=>?_) (λb xs e=>E b _ e) (λb o u e=>E b _ e) (λb q e=>E b _ e) (λm hm=>?_) (λa u e=>?_) I.bare
   .by_cases T:b=P
    .subst T;exact⟨_,bd _ O⟩
    .exact⟨o,D b o T e⟩
   .exact(hm.extBut hx Lne).push _
   .by_cases ha:a=A
    .subst ha;rw[cI]at e;cases e;obtain⟨_,o,_,_,z,e2,_⟩:=B;cases z;exact⟨o,e2⟩
    .rw[b7 ha]at e;by_cases T:a=P
     .subst T;rw[M]at e;cases e;refine⟨_,bd _ O,by rw[fP];exact TriplesOk_snoc _ _ _ _ C,λN cv K=>?_⟩;rw[fP]at K;rcases Ff _ C K with z|rfl
      .obtain⟨c2,rfl,h1,h2⟩:=g N cv z;refine⟨c2,rfl,E c2 _ h1,?_⟩;obtain⟨c3,o,vs,t,z,e2,r⟩:=h2;cases z;exact⟨c2,o,vs,t,rfl,D c2 o (λz=>by rw[z,M]at h1;cases h1) e2,r⟩
      .exact⟨A,rfl,cI,hq ▸ B⟩
     .refine(I.hok a u e).stay (λb v K r=>D b v ?_ r) (λb r=>E b _ r) λb xs r=>E b _ r;rcases K with rfl|K
      .exact T
      .rintro rfl;rw[M]at K;cases K
  exact h _ A p _ _ I' E (by rw[<-ho];exact cg _ rfl) (lG (eE I.lt (cn eH (kC a_)))) B (lG (eE I.lt eH))
end
open Att
theorem ue:∀{c:List V}{vs:List ah}{i:Nat}{v:ah},bh c vs->vs[i]?=aa v->∃x,c[i]?=aa x/\RelV x v
 |_,_,_,_,.nil,e=>by simp at e
 |_,_,0,_,.cons h _,e=>by simp at e;subst e;exact⟨_,rfl,h⟩
 |_,_,i+1,_,.cons _ t,e=>by obtain⟨x,a,b⟩:=ue (i:=i) t (by simpa using e);exact⟨x,by simpa using a,b⟩
section
variable{X:Cx}{d:List (af×Obj)}{c:St}{H:Hp}{s:ao}
theorem Inv.mapKept{i:ay}{l:Nat}{m:Str->Option ah}(I:Inv X d c H s)(t:s.heap.Ns X.env.locals m)(f:i.Ns X.env.locals m)(k:∀b o,b≠X.env.locals->s.heap.get? b=aa o->i.get? b=aa o):Inv X d c H {s with heap:=i,toks:=l}:=by
 refine I.step (g':=s.gens) (d':=s.drawn) (ch:=[]) (λ_ z=>nomatch z) (λb o h _ _ e _=>k b o h e) (λb o h _ _ e _=>⟨o.slots,k b o h e⟩) (λ_ _ _ _ n=>n) (λb o _ e=>?_) (λ_ _ e=>e) (λ_ _ _ e=>e) (λ_ _ e=>e) (λq w=>?_) (λa u e=>?_) I.bare
 .by_cases j:b=X.env.locals
  .subst j;obtain⟨p,_,_,x,_⟩:=f;exact⟨p,x⟩
  .exact⟨o,k b o j e⟩
 .have:q=m:=w.eq_nsMap.trans t.eq_nsMap.symm;rw[this];exact f
 .refine(I.hok a u e).stay (λb v g r=>k b v ?_ r) (λ_ r=>r) λ_ _ r=>r;rintro rfl;have:=I.free;rcases g with rfl|g
  .rw[e]at this;cases this
  .rw[g]at this;cases this
end
end L2
namespace Pu
open L2
structure xn(K:au)(mg:Str->Option ah)(x:Str)(c T:af):Prop where
 tab:jd K x=aa (c,T)
 hd:uT K c T=ai
 code:∀f fd oc od osl,mg x=aa (.ref f)->K.lookup f=aa ⟨oc,od,.func fd,osl⟩->fd.code=.ref c
theorem Ia{K:au}{h:ay}{b:Str->Option ah}{x:Str}{c T:af}(X:K.In h)(G:h.Ns bV b)(a:jd K x=aa (c,T))(l:uT K c T=ai):xn K b x c T:=by
 refine⟨a,l,λf o oc n g i j=>?_⟩;unfold jd at a;split at a
 .rename_i p e;have d:=lO X G e;rw[i]at d;cases d;rw[j]at a;dsimp only at a;split at a
  .rename_i q m;split at a
   .split at a
    .cases a;exact m
    .cases a
   .cases a
  .cases a
 .cases a
theorem Jg{y:eK}{P:aK}{w:aD}{K:au}{m:Str->Option ah}{b:ay}{x:Str}{j:a8}{N l:List Str}{k n:Nat}{d:ak->R aR}{pin:List Nat}(Y:∃c T,xn K m x c T)(M:x∈qP)(D:cF K m x j)(X:cr N l (a6 j))(Q:N.length=l.length+n)(C:∀(kV v F:ah) (W:Option af) (o S:ah) (q:List ah),q.length=l.length->eF (ir x x (iG j) (fi j) (a6 j) .none kV v F W o S) ⟨q,[]⟩=pure (l.zip q))(J:∀(f:af) (o:ah) (c T:af) (A:aM) (a:List Env) (s:ao) (H:Hp) (E:XK),Room k (A.deeper (ip x (a6 j) s.heap.objs.size f o))->tz (gv y P w K m b N x (a6 j) f o A a s H E) x c T->gq (gv y P w K m b N x (a6 j) f o A a s H E) E pin (fi j) d):cG y P w K m b x (k+1) l (bP K (bC l.length pin (bE n d))):=by
 have no:∀{g},bC l.length pin (bE n d) g≠.no->g.length=l.length/\eB pin 0 g=ai:=λ{g} h=>by
  unfold bC at h;by_cases z:g.length=l.length/\eB pin 0 g=ai
  .exact z
  .rw[if_neg z]at h;exact absurd rfl h
 obtain⟨f,u,B,p⟩:=D.ex;obtain⟨c,T,L⟩:=Y;refine⟨f,u,B,yR p X Q C (λg h=>(no h).1) (λg h i r e=>by have:=(mh (no h).2 i r e).1;rwa[rz]at this) (λg Z aE h=>.inr λi r e=>(mh (no (by rw[h];exact nofun)).2 i r e).2) (λg h=>by unfold bC;rw[if_pos (no h)]) λA a s H E O=>?_,p.binds C,p.kp⟩;obtain⟨oc,G,_,_,_,_,_,_,t,_,I,_⟩:=p.ex;exact J f u.code c T A a s H E O ⟨M,L.tab,L.hd,L.code f u oc G t B I⟩
end Pu
theorem L2.Room.d1{k:Nat}{A:PySem.Around}(r:L2.Room k A):A.depth+1<PySem.recursionLimit:=by have:=r.dp;lia
namespace L2
open Mx
section
variable{P:aK}{w:aD}{A:aM}{E:ah->ao->Prop}{s:ao}
structure Keyd(P:aK)(w:aD)(K:Type)[DecidableEq K] where
 is:ay->K->ah->Prop
 hash:K->Int
 room:aM->Prop
 keep:∀{h h':ay}{k:K}{v:ah},is h k v->(∀b o,h.get? b=aa o->o.cls=.type "tuple"->h'.get? b=aa o)->is h' k v
 ref:∀{h:ay}{k:K}{v:ah},is h k v->∃a o,v=.ref a/\h.get? a=aa o
 eqBool:∀{A:aM}{E:ah->ao->Prop}{s:ao}{x y:K}{u v:ah}{Q:Bool->ao->Prop},room A->is s.heap x u->is s.heap y v->Q (decide (x=y)) s->aq (ar P w) A (PySem.eqBool u v) Q E s
 quiet:∀{A:aM}{E:ah->ao->Prop}{s:ao}{k:K}{v:ah}{Q:Bool->ao->Prop},is s.heap k v->Q ai s->aq (ar P w) A (rD 8 v) Q E s
 cls:∀{A:aM}{E:ah->ao->Prop}{s:ao}{k:K}{v:ah}{Q:Bool->ao->Prop},is s.heap k v->Q aj s->aq (ar P w) A (ofAClassStatement 8 v) Q E s
 hbv:∀{A:aM}{E:ah->ao->Prop}{s:ao}{k:K}{v:ah}{Q:Bool->ao->Prop},is s.heap k v->Q aj s->aq (ar P w) A (hashByValue 8 v) Q E s
variable{K:Type}[DecidableEq K]{c:Keyd P w K}
end
section
variable{P:aK}{w:aD}{A:aM}{E:ah->ao->Prop}{s:ao}
theorem tupTy{a:af}{b:Array ah}(h:IsTup s.heap a b):s.TypeIs (.ref a) "tuple":=let ⟨o,ho,hc,_⟩:=h;⟨o,ho,hc⟩
theorem quiet_tup{n:Nat}{a:af}{b:Array ah}{Q:Bool->ao->Prop}(j:IsTup s.heap a b)(q:∀v∈b.toList,∀(E:ah->ao->Prop) (Q:Bool->ao->Prop),Q ai s->aq (ar P w) A (rD n v) Q E s)(h:Q ai s):aq (ar P w) A (rD (n+1) (.ref a)) Q E s:=by
 have g:=tupTy j;obtain⟨o,p,_,m,t⟩:=j;unfold rD;refine ap (uS g F.slot_tuple_eq.lookup ?_);show aq _ _ (isInstance (.ref a) (.type "tuple") >>= _) _ _ s;refine ap (Co g isSubtype_tuple_tuple ?_);simp only[Bool.not_true,jS,if_false];refine ap (u9 p t ?_);refine ap ?_;show aq _ _ (forIn b _ _) _ _ s;rw[<-Array.forIn_toList];refine yh _ (λrest r c=>r.1=ae/\c=s/\∀v∈rest,v∈b.toList) _ ?_ ?_ _ _ ⟨rfl,rfl,λv l=>l⟩
 .rintro v rest r c ⟨f,rfl,i⟩;refine ap (q v (i v je) _ _ ?_);simp only[Bool.not_true,jS,if_false];exact aC ⟨rfl,rfl,λu d=>i u (iO _ d)⟩
 .rintro⟨y,x⟩ c ⟨f,rfl,_⟩;simp only at f;subst f;exact aC h
theorem tup_uniq{h:ay}{a:af}{x y:Array ah}(g:IsTup h a x)(f:IsTup h a y):x=y:=by
 obtain⟨o,e,_,n,d⟩:=g;obtain⟨i,b,_,j,c⟩:=f;rw[e]at b;cases b;rw[d]at c;cases c;rfl
theorem strs_uniq:∀{a:List ah}{x y:List Str},c7 a x->c7 a y->x=y
 |_,_,_,.nil,.nil=>rfl
 |_,_,_,.cons z t h,.cons _ _ b=>by rw[strs_uniq h b]
theorem all_getD{a b:List Str}:((cm (min a.length b.length)).all (λj=>a.getD j fu == b.getD j fu)&&a.length == b.length)=decide (a=b):=by
 rw[jN,eU,kR,decide_eq_true_iff,beq_iff_eq];constructor
 .rintro⟨g,f⟩;refine List.ext_getElem f λi d c=>?_;have:=g i (xI.mpr ∅);rw[beq_iff_eq]at this;simpa[d,c]using this
 .rintro rfl;exact⟨λx _=>by simp,rfl⟩
theorem strs_len{a:List ah}{b:List Str}(h:c7 a b):a.length=b.length:=h.length
theorem eq_strs{b h:af}{c a:Array ah}{i d:List Str}(u:A.units<cLine)(o:IsTup s.heap b c)(f:c7 c.toList i)(p:IsTup s.heap h a)(g:c7 a.toList d):re A s (.ref b) (.ref h) (decide (i=d)):=by
 by_cases n:b=h
 .subst n;obtain rfl:=tup_uniq o p;obtain rfl:=strs_uniq f g;rw[decide_eq_true rfl];exact .same _
 .have m:=strs_len f;have l:=strs_len g;rw[kF]at m l;rw[<-all_getD,<-m,<-l];refine .of_refs n (.tuples o p u λj r q=>?_);obtain⟨t,e⟩:=t4 j c[j] f (by simp[r]);obtain⟨x,v⟩:=t4 j a[j] g (by simp[q]);rw[e,v];exact Ca _ _ _ _
theorem tup_kept{h d:ay}{a:af}{x:Array ah}(f:IsTup h a x)(k:∀b o,h.get? b=aa o->o.cls=.type "tuple"->d.get? b=aa o):IsTup d a x:=by obtain⟨o,e,c,r⟩:=f;exact⟨o,k a o e c,c,r⟩
theorem strs_mem_shape{a:List ah}{b:List Str}(h:c7 a b):∀v∈a,∃z t,v=Value.str z t:=λv c=>h.all v c
end
section
open PySem.SeqAt
open PySem.AutoSeq1 (wpAny_loadPart')
open PySem.MeetsSeq PySem.MeetsSeq2 PySem.MeetsSeq3
end
end L2
namespace Pu
open L2
abbrev Lk:=List bH
end Pu
namespace L2
theorem Hd{P:aK}{w:aD}{A:aM}{E:ah->ao->Prop}{s:ao}{t b:af}{f:List ah}{Q:ah->ao->Prop}(v:IsTup s.heap t #[])(x:IsTup s.heap b f.toArray)(h:Q (.ref b) s):aq (ar P w) A (gg .Add (.ref t) (.ref b)) Q E s:=by
 obtain⟨⟨z,y,p,r⟩,i,l,n,j⟩:=id v;obtain⟨⟨q,c,d,a⟩,o,m,u,g⟩:=id x;simp only at l j m g;subst l j m g;exact concat_meets ⟨_,i,rfl⟩ ⟨_,o,rfl⟩ B5 seq_tuple_add B6 B7 (B8 _ _)
  (tuple_addW0 t b #[] f.toArray n u y c r a rfl) ⟨i,o,h⟩
def xi(K:au):R2:=λx y H Q=>∃a b c,x=.ref a/\y=.ref b/\bQ K H a []/\bQ K H b c/\Q (.ref b) H
theorem Ly{X:Cx}:bz X (gg .Add) (xi X.K):=by
 intro t s o H x y v u Q I f d h;obtain⟨a,b,p,rfl,rfl,n,m,q⟩:=h;cases f;cases d;obtain⟨l,g,j,_⟩:=I.tuple n;obtain⟨c,r,i,_⟩:=I.tuple m;cases g;exact Hd j i ⟨.ref b,H,I,rfl,q⟩
end L2
namespace Pu
open L2
theorem y_{X:Cx}:bz X (gg .Add) (λx y H Q=>xi X.K x y H Q\/tD X.K x y H Q):=Ly.or eN
end Pu
namespace L2
section
variable{P:aK}{w:aD}{A:aM}{E:ah->ao->Prop}{s:ao}
theorem Ih{h:ay}{o:Obj}{l:af}{a:Array ah}(x:h.IsTuple l a):(h.push o).IsTuple l a:=let ⟨ob,e,r⟩:=x;⟨ob,bd _ e,r⟩
set_option maxRecDepth 100000 in
theorem G2{l:af}{a:Array ah}{Q:ah->ao->Prop}(hh:A.handled=ae)(hl:s.heap.IsTuple l a){J:Nat->ay->Prop}(hJ:∀i h d,J i h->(∀b o,b<=s.heap.objs.size->h.get? b=aa o->d.get? b=aa o)->J i d) (W:J 0 (s.heap.push {cls:=.type "set",dict:=ae,data:=.set #[] 0 (.fresh 0 0 (!cJ w))}))(iW:∀(i:Nat) (v:ah) (f:ao) (E:ah->ao->Prop) (Q:Bool->ao->Prop),i<a.size->a[i]?=aa v->J i f.heap->(∀d m b,f.toks<=m->jf s.heap.objs.size f.heap d->J (i+1) d->Q b {f with heap:=d,toks:=m})->aq (ar P w) A.in1.in1.in1 (setAdd s.heap.objs.size v) Q E f)(h:∀(d:ay) (m:Nat),J a.size d->(∀b o,b<s.heap.objs.size->s.heap.get? b=aa o->d.get? b=aa o)->Q (.ref s.heap.objs.size) {s with heap:=d,toks:=m}):aq (ar P w) A (call (.type "set") [.ref l]) Q E s:=by
 obtain⟨c,tl,hmro⟩:=F.called_set.mro;have L:=F.called_set.made;have jX:=F.called_set.sub;refine wpAny_call (codeAny_of_tree ?_);show aq _ _ (callAny (.type "set") _) _ _ _;refine aC ⟨Code.quiet_builtin _ (by decide +kernel),lM F.entry_type_call ?_⟩;rw[Around.under_plain (weight_type_call_type "set" [.ref l] []) rfl];have h1:=F.called_set.notType;have h2:=F.called_set.canCreate;have hct:=PySem.F.typeCall_set_1 (.ref l)
 repeat any_goals (first|assumption|wp_step)
 refine uL (FV (P:=P) (w:=w) (.ref l) (E:=E) (Q:=λp f=>p=.ref s.heap.objs.size/\f={s with heap:=s.heap.push {cls:=.type "set",dict:=ae,data:=.set #[] 0 (.fresh 0 0 (!cJ w))}}/\True) λS0=>⟨rfl,rfl,trivial⟩) λr f K=>?_;cases r with
 |error e=>exact K
 |ok fl=>
  cases fl with
  |ret p=>
   obtain⟨rfl,rfl,S0⟩:=K;have hS:=cg (h:=s.heap) (o:=({cls:=.type "set",dict:=ae,data:=.set #[] 0 (.fresh 0 0 (!cJ w))}:Obj));have S:(s.heap.push {cls:=.type "set",dict:=ae,data:=.set #[] 0 (.fresh 0 0 (!cJ w))}).get? s.heap.objs.size=aa {cls:=.type "set",dict:=ae,data:=.set #[] 0 (.fresh 0 0 (!cJ w))}:=cg _ rfl;have hT:Shared.TypeIs {s with heap:=s.heap.push {cls:=.type "set",dict:=ae,data:=.set #[] 0 (.fresh 0 0 (!cJ w))}} (.ref s.heap.objs.size) "set":=⟨_,S,rfl⟩
   have hli:=F.called_set.init.lookup;have hbi:=F.called_set.init.bind (.ref s.heap.objs.size)
   repeat any_goals (first|assumption|wp_step)
   refine uL (codeAny_call_builtin (R:=wants (λr Y=>r=.none/\∃d m,Y={s with heap:=d,toks:=m}/\J a.size d /\ (∀b o,b<s.heap.objs.size->s.heap.get? b=aa o->d.get? b=aa o)) E) F.called_set.init.plain F.entry_set_init (check_set_init_1 hT ?_)) λr2 Y D=>?_
   .obtain⟨⟨ocls,n,H,g⟩,t,lV,nl,y⟩:=hl;simp only at lV y;subst lV;subst y;have q:(s.heap.push {cls:=.type "set",dict:=ae,data:=.set #[] 0 (.fresh 0 0 (!cJ w))}).get? l=aa {cls:=.type "tuple",dict:=n,data:=.seq a nl,slots:=g}:=bd _ t;have hsls:=PySem.F.sub_tuple_set;have hslf:=PySem.F.sub_tuple_frozenset;have cB:(Value.type "tuple" == Value.type "dict")=aj:=by decide
    have Z:(s.heap.push {cls:=.type "set",dict:=ae,data:=.set #[] 0 (.fresh 0 0 (!cJ w))}).IsTuple l a:=⟨_,q,rfl,nl,rfl⟩
    unfold Builtin.«set.__init__» noKeywords Builtin.Frozenset.updateFrom;generalize T:kH=PI
    wp_walk
    subst T;refine wpAny_pyIter_tuple Z (ap (wpAny_runValue ?_));have x:l<s.heap.objs.size:=bw t;have N:A.in1.in1.in1.handled=ae:=by simp[hh]
    have j:(s.heap.push {cls:=.type "set",dict:=ae,data:=.set #[] 0 (.fresh 0 0 (!cJ w))}).objs.size=s.heap.objs.size+1:=xV ..;have u:l≠(s.heap.push {cls:=.type "set",dict:=ae,data:=.set #[] 0 (.fresh 0 0 (!cJ w))}).objs.size:=by rw[j];exact cD (jU x)
    have O:s.heap.objs.size∉[(s.heap.push {cls:=.type "set",dict:=ae,data:=.set #[] 0 (.fresh 0 0 (!cJ w))}).objs.size,l]:=by rw[j];simp only[bF,eV,iT,or_false,not_or];exact⟨cD (lN _),lG x⟩
    refine Fl ((Walks.tuple N _ l u a).toS) s.heap.objs.size O (λi h d M k=>hJ i h d M λb o B e=>k b o (by rw[j];simp only[eV];exact cD (Nat.lt_succ_of_le B)) e) (λi v f E Q hi hv M hq=>iW i v f E Q hi hv M hq) (a.size-0) 0 _ ∅ (kM _)
     ⟨⟨_,cg _ rfl,rfl,rfl⟩,(Ih Z)⟩ (hJ 0 _ _ W λb o _ e=>bd _ e) ?_
    intro s' z I;obtain⟨d,g',d',C,G⟩:=s';obtain rfl:g'=s.gens:=z.gens;obtain rfl:d'=s.drawn:=z.drawn;obtain rfl:G=s.os:=z.os;show aq _ _ _ _ _ _;refine aC ?_;show aq _ _ (ret Value.none) _ _ _;refine aC ⟨rfl,d,C,rfl,I,λb o B e=>z.heap b o ?_ (bd _ (bd _ e))⟩;rw[j];simp only[bF,eV,iT,or_false,not_or];exact⟨cD B,cD (jU B)⟩
   .cases r2 with
    |error e=>exact D
    |ok X=>
     cases X with
     |ret r=>
      obtain⟨rfl,d,m,rfl,I,l5⟩:=D
      repeat any_goals (first|assumption|wp_step)
      exact h _ _ I l5
     |_=>exact D.elim
  |_=>exact K.elim
theorem Gq{l:af}{a:Array ah}{c:List Str}{Q:ah->ao->Prop}(x:A.handled=ae)(r:s.heap.IsTuple l a)(u:c7 a.toList c)(z:(met (λi=>c.getD i fu) a.size).length<4000)(h:∀(d:ay) (j:Nat),iN P w d s.heap.objs.size (met (λi=>c.getD i fu) a.size)->(∀b o,b<s.heap.objs.size->s.heap.get? b=aa o->d.get? b=aa o)->Q (.ref s.heap.objs.size) {s with heap:=d,toks:=j}):aq (ar P w) A (call (.type "set") [.ref l]) Q E s:=by
 refine G2 x r (J:=λi h=>iN P w h s.heap.objs.size (met (λi=>c.getD i fu) i)) (λi h d S k=>S.at λo e=>k _ o (aY _) e)
  ⟨#[],0,_,[],cg _ rfl,.nil,pf _,λe y=>by simp at y,by decide,rfl,rfl,λh=>absurd rfl h⟩ (λi v f E Q m p S q=>?_) h
 obtain⟨t,rfl⟩:=t4 i v u (by rw[yf];exact p);unfold setAdd;refine io ?_;have B:(g7 P w).is (c.getD i fu) (.str (c.getD i fu) t)=ai:=by show oW _ (.str _ t)=ai;simp[oW]
 refine ap ((g7 P w).pyHash (k:=c.getD i fu) B ?_);refine Ej (s:={f with toks:=f.toks+1}) S (xU (zY _ (kC m)) z) λd b n g=>?_;rw[<-AW (λi=>c.getD i fu)]at g;exact q d _ b (rh _) n g
end
section
variable{X:Cx}
theorem JW(A:X.calm=ai):fY X (.type "set") (λg H Q=>∃(p:af) (c:List Tx),g=[.ref p]/\bQ X.K H p (bA c)/\(b9 c).length<4000/\∀a,H a=ae->Q (.ref a) (upd H a (me X a (b9 c)))):=by
 intro M s C H g D Q I r h;obtain⟨p,c,rfl,y,f,q⟩:=h;obtain⟨u,rfl,m⟩:=vals1 r;cases m;obtain⟨d,i,x,F⟩:=I.tuple y;have z:=i.length;rw[w_]at z;refine Gq (P:=X.prog) (w:=X.w) (I.ok.hd A) x (by simpa using vz i) (by rw[bM,show d.length=c.length by lia,y9,eT];exact f) λB l S k=>?_;have j:iN X.prog X.w B s.heap.objs.size ((b9 c).map tS):=by
  have e:d.toArray.size=c.length:=by rw[bM];lia
  rw[e,y9]at S;exact S
 refine⟨.ref s.heap.objs.size,_,I.laid (t':=l) (o:=me X s.heap.objs.size (b9 c)) (λb o e=>k b o (bw e) e) (aY _) ?_,rfl,q _ I.fresh⟩;obtain⟨K,L,t,E,e,_⟩:=j.ex;exact⟨j,⟨_,e⟩,λJ G v n=>v.at n⟩
end
end L2
namespace Pu
open L2
section
variable{X:Cx}{E:XK}{e:az}{g:ak->R (List PV)}{p q f d:Pos}
def mL:List PV->Option PO
 |[.tup b]=>(dZ b).bind λa=>if(b9 a).length<4000 then aa (.lst (am (aO (b9 a))))else ae
 |_=>ae
def EQ(X:Cx)(r:List V->Hp->VK->Prop):List V->Hp->VK->Prop:=λc H Q=>∃(p:af) (b:List Tx),c=[.ref p]/\bQ X.K H p (bA b)/\(b9 b).length<4000/\∀a,H a=ae->r [.ref a] (upd H a (me X a (b9 b))) Q
theorem Es:km X.K (EQ X (Ew X)) mL:=λF H G I Q K C t e q=>by
 unfold mL at e;split at e
 .obtain⟨v,rfl,a,J,rfl,B,r⟩:=gu t;obtain⟨i,D,m⟩:=Option.bind_eq_some_iff.mp e;rw[nN D]at r;obtain⟨rfl,y⟩:=Lh.mp r;split at m
  .rename_i s;cases m;refine⟨a,i,rfl,bQ.of B,s,λb A=>⟨b,b9 i,rfl,cI,s,λl h=>?_⟩⟩;have j:l≠b:=by rintro rfl;rw[cI]at h;cases h
   have n:H l=ae:=by rw[b7 j]at h;exact h
   have al:Al F F H (upd (upd H b (me X b (b9 i))) l (.lst (bA (aO (b9 i))))):=(Al.new0 A).trans (Al.new0 h);refine q l F _ (λc=>c=l) al ⟨⟨_,cI,Lh.mpr ⟨rfl,λx u=>y x ((lp _ _).mp ((et _).mem_iff.mp u))⟩⟩,λc=>Iff.rfl⟩ λc z=>?_;subst z;exact⟨n,λz=>Exists.elim (C _ z) (λo w=>by rw[n]at w;cases w),_,cI,trivial⟩
  .cases m
 .cases e
theorem D7(c:X.calm=ai)(m:DA X E [e] g)(j:X.mg "sorted"=ae)(a:X.mg "set"=ae)(l:Gl X "sorted":=by rfl)(b:Gl X "set":=by rfl)(h:lw e=aj:=by rfl):DN X E (.Call (.Name "sorted" p) [.Call (.Name "set" q) [e] [] d] [] f) (dL mL g):=λF S r o H Q i n=>bW (qR (GE c) l j lq (gU (wZ (JW c) b a Gh fN (by decide) (by decide) (ka h) rfl) i5 (ka rfl)) (by decide) (by decide) (ka rfl) rfl) (tQ Es m i n)
end
end Pu
namespace L2
open Mx
section
variable{P:aK}{w:aD}{A:aM}{E:ah->ao->Prop}{s:ao}
def qN(P:aK)(w:aD)(A:aM)(h:ay)(v:ah)(x:Int)(d:Nat):Prop :=
 ∀(s:ao) (E:ah->ao->Prop) (Q:Int->ao->Prop),s.heap=h->Q x {s with toks:=s.toks+d}->aq (ar P w) A (pyHash v) Q E s
theorem zO{h:ay}{a:af}{f:Array ah}{hs:List (ah×Int×Nat)}(t:A.units<cLine)(r:IsTup h a f)(v:f.toList=hs.map (·.1))(y:∀p∈hs,qN P w A.in1 h p.1 p.2.1 p.2.2):qN P w A h (.ref a) (oX (jL (hs.map (·.2.1)))) ((hs.map (·.2.2)).sum+1):=λs E Q B g=>by
 subst B;have j:s.TypeIs (.ref a) "tuple":=tupTy r;obtain⟨o,u,_,n,z⟩:=r;unfold pyHash
 first|unfold pyHashByItsType|skip
 first|refine ap (wpAny_cRoomFor_or (.inr t) ?_)|skip
 refine ap (uS j F.slot_tuple_hash.lookup ?_);show aq _ _ (if(aa (Value.builtin "tuple.__hash__") == aa Value.none)=ai then _ else _) Q E _;rw[if_neg (by rw[beq_builtin_none];exact d4)];refine ap (uS j F.slot_tuple_hash.lookup ?_);show aq _ _ (callSpecialIfBoundUnlessNone? (.ref a) "__hash__" _ >>= _) Q E _;refine ap (wpAny_callSpecialIfBoundUnlessNone?_slot j K3 (q_ K3 j F.entry_tuple_hash ?_ (F.args_tuple_hash_1 _)));show aq _ _ (Builtin.Tuple.tupleItemsOf (.ref a) >>= _) _ _ _;refine ap (wpAny_tupleItemsOf u z ?_);refine ap ?_;rw[<-Array.forIn_toList,v];refine yh _
  (λrest (b:Array Int) q=>∃c d,hs=c++d/\rest=d.map (·.1)/\b.toList=c.map (·.2.1)/\q={s with toks:=s.toks+(c.map (·.2.2)).sum})
  _ ?_ ?_ _ _ ⟨[],hs,rfl,rfl,rfl,rfl⟩
 .rintro x rest b q ⟨c,d,rfl,i,m,rfl⟩;cases d with
  |nil=>cases i
  |cons p d=>
   rw[ji]at i;injection i with h1 h2;subst h1 h2;refine ap (y p (by simp) _ _ _ rfl ?_)
   first
    |exact aC ⟨c++[p],d,by simp,rfl,by simp[m],by simp[nk]⟩
    |exact ap (aC (aC ⟨c++[p],d,by simp,rfl,by simp[m],by simp[nk]⟩))
 .rintro b q ⟨c,d,rfl,i,m,rfl⟩;have:d=[]:=by cases d with|nil=>rfl|cons=>cases i
  subst this;rw[iQ]at g;show aq _ _ (retInt (jL b.toList)) _ _ _;rw[m];refine wpAny_ret_mkInt ?_;show aq _ _ (if(decide (-(2:Int)^63<=jL (c.map (·.2.1)))&&decide (jL (c.map (·.2.1))<2^63))=ai then _ else _) Q E _;unfold oX at g;by_cases l:(decide (-(2:Int)^63<=jL (c.map (·.2.1)))&&decide (jL (c.map (·.2.1))<2^63))=ai
  .rw[if_pos l];rw[if_pos l]at g;exact aC (by simpa[nk]using g)
  .rw[if_neg l];rw[if_neg l]at g;exact ap (kN (aC (by simpa[nk]using g)))
theorem y0{h:ay}(z:Str)(t:Tok):qN P w A h (.str z t) (jK w z) 1:=λs E Q _ a=>(g7 P w).pyHash (s:=s) (k:=z) (by show oW z (.str z t)=ai;simp[oW]) a
def qe(h:ay)(k:Str×List Str)(a:af):Prop:=∃(b:af) (t:Tok) (c:Array ah),IsTup h a #[.str k.1 t,.ref b]/\IsTup h b c/\c7 c.toList k.2
theorem qe.inj{h:ay}{k d:Str×List Str}{a:af}(x:qe h k a)(y:qe h d a):k=d:=by obtain⟨b,t,g,l,j,i⟩:=x;obtain⟨q,p,f,n,o,c⟩:=y;have:=congrArg Array.toList (tup_uniq l n);simp at this;obtain⟨⟨m,_⟩,rfl⟩:=this;obtain rfl:=tup_uniq j o;exact Prod.ext m (strs_uniq i c)
theorem JZ{h:ay}{c:List ah}{b:List Str}(x:c7 c b):∃hs:List (ah×Int×Nat),c=hs.map (·.1)/\hs.map (·.2.1)=b.map (jK w)/\(hs.map (·.2.2)).sum=b.length/\∀p∈hs,qN P w A h p.1 p.2.1 p.2.2:=by
 induction x with
 |nil=>exact⟨[],rfl,rfl,rfl,λp a=>by simp at a⟩
 |cons z t _ d=>
  obtain⟨hs,j,i,g,f⟩:=d;refine⟨(.str z t,jK w z,1)::hs,by rw[j];rfl,by rw[ji,i];rfl,by simp[g];lia,λp a=>?_⟩;rcases bF.mp a with rfl|a
  .exact y0 z t
  .exact f p a
theorem AK{h b:ay}{a d:af}{x:Array ah}{o:Obj}{es ep}(g:IsTup h a x)(i:h.get? d=aa o)(j:o.data=.dict es ep)(hs:jf d h b):IsTup b a x:=by
 obtain⟨f,e,c,n,r⟩:=g;have l:a≠d:=by
  rintro rfl;rw[i]at e;cases e;rw[j]at r;cases r
 exact⟨f,(hs.2 a l).trans e,c,n,r⟩
def Ds(P:aK)(w:aD):HeapKind P w (Str×List Str) where
 is:=qe
 hash:=zb w
 draws:=λk=>k.2.length+3
 room:=λA=>A.units+4<cLine
 inj:=λx y=>x.inj y
 keeps:=λ⟨b,t,c,l,i,g⟩ F G hs=>⟨b,t,c,AK l F G hs,AK i F G hs,g⟩
 pyHash:=λ{A E s k a Q} M x N=>by
  obtain⟨b,t,c,l,i,g⟩:=x;obtain⟨hs,L,K,J,I⟩:=JZ (P:=P) (w:=w) (A:=A.in1.in1) (h:=s.heap) g;have f:qN P w A.in1 s.heap (.ref b) (oX (jL (k.2.map (jK w)))) (k.2.length+1):=by have:=zO (P:=P) (w:=w) (A:=A.in1) (show A.units+1<cLine by lia) i L I;rw[K,J]at this;exact this
  have d:=zO (P:=P) (w:=w) (A:=A) (hs:=[(.str k.1 t,jK w k.1,1),(.ref b,oX (jL (k.2.map (jK w))),k.2.length+1)]) ∅ l rfl λp D=>by
   simp only[bF,iT,or_false]at D;rcases D with rfl|rfl
   .exact y0 _ _
   .exact f
  refine d s E Q rfl ?_;have O:([((Value.str k.1 t,jK w k.1,1):ah×Int×Nat),(.ref b,oX (jL (k.2.map (jK w))),k.2.length+1)].map (·.2.2)).sum+1=k.2.length+3:=by simp;lia
  rw[O];exact N
 eqBool:=λ{A E s x y a X Q} M C B q=>by
  by_cases m:a=X
  .subst m;obtain rfl:=C.inj B;rw[decide_eq_true rfl]at q;exact SeqAt.EqAt.same _ _ _ _ _ q
  .obtain⟨b,t,c,l,i,g⟩:=C;obtain⟨b',t',u,T,W,r⟩:=B;have S:decide (x=y)=((cm (min 2 2)).all (λj=>if j=0 then x.1 == y.1 else decide (x.2=y.2))&&2 == 2):=by obtain⟨x1,x2⟩:=x;obtain⟨Z,Y⟩:=y;rw[jN];simp[pe]
   rw[S]at q;refine SeqAt.EqAt.of_refs m (.tuples l T ∅ λj H j2=>?_) _ _ _ _ q
   match j,H with
   |0,_=>exact Ca _ _ _ _
   |1,_=>exact eq_strs (show A.units+1<cLine by lia) i g W r
 quiet:=λ⟨b,t,c,l,i,g⟩ q=>by
  refine quiet_tup (n:=7) l (λv o E Q q=>?_) q;simp only[bF,iT,or_false]at o;rcases o with rfl|rfl
  .exact u6 (by unfold rD;rfl) q
  .refine quiet_tup (n:=6) i (λv o E Q q=>?_) q;obtain⟨z,t,rfl⟩:=strs_mem_shape g v o;exact u6 (by unfold rD;rfl) q
abbrev KN(H:Hp):List ((Str×List Str)×V)->List ((Str×List Str)×af×ah)->Prop:=jc λp q=>p.1=q.1/\ml H p.1 q.2.1/\RelV p.2 q.2.2
theorem KN.val{H:Hp}{a:List ((Str×List Str)×V)}{b:List ((Str×List Str)×af×ah)}(r:KN H a b)(k:Str×List Str):oU (ii a k) ((atKey b k).map (·.2)):=by
 induction r with
 |nil=>exact True.intro
 |@cons p q ps qs h t ih=>
  obtain⟨c,_,d⟩:=h;by_cases e:p.1=k
  .rw[A2 e,show atKey (q::qs) k=aa q.2 by simp[atKey,rj,c.symm.trans e]];exact d
  .have f:¬q.1=k:=λz=>e (c.trans z);rw[Aa e,show atKey (q::qs) k=atKey qs k by simp[atKey,rj,f]];exact ih
theorem zG:∀{ks:List Str}{a:List ah},bh (ks.map V.str) a->c7 a ks
 |[],_,r=>by rw[List.map_nil]at r;cases r;exact .nil
 |k::ks,_,r=>by
  rw[ji]at r;cases r with
  |cons h t=>obtain⟨b,rfl⟩:=h;exact .cons _ _ (zG t)
theorem tE{H:Hp}{h:ay}{k:Str×List Str}{a:af}(ok:cT P w H h)(e:ml H k a):qe h k a:=by
 obtain⟨b,n,m⟩:=e;obtain⟨_,o,c,f,_⟩:=ok a _ n;obtain⟨_,i,g,d,_⟩:=ok b _ m;cases c with
 |cons l c=>cases c with
  |cons j c=>
   cases c;obtain⟨t,rfl⟩:=l;cases (show _=Value.ref b from j);exact⟨b,t,i.toArray,f,d,by simpa using zG g⟩
theorem w6{H:Hp}{h:ay}{a:af}{b:List ((Str×List Str)×V)}(ok:cT P w H h)(e:H a=aa (.dN b)):b.length<=a9/\(a == oY)=aj/\∃d,KN H b d/\h.DictOfH (Ds P w) a d:=by
 obtain⟨z,y,d,r,o,u,v,n,j,i,g,f⟩:=ok a _ e;refine⟨z,y,d,r,o,u,v,n,j,i,g,λx c=>?_,f⟩;have all:∀{l:List ((Str×List Str)×V)}{m:List ((Str×List Str)×af×ah)},KN H l m->∀x∈m,qe h x.1 x.2.1:=by
  intro l m q
  induction q with
  |nil=>intro x c;exact nomatch c
  |@cons p q ps qs hq t ih=>
   intro x c;rcases bF.mp c with e|c
   .subst e;exact tE ok (by rw[<-hq.1];exact hq.2.1)
   .exact ih x c
 exact all r x c
end
def HN(g ty:TE):TE:=λf H Q=>g f H λx h=>ty f h λy d=>∃a b c k v,x=.ref a/\y=.ref b/\d a=aa (.dN c)/\ml d k b/\ii c k=aa v/\Q v d
def Fy(d:Bool)(ty h:TE):TE:=λg H Q=>ty g H λy i=>h g i λx f=>∃a b c k,x=.ref a/\y=.ref b/\f a=aa (.dN c)/\ml f k b/\Q (.bl (d^^(ii c k).isSome)) f
def E2(h ty g:TE):TS:=λD d H=>g d H λv j=>h d j λx i=>ty d i λy f=>∃a b c k,x=.ref a/\y=.ref b/\f a=aa (.dN c)/\ml f k b/\ii c k=ae/\c.length<a9/\D.nx d (upd f a (.dN (c++[(k,v)])))
section
variable{X:Cx}{o i e d:az}{f g n:Pos}{l j m:TE}
theorem E1(hu:X.A.units+8<cLine)(P:PE X o l)(T:PE X i j)(N:wp i):PE X (.Subscript o i f) (HN l j):=by intro A s t H Q I h;refine J3 PySem.F.slot_dict_getitem.lookup N (aL (P A s t H _ I h) λu C ⟨x,H1,I1,E,G⟩=>aL (T A C t H1 _ I1 G) λK s2 ⟨y,H2,r,D,a,b,J,k,v,Z,Y,e,S,M,F⟩=>?_);subst Z Y;obtain rfl:u=Value.ref a:=E;obtain rfl:K=Value.ref b:=D;obtain⟨z,hd,B,q,w⟩:=w6 r.hok e;obtain⟨w',L,c⟩:=oU.some_of (v:=v) (o:=(atKey B k).map (·.2)) (by rw[<-M];exact q.val k);obtain⟨p,O,W⟩:=pB.mp L;refine⟨w.typeIs,wpAny_getItem_heap (show X.A.in1.units+4<cLine from(show X.A.units+1+4<cLine by lia)) (tE r.hok S) w O ?_⟩;rw[W];exact⟨v,H2,r.tok _,c,F⟩
theorem F6(Y:X.A.units+8<cLine)(J:PE X i j)(F:PE X o l):PC X .NotIn i o (Fy ai j l):=by intro w s t H Q I h;refine aL (J w s t H _ I h) λE A ⟨y,S,O,B,D⟩=>aL (F w A t S _ O D) λu W ⟨x,P,r,C,a,b,p,k,M,L,e,G,v⟩=>?_;subst M L;obtain rfl:u=Value.ref a:=C;obtain rfl:E=Value.ref b:=B;obtain⟨z,K,T,c,N⟩:=w6 r.hok e;refine wpAny_notIn_heap (show X.A.in1.units+4<cLine from(show X.A.units+1+4<cLine by lia)) (tE r.hok G) K N ?_;have q:=(c.val k).isSome_eq;rw[Option.isSome_map]at q;rw[<-q];rw[Bool.true_xor]at v;exact⟨.bl (!(ii p k).isSome),P,r.tok _,rfl,v⟩
theorem JK(hu:X.A.units+8<cLine)(ho:PE X o l)(hi:PE X i j)(hv:PE X d m)(J:kG d (aa (.Subscript o i g)) f.line X.env=pure aj):PS X (.Assign [.Subscript o i g] d f) (E2 l j m):=by
 intro N s C H D I h;refine wpAny_Assign_Subscript (aL (hv N s C H _ I h) λr Y ⟨v,H1,I1,rv,q1⟩=>aL (ho N Y C H1 _ I1 q1) λu W ⟨x,H2,I2,rx,q2⟩=>aL (hi N W C H2 _ I2 q2) λiv s3 ⟨y,P,O,Z,a,b,w,k,ex,ey,e,S,hn,hl,q3⟩=>?_) J;subst ex ey;obtain rfl:u=Value.ref a:=rx;obtain rfl:iv=Value.ref b:=Z;obtain⟨z,hd,G,t,dd⟩:=w6 O.hok e;have hz:G.length<=a9:=by rw[<-Paired.length t];exact z
 refine wpAny_setItem_heap (hsz:=hz) (show X.A.in1.units+4<cLine from(show X.A.units+1+4<cLine by lia)) (tE O.hok S) dd λh' B J=>?_;have K:atKey G k=ae:=by have q:=(t.val k).isSome_eq;rw[hn,Option.isSome_map]at q;simpa using q.symm
 rw[storedH_new K]at B;obtain⟨q,es,ep,Q,A,h3,h4,_,h5⟩:=B;refine⟨C,upd P a (.dN (w++[(k,v)])),DH (ob:=.dN (w++[(k,v)])) O (by rw[e];exact True.intro) J ⟨q,Q⟩ ⟨by rw[ca];exact hl,hd,G++[(k,b,r)],?_,q,es,ep,Q,A,h3,h4,h5⟩,q3⟩;have E:∀{c:af}{F:List V},P c=aa (.tup F)->upd P a (.dN (w++[(k,v)])) c=aa (.tup F):=λ{c F} T=>by rw[b7 (Dv T e (λz=>nomatch z))];exact T
 refine Paired.snoc (Paired.mapP t λp q z=>⟨z.1,?_,z.2.2⟩) ⟨rfl,?_,rv⟩
 .obtain⟨M,L,A⟩:=z.2.1;exact⟨M,E L,E A⟩
 .obtain⟨M,L,A⟩:=S;exact⟨M,E L,E A⟩
def FN:TE:=λ_ H Q=>∀p,H p=ae->Q (.ref p) (upd H p (.dN []))
theorem EL{P:aK}{w:aD}{H:Hp}(h:ay)(a:oY<h.objs.size):cW P w H (h.push {cls:=.type "dict",data:=.dict #[]}) h.objs.size (.dN []):=by
 obtain⟨z,y,u,r,o,s,t,q,p,c,b,v⟩:=G6 (P:=P) (w:=w) (H:=H) h a;cases r;exact⟨z,y,[],.nil,o,s,t,q,p,c,b,.nil⟩
theorem C0:PE X (.Dict [] [] f) FN:=λc s b H Q I h=>wpAny_Dict_empty ⟨.ref s.heap.objs.size,_,I.laid (a:=s.heap.objs.size) (o:=.dN []) (t':=s.toks) (λ_ _ q=>bd _ q) (aY _) (EL s.heap I.big),rfl,h _ (I.hok.fresh (aY _))⟩
end
end L2
namespace Pu
open L2
def valN(a:List ((Tx×List Tx)×PV))(k:Tx×List Tx):Option PV:=(a.find? λb=>decide (b.1=k)).map (·.2)
def kg:PV->Option (Tx×List Tx)
 |.tup [.str t,.tup a]=>(dZ a).map λb=>(t,b)
 |_=>ae
theorem FP{x y:Tx×List Tx}(h:nS x=nS y):x=y:=by have d:=congrArg Prod.fst h;have c:=congrArg Prod.snd h;refine Prod.ext (qj d) ?_;exact(List.map_inj_right λa b e=>qj e).mp c
section
variable{K:au}{F:af->Prop}{S:Nat->af->Prop}{ε:ak}{g:St}{H:Hp}{i:Nat}{d:List ((Tx×List Tx)×PV)}{f:List ((Str×List Str)×V)}{a:af}
theorem wo{x:PV}{v:V}{k:Tx×List Tx}(r:aJ K H F x v)(e:kg x=aa k):∃b,v=.ref b/\ml H (nS k) b:=by
 unfold kg at e;split at e
 .rename_i t s;obtain⟨j,q,rfl⟩:=pB.mp e;obtain rfl:=nN q;obtain⟨b,u,rfl,n,h⟩:=r;obtain⟨y,B,rfl,p,h⟩:=h;obtain⟨w,A,rfl,o,h⟩:=h;cases h;obtain⟨c,z,rfl,m,l⟩:=o;obtain⟨rfl,_⟩:=Lh.mp l;refine⟨b,rfl,c,?_,?_⟩
  .rw[n,p.1];rfl
  .rw[m];show aa (HO.tup (bA j))=aa (HO.tup ((j.map tS).map V.str));rw[eY];rfl
 .cases e
theorem jG.len(h:jG K H F d f):f.length=d.length:=by
 unfold jG at h
 induction h with
 |nil=>rfl
 |cons _ _ b=>simp[b]
theorem jG.val(h:jG K H F d f)(k:Tx×List Tx):(∃x v,valN d k=aa x/\ii f (nS k)=aa v/\aJ K H F x v)\/(valN d k=ae/\ii f (nS k)=ae):=by
 unfold jG at h
 induction h with
 |nil=>exact .inr ⟨rfl,rfl⟩
 |@cons p q ps qs r _ ih=>
  by_cases e:p.1=k
  .refine .inl ⟨p.2,q.2,by simp[valN,rj,e],?_,r.2⟩;rw[A2 (by rw[<-r.1,e])]
  .have b:¬q.1=nS k:=by rw[<-r.1];exact λz=>e (FP z)
   rw[Aa b];have:valN (p::ps) k=valN ps k:=by simp[valN,rj,e]
   rw[this];exact ih
theorem aI.dnAt(r:aI K F S ε g H)(e:ε[i]?=aa (.own (.dN d))):∃a f,g[i]?=aa (aa (.ref a))/\H a=aa (.dN f)/\jG K H F d f/\S i a/\∀b,S i b->b=a:=by obtain⟨a,n,⟨j,m,l⟩,c⟩:=r.own i _ e;exact⟨a,j,n,m,l,(c a).mpr rfl,λb h=>(c b).mp h⟩
end
def ge(b:ak)(i:Nat):Option (List ((Tx×List Tx)×PV)):=match b[i]? with
 |some (.own (.dN a))=>aa a
 |_=>ae
theorem nY{b:ak}{i:Nat}{a:List ((Tx×List Tx)×PV)}(h:ge b i=aa a):b[i]?=aa (.own (.dN a)):=by
 unfold ge at h;split at h
 .cases h;assumption
 .cases h
section
variable{X:Cx}{E:XK}{pin:List Nat}{e b c:az}{de d g:ak->R PV}{f:Pos}
def qV(i:Nat)(d:ak->R PV):ak->R PV:=λa=>(aZ (ge a i) a).bind λ_ a=>(d a).bind λk ε1=>(aZ (ge ε1 i) ε1).bind λh ε1=>aZ ((kg k).bind λk=>valN h k) ε1
theorem J5(i:Nat){y:Str}{B:Pos}(hu:X.A.units+64<cLine)(N:DE X E b d)(P:X.N[i]?=aa y:=by rfl)(T:fE X.env.scope y:=by eq_refl)(M:(y==("__debug__":Str))=aj:=by decide) (Y:(y==("__classdict__":Str))=aj:=by decide) (K:wp b:=by exact λ_ _=>rfl):DE X E (.Subscript (.Name y B) b f) (qV i d):=λF S p A H Q r h=>by
 unfold qV at h;cases o:ge p i with
 |none=>rw[o]at h;exact h.elim
 |some w=>
  rw[o]at h;simp only[dJ,R.bind_ok]at h;obtain⟨a,C,z,_⟩:=r.dnAt (nY o);refine bW (E1 ∅ (gT P T M Y) bt K) ⟨.ref a,z,N F S p A H _ r ((Ok.bind h).imp λk l F1 Z H1 s g1 q u G=>?_)⟩;cases n:ge l i with
  |none=>rw[n]at q;exact q.elim
  |some J=>
   rw[n]at q;simp only[dJ,R.bind_ok]at q;obtain⟨a',D,j,O,L,_⟩:=s.dnAt (nY n);rw[z]at j;cases j;cases m:kg k with
   |none=>rw[m]at q;exact q.elim
   |some t=>
    rw[m,iw]at q;obtain⟨W,rfl,I⟩:=wo G m;rcases L.val t with⟨x,v,h1,h2,h3⟩|⟨h1,h2⟩
    .rw[h1]at q;exact⟨a,W,D,nS t,v,rfl,rfl,O,I,h2,q F1 Z H1 s (bn.refl ..) v h3⟩
    .rw[h1]at q;exact q.elim
def qL(i:Nat)(d de:ak->R PV):ak->R aR:=λj=>(de j).bind λy ε1=>(aZ (ge ε1 i) ε1).bind λ_ ε1=>(d ε1).bind λk a=>(aZ (ge a i) a).bind λh a=>(aZ (kg k) a).bind λk a=>if h.length<cA/\(valN h k).isNone=ai then .ok .next (a.set i (.own (.dN (h++[(k,y)]))))else .no
theorem Iz(i:Nat){y:Str}{M l:Pos}(hu:X.A.units+64<cLine)(hb:DE X E b d)(he:DE X E e de)(hN:X.N[i]?=aa y:=by rfl)(gH:fE X.env.scope y:=by eq_refl)(hd:(y==("__debug__":Str))=aj:=by decide) (bN:(y==("__classdict__":Str))=aj:=by decide) (hs:kG e (aa (.Subscript (.Name y M) b l)) f.line X.env=pure aj:=by rfl):DS X E pin (.Assign [.Subscript (.Name y M) b l] e f) (qL i d de):=λF S T t H D rl h=>by
 refine gW (JK ∅ (gT hN gH hd bN) bt bt hs) (he F S T t H _ rl (h.bindE.imp λy n F1 S1 H1 z g1 q v Y=>?_));cases L:ge n i with
 |none=>rw[L]at q;exact q.elim
 |some O=>
  rw[L]at q;simp only[dJ,R.bind_ok]at q;obtain⟨a,W,J,ha0,_⟩:=z.dnAt (nY L);refine⟨.ref a,J,hb F1 S1 n t H1 _ z (q.bindE.imp λk w Q S2 H2 N g2 j u Z=>?_)⟩;cases s:ge w i with
  |none=>rw[s]at j;exact j.elim
  |some o=>
   rw[s]at j;simp only[dJ,R.bind_ok]at j;obtain⟨a',r,p,ha,C,_⟩:=N.dnAt (nY s);rw[J]at p;cases p;cases K:kg k with
   |none=>rw[K]at j;exact j.elim
   |some m=>
    rw[K]at j;simp only[dJ,R.bind_ok]at j;split at j
    .rename_i B;obtain⟨B,P⟩:=B;obtain⟨bb,rfl,nv⟩:=wo Z K;have A:ii r (nS m)=ae:=by
      rcases C.val m with⟨x,v,h1,h2,h3⟩|⟨h1,h2⟩
      .rw[h1]at P;cases P
      .exact h2
     have bO:jG X.K H2 Q (o++[(m,y)]) (r++[(nS m,v)]):=Paired.snoc C ⟨rfl,Y.grow g2 z.fit⟩;obtain⟨r3,g3⟩:=N.updO (po':=.dN (o++[(m,y)])) (o':=.dN (r++[(nS m,v)])) (nY s) rfl J trivial λH' m1 m2 I Sa G=>⟨⟨_,I,bO.mono m1⟩,G⟩
     exact⟨a,bb,r,nS m,rfl,rfl,ha,nv,A,by rw[C.len];exact eE B jE,j Q S2 t _ r3 g3 (h_.refl _ _)⟩
    .exact j.elim
def wQ:ak->R PO:=λa=>.ok (.dN []) a
theorem KH:DN X E (.Dict [] [] f) wQ:=λF S m l H Q i h=>bW C0 λp a=>by
 have al:Al F F H (upd H p (.dN [])):=Al.new0 a;refine h F S _ (i.al al) al.grow p (λb=>b=p) ⟨⟨[],cI,.nil⟩,λb=>Iff.rfl⟩ λb z=>?_;subst z;refine⟨a,λz=>?_,λ⟨j,z⟩=>?_,_,cI,trivial⟩
 .obtain⟨o,q⟩:=i.ex b z;rw[a]at q;cases q
 .obtain⟨_,_,o,q,_⟩:=i.foot j b z;rw[a]at q;cases q
def mS(a:Bool)(i:Nat)(d:ak->R PV):ak->R PV:=λj=>(d j).bind λk ε1=>(aZ (ge ε1 i) ε1).bind λh ε1=>aZ ((kg k).map λk=>.bl (a^^(valN h k).isSome)) ε1
theorem Dp(i:Nat){y:Str}{o:Pos}(Z:X.A.units+64<cLine)(M:DE X E b d)(O:X.N[i]?=aa y:=by rfl)(P:fE X.env.scope y:=by eq_refl)(L:(y==("__debug__":Str))=aj:=by decide) (Y:(y==("__classdict__":Str))=aj:=by decide) (J:mU .NotIn (.Name y o)=aj:=by rfl):DT X E (.Compare b [.NotIn] [.Name y o] f) (dB (mS ai i d)):=λF S A z H Q D h=>by
 refine qQ (Jp (F6 ∅ bt (gT O P L Y)) J) ?_;have r:=pW h;unfold mS at r;refine M F S A z H _ D ((Ok.bind r).imp λk j w s t l g1 q u C=>?_);cases n:ge j i with
 |none=>rw[n]at q;exact q.elim
 |some I=>
  rw[n]at q;simp only[dJ,R.bind_ok]at q;obtain⟨a,B,T,N,K,_⟩:=l.dnAt (nY n);cases m:kg k with
  |none=>rw[m]at q;exact q.elim
  |some p=>
   rw[m,Option.map_some]at q;obtain⟨W,rfl,G⟩:=wo C m;refine⟨.ref a,T,a,W,B,nS p,rfl,rfl,N,G,?_⟩;rcases K.val p with⟨x,v,h1,h2,h3⟩|⟨h1,h2⟩
   .rw[h1]at q;rw[h2];exact q w s t l (bn.refl ..) _ rfl
   .rw[h1]at q;rw[h2];exact q w s t l (bn.refl ..) _ rfl
end
end Pu
namespace L2
open Mx SeqAt
def cY(x:Int)(y:Str)(a:Int)(b:Str):Bool:=if x=a then decide (y.cps.toList<b.cps.toList)else decide (x<a)
theorem FK(l b:af)(x a:Int)(y c:Str)(t u B z:Tok)(n K:Nat)(O I:Option af)(J D:Array (Option ah)):Meets (Builtin.«tuple.__lt__» ⟨[.ref l,.ref b],[]⟩) (λ_ R s=>s.heap.get? l=aa {cls:=.type "tuple",dict:=O,data:=.seq #[.int x t,.str y u] n,slots:=J}/\s.heap.get? b=aa {cls:=.type "tuple",dict:=I,data:=.seq #[.int a B,.str c z] K,slots:=D} /\ R (.ok (.ret (.bool (cY x y a c)))) s) :=
 .of_wp λprog w A R s h=>by
  obtain⟨r,g,d,j,m⟩:=s;obtain⟨M,N,h⟩:=h;have f2:=AutoSeq1.sub_tuple_tuple
  wp_walk using uQ M,uQ N,yh _ (λrest b F=>b.1=ae/\F=⟨r,g,d,j,m⟩/\(rest=[((Value.int x t:ah),(Value.int a B:ah)),(.str y u,.str c z)] \/ x=a/\rest=[((Value.str y u:ah),(Value.str c z:ah))]\/x=a/\y=c/\rest=[])) _
  case turn=>
   rintro⟨p,q⟩ rest b F ⟨G,rfl,f|⟨C,f⟩|⟨_,_,f⟩⟩
   .cases f;refine ap (EqAt.int_int x t a B prog w _ _ ?_);by_cases e:x=a
    .subst e;rw[beq_self_eq_true]
     wp_walk
     exact⟨rfl,rfl,.inr (.inl ⟨rfl,rfl⟩)⟩
    .rw[beq_false_of_ne e];have H:R (.ok (.ret (.bool (decide (x<a))))) ⟨r,g,d,j,m⟩:=by unfold cY at h;rwa[if_neg e]at h
     have o:∀(E:ah->ao->Prop) (Q:ah->ao->Prop),Q (.bool (decide (x<a))) ⟨r,g,d,j,m⟩->aq (ar prog w) A.in1 (richCompare .Lt (.int x t) (.int a B)) Q E ⟨r,g,d,j,m⟩:=λE Q h=>CmpOf.ints_lt (prog:=prog) (w:=w) (A:=A.in1) (P:=λi v=>∃t,v=.int (if i=0 then x else a) t) (λi=>if i=0 then x else a) (λi v h=>h) 0 1 _ _ _ _ _ ⟨t,rfl⟩ ⟨B,rfl⟩ (by simpa using h)
     wp_walk using o
     exact⟨_,rfl,by simpa using H⟩
   .cases f;subst C;refine ap (EqAt.str_str y u c z prog w _ _ ?_);by_cases e:y=c
    .subst e;rw[beq_self_eq_true]
     wp_walk
     exact⟨rfl,rfl,.inr (.inr ⟨rfl,rfl,rfl⟩)⟩
    .rw[beq_false_of_ne e];have H:R (.ok (.ret (.bool (decide (y.cps.toList<c.cps.toList))))) ⟨r,g,d,j,m⟩:=by unfold cY at h;rwa[if_pos rfl]at h
     have o:∀(E:ah->ao->Prop) (Q:ah->ao->Prop),Q (.bool (decide (y.cps.toList<c.cps.toList))) ⟨r,g,d,j,m⟩->aq (ar prog w) A.in1 (richCompare .Lt (.str y u) (.str c z)) Q E ⟨r,g,d,j,m⟩:=λE Q h=>(PyProof.Rows.lt_str h:aq (ar prog w) A.in1 (dr .Lt (.str y u) (.str c z)) Q E _)
     wp_walk using o
     exact⟨_,rfl,by simpa using H⟩
   .cases f
  case fin=>
   rintro⟨b1,b2⟩ F ⟨G,rfl,f|⟨C,f⟩|⟨C,hy,_⟩⟩
   .cases f
   .cases f
   .simp only at G;subst G C hy;have L:cY x y x y=aj:=by unfold cY;rw[if_pos rfl];exact decide_eq_false (vh _)
    rw[L]at h
    wp_walk
    exact⟨_,rfl,by simpa[Builtin.Tuple.tupleCompareSizes]using h⟩
  case h=>exact⟨rfl,rfl,.inl rfl⟩
def mw(h:ay)(k:Int×Str)(v:ah):Prop:=∃a t u,v=.ref a/\IsTup h a #[.int k.1 t,.str k.2 u]
section
variable{P:aK}{w:aD}{A:aM}{E:ah->ao->Prop}{s:ao}
theorem J7{k a:Int×Str}{v g:ah}{Q:ah->ao->Prop}(G:mw s.heap k v)(D:mw s.heap a g)(H:A.units<cLine)(h:Q (.bool (cY k.1 k.2 a.1 a.2)) s):aq (ar P w) A (richCompare .Lt v g) Q E s:=by
 obtain⟨l,t,u,rfl,I⟩:=G;obtain⟨b,B,z,rfl,J⟩:=D;obtain⟨⟨L,K,r,C⟩,j,o,n,m⟩:=id I;obtain⟨⟨y,d,f,c⟩,q,p,F,i⟩:=id J;simp only at o m p i;subst o m p i;exact richCompare_meets_room (op:=.Lt) ⟨_,j,rfl⟩ ⟨_,q,rfl⟩ PySem.F.slot_tuple_lt PySem.F.entry_tuple_lt (PySem.F.args_tuple_lt_2 _ _) (FK l b k.1 a.1 k.2 a.2 t u B z n F K d C c)
  ⟨j,q,show Value.bool (cY k.1 k.2 a.1 a.2)≠Value.notImplemented/\Q (.bool (cY k.1 k.2 a.1 a.2)) s from⟨(λx=>nomatch x),h⟩⟩ H
theorem mw.keep{h c:ay}{k:Int×Str}{v:ah}(x:mw h k v)(g:∀b o,h.get? b=aa o->o.cls=.type "tuple"->c.get? b=aa o):mw c k v:=by obtain⟨a,t,u,rfl,d⟩:=x;exact⟨a,t,u,rfl,tup_kept d g⟩
theorem Ee{a b c:Int×Str}(f:cY a.1 a.2 b.1 b.2=ai)(d:cY b.1 b.2 c.1 c.2=ai):cY a.1 a.2 c.1 c.2=ai:=by
 unfold cY at *;split at f <;> split at d <;> split <;> simp only[decide_eq_true_iff]at * <;> first|lia|skip
 exact List.lt_trans f d
variable{q l I S:af}{vs:List ah}{kf:Nat->Int×Str}{R:Result->ao->Prop}{Q:ah->ao->Prop}
def zf(P:aK)(w:aD)(A:aM)(s:ao)(q:af)(vs:List ah)(kf:Nat->Int×Str):Prop:=∀(i:Nat) (v:ah),vs[i]?=aa v->∀(h:ay) (d:Nat),(∀b o,s.heap.get? b=aa o->h.get? b=aa o) ->
 aq (ar P w) A.in1 (call (.ref q) [v]) (λu f=>∃c a,f={s with heap:=c,toks:=a}/\(∀b o,h.get? b=aa o->c.get? b=aa o)/\mw c (kf i) u) (λ_ _=>False) {s with heap:=h,toks:=d}
theorem A7{a:Array ah}{c:Nat}{p:Prop}(h:(dv "list" a c).cls=.type "tuple"):p:=absurd h (by show ¬(_:ah)=_;simp[dv])
structure D_(s:ao)(l I S:af)(vs:List ah)(kf:Nat->Int×Str)(j i:Nat)(h:ay):Prop where
 keep:∀b o,s.heap.get? b=aa o->h.get? b=aa o
 it:h.IsListIter I l (j+1)
 st:∃vb kb c,h.get? S=aa (dv "list" #[vb,kb] c)/\vs[i]?=aa vb/\mw h (kf i) kb
 ij:i<=j
 best:∀j',j'<=j->cY (kf j').1 (kf j').2 (kf i).1 (kf i).2=aj
theorem DB(hh:A.handled=ae)(hu:A.units+4<cLine)(hl:s.heap.IsList l vs.toArray)(fI:s.heap.get? I=ae)(fS:s.heap.get? S=ae)(Z:S≠I)(n:zf P w A s q vs kf)(hR:∀i v L t,vs[i]?=aa v->(∀j,j<vs.length->cY (kf j).1 (kf j).2 (kf i).1 (kf i).2=aj)->(∀b o,s.heap.get? b=aa o->L.get? b=aa o)->R (.ok (.ret v)) {s with heap:=L,toks:=t}):∀(r j i:Nat) (h:ay) (Y:Nat),vs.length-(j+1)=r->j+1<=vs.length->D_ s l I S vs kf j i h->lH (ar P w) A (.builtin "min.loop" ⟨[.ref I,.ref q,.ref S],[]⟩) R {s with heap:=h,toks:=Y}:=by
 have rM:(toString "min"++toString ".loop" : String) = "min.loop":=by decide
 have hlI:l≠I:=λz=>by obtain⟨o,e,_⟩:=hl;rw[z,fI]at e;cases e
 have hlS:l≠S:=λz=>by obtain⟨o,e,_⟩:=hl;rw[z,fS]at e;cases e
 have W:=Walks.list (prog:=P) (w:=w) (A:=A.in1) hh I l hlI vs.toArray;have y:vs.toArray.size=vs.length:=bM ..;have lk:∀{h:ay},(∀b o,s.heap.get? b=aa o->h.get? b=aa o)->h.IsList l vs.toArray:=λk=>by obtain⟨o,e,r⟩:=hl;exact⟨o,k _ _ e,r⟩
 intro r
 induction r with
 |zero=>
  intro j i h Y hr hj M;obtain⟨O,kb,c,J,m,F⟩:=M.st;refine lM CG ?_;rw[nh pC _];refine ap (u9 J rfl ?_);refine ap (rE (W.done _ _ _ ⟨by rw[y,show vs.length=j+1 by lia];exact M.it,lk M.keep⟩ λL t l5=>?_));have x:=ng L S (fv λ_=>(#[]:Array ah));refine ap ?_;refine wpAny_updateSeq (l5 S _ (by simpa using Z) J) rfl (ap (yi (aC ?_)));refine hR i O _ _ m (λf gL=>M.best f ∅) λb o e=>?_;have nb:b≠I:=λz=>by rw[z,fI]at e;cases e
  have nb2:b≠S:=λz=>by rw[z,fS]at e;cases e
  exact(x.2 b nb2).trans (l5 b o (by simpa using nb) (M.keep b o e))
 |succ r ih=>
  intro j i h Y hr hj M;obtain⟨O,kb,c,J,m,F⟩:=M.st;have a_:j+1<vs.length:=∅
  refine lM CG ?_;rw[nh pC _];refine ap (u9 J rfl ?_);refine ap (rE (W.item (j+1) _ _ _ (by rw[y];exact a_) ⟨M.it,lk M.keep⟩ λv h1 X hP c8 fA=>?_));have hv:vs[j+1]?=aa v:=by simpa using hP
  obtain⟨oI,eI,nt,C⟩:=id c8.1;have d:∀b o,s.heap.get? b=aa o->h1.get? b=aa o:=λb o e=>fA b o (by intro z;rw[eV.mp z,fI]at e;cases e) (M.keep b o e);refine ap (rE (io (dO (n (j+1) v hv h1 X d) (λu s2 he=>?_) λ_ _ hF=>hF.elim)));obtain⟨H,T,rfl,N,D⟩:=he;have p:∀b o,h.get? b=aa o->o.cls=.type "tuple"->H.get? b=aa o:=λb o e ht=>N b o (fA b o (by
   intro z;rw[eV.mp z]at e;obtain⟨o',e',c',_⟩:=M.it;rw[e]at e';cases e';rw[ht]at c';simp at c') e)
  have CU:=F.keep p;have a:∀b o,s.heap.get? b=aa o->H.get? b=aa o:=λb o e=>N b o (d b o e);have g:=N S _ (fA S _ (by simpa using Z) J);have K:=N I _ eI;refine ap (rE (io (ap (J7 (s:={s with heap:=H,toks:=T}) (A:=A.in1) D CU (show A.units+1<cLine by lia) ?_))));refine ap (io (kE ?_));refine ap (yi (aC ?_));by_cases jt:cY (kf (j+1)).1 (kf (j+1)).2 (kf i).1 (kf i).2=ai
  .have x:=ng H S (fv λ_=>#[v,u]);obtain⟨c2,g_⟩:∃c2,(H.update S (fv λ_=>#[v,u])).get? S=aa (dv "list" #[v,u] c2):=⟨_,ve g λ_=>#[v,u]⟩
   simp only[jt,if_true];refine ap ?_;refine wpAny_updateSeq g rfl (ap (yi ?_));rw[rM];refine aC ⟨ni pC _,ih (j+1) (j+1) _ _ ∅ a_ ⟨λb o e=>?_,⟨oI,(x.2 I Z.symm).trans K,nt,C⟩,⟨v,u,c2,g_,hv,?_⟩,aY _,λf gL=>?_⟩⟩
   .exact(x.2 b (λz=>by rw[z,fS]at e;cases e)).trans (a b o e)
   .refine D.keep λb o e ht=>(x.2 b ?_).trans e;rintro rfl;rw[g]at e;cases e;exact A7 ht
   .by_cases e:f=j+1
    .subst e;cases B:cY (kf (j+1)).1 (kf (j+1)).2 (kf (j+1)).1 (kf (j+1)).2 with
     |false=>rfl
     |true=>unfold cY at B;rw[if_pos rfl,decide_eq_true_iff]at B;exact absurd B (vh _)
    .cases B:cY (kf f).1 (kf f).2 (kf (j+1)).1 (kf (j+1)).2 with
     |false=>rfl
     |true=>have:=Ee B jt;rw[M.best f ∅]at this;cases this
  .have G:cY (kf (j+1)).1 (kf (j+1)).2 (kf i).1 (kf i).2=aj:=by simpa using jt
   simp only[G,jS,if_false];refine ap (yi ?_);rw[rM];refine aC ⟨ni pC _,ih (j+1) i _ _ ∅ a_ ⟨a,⟨oI,K,nt,C⟩,⟨O,kb,c,g,m,CU⟩,by have:=M.ij;lia,λf gL=>?_⟩⟩;by_cases e:f=j+1
   .subst e;exact G
   .exact M.best f ∅
theorem FT(T:A.handled=ae)(hu:A.units+4<cLine)(g:s.heap.IsList l vs.toArray)(cB:0<vs.length)(c:zf P w A s q vs kf)(hQ:∀i v Z n,vs[i]?=aa v->(∀j,j<vs.length->cY (kf j).1 (kf j).2 (kf i).1 (kf i).2=aj)->(∀b o,s.heap.get? b=aa o->Z.get? b=aa o)->Q v {s with heap:=Z,toks:=n}):aq (ar P w) A (call (.builtin "min") [.ref l] [(q8 "key",.ref q)]) Q E s:=by
 have M:(toString "min"++toString ".loop" : String) = "min.loop":=by decide
 refine kmk_tree PySem.F.kind_min PySem.F.plain_min PySem.F.entry_min (kmk_min_key _ _) ?_;refine ap (u6 (show Builtin.Builtins.bindParams "min" ["key","default"] 0 ⟨[],[(q8 "key",.ref q)]⟩=pure [aa (.ref q),ae] from rfl) ?_);refine ap (aC ?_);refine ap (Ch g ?_);refine ap (wpAny_newList ?_ (kM _));rw[M];generalize h:s.heap.objs.size=I;generalize H:s.heap.push {cls:=.type "list_iterator",data:=.fields #[.ref l,.int 0 0]}=g1;have G:g1.get? I=aa {cls:=.type "list_iterator",data:=.fields #[.ref l,.int 0 0]}:=by rw[<-H,<-h];exact cg _ rfl
 have F:∀b o,s.heap.get? b=aa o->g1.get? b=aa o:=λb o e=>by rw[<-H];exact bd _ e
 have d:g1.objs.size=I+1:=by rw[<-H,<-h];exact g8 ..
 generalize hS:g1.objs.size=S at d;have J:s.heap.get? I=ae:=uE (by rw[<-h];exact aY _);have fS:s.heap.get? S=ae:=uE (by rw[h,d];exact rh _);have p:S≠I:=by rw[d];exact Nat.succ_ne_self _
 refine aC ⟨ni pC _,?_⟩;have N:∀b o,s.heap.get? b=aa o->(g1.push (dv "list" #[] 0)).get? b=aa o:=λb o e=>bd _ (F b o e);have gS:(g1.push (dv "list" #[] 0)).get? S=aa (dv "list" #[] 0):=by rw[<-hS];exact cg _ rfl
 have gI:(g1.push (dv "list" #[] 0)).get? I=aa {cls:=.type "list_iterator",data:=.fields #[.ref l,.int 0 0]}:=bd _ G;have C:l≠I:=λz=>by obtain⟨o,e,_⟩:=g;rw[z,J]at e;cases e
 have W:=Walks.list (prog:=P) (w:=w) (A:=A.in1) T I l C vs.toArray;have x:vs.toArray.size=vs.length:=bM ..;refine lM CG ?_;rw[nh pC _];refine ap (u9 gS rfl ?_);refine ap (rE (W.item 0 _ _ _ (by rw[x];exact cB) ⟨⟨_,gI,rfl,rfl⟩,(let ⟨o,e,r⟩:=g;⟨o,N _ _ e,r⟩)⟩ λv Y m hP c8 fA=>?_));have O:vs[0]?=aa v:=by simpa using hP
 obtain⟨oI,eI,nt,B⟩:=id c8.1;have a:∀b o,s.heap.get? b=aa o->Y.get? b=aa o:=λb o e=>fA b o (by intro z;rw[eV.mp z,J]at e;cases e) (N b o e);refine ap (rE (io (dO (c 0 v O Y m a) (λu s2 he=>?_) λ_ _ hF=>hF.elim)));obtain⟨X,tk2,rfl,L,D⟩:=he;have f:=L S _ (fA S _ (by simpa using p) gS);have t:=ng X S (fv λ_=>#[v,u]);obtain⟨K,g_⟩:∃K,(X.update S (fv λ_=>#[v,u])).get? S=aa (dv "list" #[v,u] K):=⟨_,ve f λ_=>#[v,u]⟩
 refine ap ?_;refine wpAny_updateSeq f rfl ?_;rw[M];refine aC ⟨ni pC _,DB T hu g J fS p c hQ _ 0 0 _ _ rfl cB ⟨λb o e=>?_,⟨oI,(t.2 I p.symm).trans (L I _ eI),nt,B⟩,⟨v,u,K,g_,O,?_⟩,aY _,λj' gL=>?_⟩⟩
 .exact(t.2 b (λz=>by rw[z,fS]at e;cases e)).trans (L b o (a b o e))
 .refine D.keep λb o e ht=>(t.2 b ?_).trans e;rintro rfl;rw[f]at e;cases e;exact A7 ht
 .obtain rfl:j'=0:=∅
  cases y:cY (kf 0).1 (kf 0).2 (kf 0).1 (kf 0).2 with
  |false=>rfl
  |true=>unfold cY at y;rw[if_pos rfl,decide_eq_true_iff]at y;exact absurd y (vh _)
end
open Att
section
variable{a:aK}{w:aD}{A:aM}{E:ah->ao->Prop}{s:ao}
structure vR(x:Str)(params:o0)(scope:cL):Prop where
 bind:∀(name qual:Str) (body:az) (cl:List (Str×af)) (pm aS ct v:ah),eF (PySem.W.kla_fn name qual params body scope cl pm aS ct) ⟨[v],[]⟩=pure [(x,v)]
 lx:scope.names.lookup x=aa .local
 ly:scope.names.lookup ("len" : Str)=aa .globalImplicit
 nc:∀z∈scope.names,z.2≠.cell
 co:scope.isCoroutine=aj
 gen:scope.isGenerator=aj
 kind:scope.kind=.function
 dx:(x==("__debug__":Str))=aj
abbrev xA(x:Str)(k:Nat)(g f d c b:Pos):az:=.Tuple [.Call (.Name "len" g) [.Name x f] [] d,.Name x c] k b
theorem Fa{f B:af}{x g:Str}{c:o0}{d:cL}{k:Nat}{J I H G F:Pos}{j:List (Str×af)}{D p:ah}{z:Str}{t:Tok}{q:Str->Option ah}{Q:ah->ao->Prop}(L:vR x c d)(X:A.depth<uJ) (M:s.heap.get? f=aa (yg "<lambda>" g c (xA x k J I H G F) d j D B p)) (W:s.heap.CodeRec (.ref B) g) (m:s.heap.NoLimit)(O:s.heap.Ns bV q) (N:q "len"=ae) (P:∃l,s.heap.Ns lE l/\l "len"=aa (.builtin "len")) (y:z.length<=a9)(h:∀n C u,(∀b o,s.heap.get? b=aa o->n.get? b=aa o)->mw n ((z.length:Nat),z) u->Q u {s with heap:=n,toks:=C}):aq (ar a w) A (call (.ref f) [.str z t]) Q E s:=by refine wpAny_call (PySem.W.kla_callFunE X M rfl L.co L.gen rfl W ?_);rw[L.bind];refine aC (wpAny_newFunctionEnv L.nc (λz y=>by rw[eV.mp y];exact L.lx) (λi r K=>?_) L.kind);have keep:∀b o,s.heap.get? b=aa o->i.get? b=aa o:=λb o e=>(K.2 b (cD (bw e))).trans (bd _ e);refine⟨m.keeps keep,PySem.W.kla_codeExpr ?_⟩;obtain⟨l,T,S⟩:=P;have Y:=oh;refine wpAny_Tuple_spliced ?_;refine uK ?_;refine uN (B0 L.kind L.ly (Calls.loadGlobal_builtin (O.keeps keep) N (T.keeps keep) S ?_));refine KR (uK (uF (BZ L.kind L.lx r (v:=.str z t) (by simp) (xN ?_)) L.dx)) rfl rfl;refine len_str ∅ ?_;refine uK (uF (BZ L.kind L.lx r (v:=.str z t) (by simp) (xN ?_)) L.dx);refine⟨by rw[mV];simp,?_⟩;exact h _ _ _ (λb o e=>bd _ (keep b o e)) ⟨_,_,_,rfl,⟨_,cg _ rfl,rfl,_,rfl⟩⟩
end
section
variable{X:Cx}{g:List (af×Obj)}{d:St}{H:Hp}{s:ao}
def I_(i:TA):TE:=λd H Q=>i d H λj h=>∃(a:af) (c:List Str),j=[.ref a]/\Rd h a (.lst (c.map .str))/\c≠[]/\(∀x∈c,x.length<=a9) /\
 ∀x f,x∈c->(∀y∈c,cY (y.length:Nat) y (x.length:Nat) x=aj)->(∀b o,h b=aa o->f b=aa o)->Q (.str x) f
theorem HP{z x n:Str}{p0:Pos}{c P:af}{l:o0}{r:cL}{k:Nat}{p p1 p2 p3 p4 p5 G kp F:Pos}{ta:TA}(hc:X.calm=ai)(hr:X.A.depth+1<uJ)(hu:X.A.units+8<cLine)(LA:tz X n c P)(LO:vR x l r)(hq:X.env.qual++"<lambda>"=n++".<locals>.<lambda>")(r_:uU r X.env=pure []) (rR:defaultsOf l X.env=([],[]))(hg:Gl X "min") (hm:X.mg "min"=ae) (M:X.mg "len"=ae) (ha:PA X [.Name z p0] ta):PE X (.Call (.Name "min" p) [.Name z p0] [⟨aa "key",.Lambda l (xA x k p1 p2 p3 p4 p5) r G,kp⟩] F) (I_ ta):=by
 intro g s d H Q I h;refine uN (oN I hg hm (show dm "min"=aa (.builtin "min") by kernel_rfl) ?_ (by decide) (by decide));refine callWith_kw (aL (ha F g s d H _ I h) λus s1 ⟨vs,H1,I1,r1,q⟩=>?_);obtain⟨a,A,rfl,hA,cB,aW,hQ⟩:=q;obtain⟨u,rfl⟩:∃u,us=[u]:=by
  cases r1 with
  |cons _ t=>cases t;exact⟨_,rfl⟩
 obtain rfl:u=.ref a:=by
  cases r1 with
  |cons z _=>exact z
 refine kws_cons (JC I1 LA hq r_ rR λf c' ctv Y s2 w D hf hfL vv hcL=>kws_nil ?_);have S:Rd Y a (.lst (A.map .str)):=hA.elim (λz=>.inl (D _ _ z)) λ⟨o,z⟩=>.inr ⟨o,D _ _ z⟩;obtain⟨m,jo,hl⟩:=id w.loc;obtain⟨zl,E,n0,rv,eL⟩:=S.ok w.hok;have B:E.length=A.length:=by rw[<-rv.length,eT]
 have K:∀(i:Nat) (v:ah),E[i]?=aa v->∃x t,A[i]?=aa x/\v=.str x t:=λi v J=>by obtain⟨xv,C,rx⟩:=ue rv J;rw[iq]at C;obtain⟨x,su,rfl⟩:=pB.mp C;obtain⟨t,rfl⟩:=rx;exact⟨x,t,su,rfl⟩
 obtain⟨mb,k8,O⟩:=w.mod.blt;have N:mb "len"=aa (.builtin "len"):=(O "len" (by decide)).trans (show dm "len"=aa (.builtin "len") by kernel_rfl);show aq _ _ (call (.builtin "min") [.ref a] [(q8 "key",.ref f)]) _ _ _;refine FT (vs:=E) (kf:=λi=>(((A.getD i fu).length:Nat),A.getD i fu)) (w.ok.hd hc) ∅ ⟨_,eL,rfl,n0,rfl⟩ (by rw[B];exact List.length_pos_iff.mpr cB) (λi v J T Z k=>?_) λi v T Z J jZ k=>?_
 .obtain⟨x,t,C,rfl⟩:=K i v J;have W:A.getD i fu=x:=by simp[C]
  dsimp only;rw[W];obtain⟨cc,oc,vc,tc,z,ec,rc⟩:=vv;cases z;refine Fa (s:={s2 with heap:=T,toks:=Z}) LO (Nat.lt_of_succ_lt hr) (k _ _ hf) ⟨_,oc,vc,tc,rfl,k _ _ ec,rc⟩ (w.mod.nolimit.keeps λb o e=>k b o (w.bk b o e)) ((w.mod.glob.keeps w.bk).keeps k) M ⟨mb,(k8.keeps w.bk).keeps k,N⟩ (aW x (uO C)) λh2 L u k2 hu=>?_;exact⟨h2,L,rfl,k2,hu⟩
 .obtain⟨x,t,C,rfl⟩:=K i v J;have W:A.getD i fu=x:=by simp[C]
  refine⟨.str x,Y,?_,⟨t,rfl⟩,hQ x Y (uO C) (λy hy=>?_) D⟩
  .have:T.Ns X.env.locals m:=jo.keeps k;exact w.mapKept jo this λb o _ e=>k b o e
  .obtain⟨j,hj⟩:=Cr.mp hy;have:=jZ j (by rw[B];exact(cE.mp hj).1);have ey:A.getD j fu=y:=by simp[hj]
   rw[W,ey]at this;exact this
end
end L2
namespace Pu
open L2
def bx(x y:Tx):Bool:=if x.length=y.length then decide (x<y)else decide (x.length<y.length)
def lv:List Tx->Option Tx
 |[]=>ae
 |x::r=>aa (r.foldl (λb y=>if bx y b then y else b) x)
theorem GA(x:Tx):bx x x=aj:=by unfold bx;rw[if_pos rfl];exact decide_eq_false (vh x)
theorem wJ{x y z:Tx}(b:bx x y=ai)(a:bx y z=ai):bx x z=ai:=by
 unfold bx at *;split at b <;> split at a <;> split <;> simp only[decide_eq_true_iff]at * <;> first|lia|skip
 exact List.lt_trans b a
theorem wl{x y:Tx}(b:bx x y=aj)(a:bx y x=aj):x=y:=by
 unfold bx at *;split at b
 .rename_i e;rw[if_pos e.symm]at a;simp only[decide_eq_false_iff_not]at b a;exact List.le_antisymm (List.not_lt.mp a) (List.not_lt.mp b)
 .rename_i e;rw[if_neg (λz=>e z.symm)]at a;simp only[decide_eq_false_iff_not]at b a;lia
theorem Aj(r:List Tx):∀b:Tx,(r.foldl (λb y=>if bx y b then y else b) b∈b::r)/\∀y∈b::r,bx y (r.foldl (λb y=>if bx y b then y else b) b)=aj:=by
 induction r with
 |nil=>intro b;exact⟨by simp,λy d=>by simp at d;subst d;exact GA y⟩
 |cons c r n=>
  intro b;rw[m_];obtain⟨l,i⟩:=n (if bx c b then c else b);refine⟨?_,λy d=>?_⟩
  .rcases bF.mp l with h|h
   .rw[h];split <;> simp
   .simp[h]
  .generalize r.foldl (λb y=>if bx y b then y else b) (if bx c b then c else b)=m at l i;have a:=i _ (je ..);cases f:bx y m with
   |false=>rfl
   |true=>
    rcases bF.mp d with rfl|d
    .by_cases g:bx c y=ai
     .rw[if_pos g]at a;rw[wJ g f]at a;cases a
     .rw[if_neg g]at a;rw[f]at a;cases a
    .rcases bF.mp d with rfl|d
     .by_cases g:bx y b=ai
      .rw[if_pos g]at a;rw[f]at a;cases a
      .rw[if_neg g]at a;have o:bx y b=aj:=by simpa using g
       by_cases j:bx b y=ai
       .rw[wJ j f]at a;cases a
       .rw[wl o (by simpa using j)]at f;rw[f]at a;cases a
     .rw[i y (by simp[d])]at f;cases f
theorem A0{a:List Tx}{x:Tx}(h:x∈a)(c:∀y∈a,bx y x=aj):lv a=aa x:=by
 cases a with
 |nil=>cases h
 |cons b r=>obtain⟨f,d⟩:=Aj r b;show aa _=aa x;congr 1;exact wl (c _ f) (d x h)
theorem Ie(x y:Tx):cY ((tS x).length:Nat) (tS x) ((tS y).length:Nat) (tS y)=bx x y:=by
 unfold cY bx;have b:(tS x).length=x.length:=by simp[tS,lL]
 have a:(tS y).length=y.length:=by simp[tS,lL]
 rw[b,a];simp only[i7,Int.natCast_inj,Int.ofNat_lt]
def n6(i:Nat):ak->R PV:=λa=>(aZ (cX a i) a).bind λb a=>aZ ((dZ b).bind λc=>(lv c).map .str) a
section
variable{X:Cx}{E:XK}
theorem EF(i:Nat){z x n:Str}{c P:af}{d:o0}{f:cL}{k:Nat}{p W T O N M L g Y q:Pos}(hc:X.calm=ai)(hr:X.A.depth+1<uJ)(hu:X.A.units+64<cLine)(LA:tz X n c P)(hm:X.mg "min"=ae)(u:X.mg "len"=ae)(hq:X.env.qual++"<lambda>"=n++".<locals>.<lambda>":=by rfl) (J:uU f X.env=pure []:=by rfl)(LO:vR x d f:=by exact⟨λ_ _ _ _ _ _ _ _=>rfl,rfl,rfl,by decide,rfl,rfl,rfl,by decide⟩)(hN:X.N[i]?=aa z:=by rfl) (gH:fE X.env.scope z:=by eq_refl) (hd:(z==("__debug__":Str))=aj:=by decide) (bN:(z==("__classdict__":Str))=aj:=by decide)(K:defaultsOf d X.env=([],[]):=by rfl) (hg:Gl X "min":=by rfl):DE X E (.Call (.Name "min" p) [.Name z W] [⟨aa "key",.Lambda d (xA x k T O N M L) f g,Y⟩] q) (n6 i):=λF S D σ H Q A h=>by
 unfold n6 at h;cases w:cX D i with
 |none=>rw[w]at h;exact h.elim
 |some G=>
  rw[w]at h;simp only[dJ,R.bind_ok]at h;cases v:dZ G with
  |none=>rw[v]at h;exact h.elim
  |some s=>
   rw[v,iw]at h;cases j:lv s with
   |none=>rw[j]at h;exact h.elim
   |some r=>
    rw[j]at h;simp only[Option.map_some,dJ]at h;obtain rfl:=nN v;obtain⟨a,ea,⟨us,ha,I⟩,_⟩:=A.own i _ (gz w);obtain⟨rfl,B⟩:=Lh.mp I;refine bW (HP hc hr ∅ LA LO hq J K hg hm u (gU (gT hN gH hd bN) i5 (by rfl))) ?_;refine⟨_,ea,a,s.map tS,rfl,.inl ?_,λz=>?_,λy t=>?_,λy C t Z m=>?_⟩
    .rw[ha,eY];rfl
    .rw[CH]at z;subst z;cases j
    .obtain⟨y,l,rfl⟩:=cV.mp t;have:=B y l;have e:(tS y).length=y.length:=by simp[tS,lL]
     rw[e];exact cn this jE
    .obtain⟨y,l,rfl⟩:=cV.mp t;have:lv s=aa y:=A0 l λz hz=>by have:=Z (tS z) (cV.mpr ⟨z,hz,rfl⟩);rwa[Ie]at this
     rw[this]at j;cases j;have al:Al F F H C:=⟨λ_ z=>z,λb o e=>m b o e,λ_ z=>.inl z⟩
     exact h F S C (A.al al) al.grow (tV r) ⟨rfl,B r l⟩
end
end Pu
namespace L2
open SeqAt
theorem KB{a:Type}{M:Model}{A:aM}{E:ah->ao->Prop}{s:ao}{Q:a->ao->Prop}{n:Nat}{f:Nat->a->Sem (ForInStep a)}{b:a}(h:aq M A (forIn (List.range' 0 n 1) b f) Q E s):aq M A (forIn ([0:n]:LG) b f) Q E s:=by rw[Std.Legacy.Range.forIn_eq_forIn_range'];simpa[Std.Legacy.Range.size]using h
theorem Kf(l:af)(a:Array ah)(n:Nat)(H:Option af)(t:Array (Option ah))(x:ah)(e:ah->Bool)(j:Nat)(K:j<a.size)(G:e a[j]=ai)(F:∀m (J:m<a.size),m<j->e a[m]=aj):Meets (Builtin.«tuple.index» ⟨[.ref l,x],[]⟩) (λA R s=>s.heap.get? l=aa {cls:=.type "tuple",dict:=H,data:=.seq a n,slots:=t}/\(∀y,y∈a->EqAt A.in1 s y x (e y))/\R (.ok (.ret (.int j s.toks))) {s with toks:=s.toks+1}) :=
 .of_wp λf w A R s h=>by
  obtain⟨v,g,d,r,u⟩:=s;obtain⟨z,D,h⟩:=h
  wp_walk using uQ z,KB
  refine yh _ (λrest (b:Option Fin×Unit) o=>b.1=ae/\o=⟨v,g,d,r,u⟩/\∃i,i<=j/\rest=List.range' i (a.size-i) 1) _ ?_ ?_ _ _ ⟨rfl,rfl,0,kM _,by simp⟩
  .rintro i rest b o ⟨E,rfl,k,B,c⟩;have p:a.size-k=(a.size-k-1)+1:=∅
   rw[p,List.range'_succ]at c;injection c with hi c;subst hi;have q:i<a.size:=∅
   have C:a[i]?=aa a[i]:=u8 q;rw[C];dsimp only;refine ap (D a[i] (Array.getElem_mem q) f w _ _ ?_);by_cases I:i=j
   .subst I;rw[G]
    wp_walk
    exact⟨_,rfl,h⟩
   .rw[F i q ∅]
    wp_walk
    exact⟨rfl,rfl,i+1,∅,by rw[c];congr 1⟩
  .rintro b o ⟨E,rfl,k,B,c⟩;have:a.size-k=0:=by have:=congrArg kI c;simpa using this.symm
   lia
section
variable{X:Cx}
def J6(K:au):V->List V->Hp->VK->Prop:=λx b H Q=>∃(p:af) (a:List V) (y:V) (j:Nat),x=.ref p/\b=[y]/\bQ K H p a/\fg y=ai/\a.all fg=ai/\j<a.length /\
 (∀z,a[j]?=aa z->cC z y=ai)/\(∀(i:Nat) z,i<j->a[i]?=aa z->cC z y=aj)/\Q (.int j) H
theorem IY:qX X "tuple.index" (J6 X.K):=by
 intro ag s Z H x vs v us Q I D E h;obtain⟨p,d,y,j,rfl,rfl,N,S,z,hj,P,O,q⟩:=h;cases D;obtain⟨u,rfl,G⟩:=E.one;obtain⟨a,r,⟨⟨Y,W,B,C⟩,e,t,n,o⟩,hz⟩:=I.tuple N;simp only at t o;subst t o;have hl:a.length=d.length:=r.length.symm;have c:∀(i:Nat) (l:i<a.toArray.size),∃w,d[i]?=aa w/\im y a.toArray[i]=cC w y:=λi l=>by
  have K:i<a.length:=by simpa using l
  have A:d[i]?=aa d[i]:=eG ∅;obtain⟨w,b,J⟩:=r.get A;have T:a[i]=w:=by rw[eG K]at b;exact dA b
  refine⟨_,A,?_⟩;rw[<-tm J (kR.mp z _ (Ck _))];simp[T]
 refine uR F.slot_tuple_index ⟨_,e,rfl⟩ F.entry_tuple_index (F.args_tuple_index_2 _ _) (Kf p a.toArray n W C u (im y) j (by simp;lia) ?_ ?_) ⟨e,λw L=>p8 G S r z w (by simpa using L),?_⟩
 .obtain⟨w,b,f⟩:=c j (by simp;lia);rw[f];exact P w b
 .intro m M g;obtain⟨w,b,f⟩:=c m M;rw[f];exact O m w g b
 .exact⟨.int _,H,I.tok _,⟨_,rfl⟩,q⟩
end
end L2
namespace Pu
open L2
section
variable{X:Cx}{E:XK}{pin:List Nat}{e o:az}{d de:ak->R PV}{y:Str}
theorem Gd{b a:Pos}(Z:DE X E o d)(he:DE X E e de)(T:mZ o "index" X.env (aP o X.env)=aP o X.env:=by rfl)(P:(b.endLine == a.line)=ai:=by rfl) (c8:lw e=aj:=by rfl):DE X E (.Call (.Attribute o "index" b) [e] [] a) (kl oE d de):=λF S I u H Q N h=>by
 have s:=ka (es:=[]) (env:=X.env) c8;refine bW (yJ PySem.F.slot_tuple_index PySem.F.type_tuple_index IY bt (gU bt i5 s) T (by rw[s];rfl) P s rfl) (Z F S I u H _ N ((Ok.bind h).imp λx g F1 S1 H1 m g1 t v L=>?_));split at t
 .rename_i J;obtain⟨p,A,rfl,B,M⟩:=L;refine⟨⟨p,A,rfl,B⟩,he F1 S1 g u H1 _ m ((Ok.bind t).imp λk G F2 S2 H2 O D q w l=>?_)⟩;unfold oE at q;cases c:cx k with
  |none=>rw[c]at q;exact q.elim
  |some z=>
   cases r:gx J with
   |none=>rw[c,r]at q;exact q.elim
   |some K=>
    rw[c,r]at q;cases n:K.findIdx? (λy=>cC y z)with
    |none=>rw[iw,iw,n]at q;exact q.elim
    |some j=>
     rw[iw,iw,n]at q;obtain⟨rfl,hf⟩:=sT (M.grow D m.fit) r;rw[h8 l c];obtain⟨C,Y,W⟩:=KU.mp n;refine⟨p,A,z,j,rfl,rfl,bQ.of (D.imm m.fit B id),pP c,hf,C,λy f=>?_,λi y hi f=>?_,q F2 S2 H2 O (bn.refl ..) _ rfl⟩
     .rw[eG C]at f;cases f;exact Y
     .have:=W i hi;rw[eG ∅]at f;cases f;simpa using this
 .exact t.elim
def z_:V->List V->Hp->VK->Prop:=λx a H Q=>∃y c,x=tV y/\a=[tV c]/\Q (.bl (decide (c <:+ y))) H
theorem Kk(y c:Tx):Txt.endswith (tS y) (tS c)=decide (c <:+ y):=by
 have f:(tS y).length=y.length:=by simp[tS,lL]
 have b:(tS c).length=c.length:=by simp[tS,lL]
 unfold Txt.endswith Builtin.Str.subAt;rw[f,b,jN,eU,decide_eq_true_iff,decide_eq_true_iff,beq_iff_eq];have g:(tS y).cps.extract (y.length-c.length) (y.length-c.length+c.length)=(tS c).cps↔(y.drop (y.length-c.length)).take c.length=c:=by show y.toArray.extract _ _=c.toArray↔_;rw[<-Array.toList_inj];simp[List.extract_eq_take_drop]
 rw[g];constructor
 .rintro⟨h,a⟩;have:y.drop (y.length-c.length)=c:=by rw[jR (by simp;lia)]at a;exact a
  rw[<-this];exact List.drop_suffix _ _
 .rintro⟨p,rfl⟩;refine⟨by simp,?_⟩;simp
theorem Dt:uB X "str.endswith" z_:=by intro l s f H x g v i Q I a b h;obtain⟨y,c,rfl,rfl,q⟩:=h;obtain⟨t,rfl⟩:=a;obtain⟨u,rfl,j,rfl⟩:=vals1 b;exact SC.endswith ⟨.bl _,H,I.tok _,(by rw[Kk];rfl),q⟩
def pZ(y:Tx):List PV->Option PV
 |[.str c]=>aa (.bl (decide (c <:+ y)))
 |_=>ae
theorem JY{K:au}:PM K z_ pZ:=λF H y b f Q pv g a e q=>by
 unfold pZ at e;split at e
 .rename_i c;cases e;obtain⟨v,rfl,rfl,_⟩:=gu a;exact⟨y,c,rfl,rfl,q _ F H (Al.refl ..) rfl⟩
 .cases e
end
def nM:PV->PV->Option PV
 |.tup [],.tup b=>aa (.tup b)
 |.tup (x::a),.tup []=>if a.length<1000 then aa (.tup (x::a))else ae
 |x,y=>bg x y
theorem yU{K:au}:P2 K (λx y H Q=>xi K x y H Q\/tD K x y H Q) nM:=λF H x y v u Q pv d c e q=>by
 unfold nM at e;split at e
 .cases e;obtain⟨a,i,rfl,g,j⟩:=d;obtain⟨b,h,rfl,f,l⟩:=id c;rw[show i=[] from j]at g;exact .inl ⟨a,b,h,rfl,rfl,bQ.of g,bQ.of f,q _ F H (Al.refl ..) c⟩
 .split at e
  .rename_i n;cases e;obtain⟨a,i,rfl,g,j⟩:=id d;obtain⟨b,h,rfl,f,l⟩:=id c;rw[show h=[] from l]at f;have m:=j.len;refine .inr (.inr (.inl ⟨a,b,i,[],rfl,rfl,bQ.of g,bQ.of f,?_,?_,λ_=>q _ F H (Al.refl ..) d,λz=>absurd rfl z⟩))
   .rintro rfl;simp at m
   .rw[m,mV];simp;lia
  .cases e
 .exact .inr (eJ F H _ _ v u Q pv d c e q)
end Pu
namespace L2
section
variable{X:Cx}
def C6:V->List V->Hp->VK->Prop:=λx b H Q=>∃(l:af) (a:List Tx) (y:Tx),x=.ref l/\b=[tV y]/\H l=aa (.lst (bA a))/\y∈a/\Q .non (upd H l (.lst (bA (a.erase y))))
theorem HW{y:Tx}{c:List Tx}{b:List ah}(r:bh (bA c) b):∀u∈b,∃z t,u=Value.str (tS z) t:=by intro u d;obtain⟨i,f⟩:=Cr.mp d;obtain⟨v,a,g⟩:=ue r f;unfold bA at a;rw[iq]at a;obtain⟨z,_,rfl⟩:=pB.mp a;obtain⟨t,rfl⟩:=g;exact⟨z,t,rfl⟩
theorem AY{y:Tx}:∀{a:List Tx},y∈a->∃j,j<a.length/\a[j]?=aa y/\(∀i z,i<j->a[i]?=aa z->z≠y)/\a.eraseIdx j=a.erase y
 |x::a,h=>by
  by_cases e:x=y
  .subst e;exact⟨0,by simp,rfl,λi z c=>∅,by simp⟩
  .obtain⟨j,l,g,f,d⟩:=AY ((bF.mp h).resolve_left λz=>e z.symm);refine⟨j+1,by simp;lia,by simpa using g,λi z c b=>?_,by rw[xX,d,List.erase_cons_tail (by simpa using e)]⟩;cases i with
   |zero=>simp at b;subst b;exact e
   |succ i=>exact f i z ∅ (by simpa using b)
theorem zz{a b:Type}(f:a->b):∀(l:List a) (j:Nat),(l.map f).eraseIdx j=(l.eraseIdx j).map f
 |[],_=>rfl
 |x::l,0=>rfl
 |x::l,j+1=>by rw[ji,xX,xX,ji,zz f l j]
theorem Hj:qX X "list.remove" C6:=by
 intro ag s T H x W v Y Q I C D h;obtain⟨l,b,y,rfl,rfl,B,L,q⟩:=h;cases C;obtain⟨u,rfl,E⟩:=D.one;obtain⟨ty,rfl⟩:=E;obtain⟨z,a,n,r,O,e⟩:=I.lstM B;obtain⟨j,Z,K,J,p⟩:=AY L;have aW:a.length=b.length:=by rw[<-O];simp[bA]
 have f:∀(i:Nat) (A:i<a.toArray.size),∃w t,b[i]?=aa w/\a.toArray[i]=Value.str (tS w) t:=λi A=>by
  have G:i<a.length:=by simpa using A
  obtain⟨v,c,g⟩:=ue r (eG G);unfold bA at c;rw[iq]at c;obtain⟨w,S,rfl⟩:=pB.mp c;obtain⟨t,P⟩:=g;exact⟨w,t,S,by simpa using P⟩
 let eb:ah->Bool:=λv=>match v with|.str z _=>z.cps.toList == y|_=>aj
 have d:∀(w:Tx) (t:Tok),eb (.str (tS w) t)=(w == y):=λw t=>by show((tS w).cps.toList == y)=_;rw[i7]
 refine uR F.slot_list_remove ⟨_,e,rfl⟩ F.entry_list_remove (F.args_list_remove_2 _ _) (MeetsSeq.list_remove l a.toArray n (.str (tS y) ty) eb (λw M=>?_) j (by simp;lia) ?_ (λm N o=>?_) (by rw[bM];lia)) ⟨e,?_⟩
 .obtain⟨w,t,rfl⟩:=HW (y:=y) r w (by simpa using M);have:=SeqRoads2.EqGives.str (tS w) (tS y) t ty;rw[i7,i7]at this;rw[show eb (.str (tS w) t)=(w == y)from d w t];exact this
 .obtain⟨w,t,c,g⟩:=f j (by simp;lia);rw[K]at c;cases c;exact(congrArg eb g).trans ((d _ t).trans (by simp))
 .obtain⟨w,t,c,g⟩:=f m N;exact(congrArg eb g).trans ((d _ t).trans (by simpa using J m w o c))
 .refine⟨.non,_,I.lset (its':=a.eraseIdx j) B e (ys:=bA (b.erase y)) ?_ ?_ ?_,rfl,q⟩
  .show a.toArray.eraseIdxIfInBounds j=(a.eraseIdx j).toArray;rw[KZ]
  .have:=r.eraseIdx j;rw[<-p];unfold bA at this ⊢;rw[show(b.eraseIdx j).map tV=(b.map tV).eraseIdx j from(zz tV b j).symm];exact this
  .have:=y8 b j;rw[p]at this;have e2:(bA b).length=b.length:=by simp[bA]
   have e3:(bA (b.erase y)).length=(b.erase y).length:=by simp[bA]
   lia
end
end L2
namespace Pu
open L2
section
variable{X:Cx}{E:XK}{pin:List Nat}{e:az}{de:ak->R PV}{b:Pos}
def kn(i:Nat)(de:ak->R PV):ak->R aR:=λc=>(aZ (cX c i) c).bind λ_ c=>(de c).bind λy a=>(aZ (cX a i) a).bind λf a=>match y with
 |.str y=>(aZ (dZ f) a).bind λd a=>if y∈d then .ok .next (a.set i (.own (.lst (am (d.erase y)))))else .no
 |_=>.no
theorem KJ(i:Nat){x:Str}{p d c:Pos}(T:DE X E e de)(Z:X.N[i]?=aa x:=by rfl)(O:fE X.env.scope x:=by eq_refl)(W:(x==("__debug__":Str))=aj:=by decide)(bN:(x==("__classdict__":Str))=aj:=by decide) (h1:mZ (.Name x p) "remove" X.env (aP (.Name x p) X.env)=aP (.Name x p) X.env:=by rfl)(h2:((cM c (aN [e] X.env)).all (λx=>!x.1)&&(rf c (rg [] X.env)).all (λx=>x.1.isSome)&&decide ([e].length+([]:List jh).length+(if([]:List jh).isEmpty then 0 else 1)<30))=ai:=by rfl)(h3:(d.endLine == c.line)=ai:=by rfl) (w:aN [e] X.env=(aj,aP e X.env)::aN [] X.env:=by rfl) (h5:(cM c (aN [] X.env)).any (·.1)=aj:=by rfl)(P:kG (.Call (.Attribute (.Name x p) "remove" d) [e] [] c) ae b.line X.env=pure aj:=by rfl):DS X E pin (.Expr (.Call (.Attribute (.Name x p) "remove" d) [e] [] c) b) (kn i de):=λF S s r H D t h=>by
 unfold kn at h;cases o:cX s i with
 |none=>rw[o]at h;exact h.elim
 |some B=>
  rw[o]at h;simp only[dJ,R.bind_ok]at h;obtain⟨a,G,m,Y,_,_,_⟩:=t.lstAt (gz o);refine gW (tZ (uh Cs PySem.F.slot_list_remove PySem.F.type_list_remove Hj (gT Z O W bN) (gU bt i5 w) h1 h2 h3 w h5) P) ⟨.ref a,m,.inl ⟨rfl,_,bX.of Y⟩,?_⟩;refine T F S s r H _ t (h.bindE.imp λy j A S1 H1 u g1 q v I=>?_);cases g:cX j i with
  |none=>rw[g]at q;exact q.elim
  |some C=>
   rw[g]at q;simp only[dJ,R.bind_ok]at q;obtain⟨a',vs,f,M,K,_,_⟩:=u.lstAt (gz g);rw[m]at f;cases f;split at q
   .rename_i y;cases n:dZ C with
    |none=>rw[n]at q;exact q.elim
    |some l=>
     rw[n]at q;simp only[dJ,R.bind_ok]at q;obtain rfl:=nN n;obtain⟨rfl,aW⟩:=Lh.mp K;split at q
     .rename_i Q;have J:aX X.K H1 A (am (l.erase y)) (bA (l.erase y)):=Lh.mpr ⟨rfl,λz N=>aW z (CI N)⟩;obtain⟨L,g2⟩:=u.upd (gz g) m J;exact⟨a,l,y,rfl,by rw[I.1],M,Q,q A S1 r _ L g2 (h_.refl _ _)⟩
     .exact q.elim
   .exact q.elim
end
end Pu
local macro_rules | `(tactic| simp! [$xs,*]) => `(tactic| simp [Pu.br, Pu.df, Pu.dB, Pu.d2, Pu.d1, Pu.dV, Pu.dC, Pu.dL, Pu.dF, Pu.aB, Pu.aH, Pu.b8, Pu.ma, Pu.cS, Pu.iK, Pu.be, Pu.gV, Pu.gO, Pu.bK, Pu.iC, Pu.gA, Pu.cz, Pu.fj, Pu.f8, Pu.R.bind, Pu.aZ, Pu.bC, Pu.eB, Pu.bE, Pu.back, Pu.ga, Pu.ke, Pu.xk, Pu.vP, Pu.xq, Pu.wK, Pu.bo, Pu.ot, Pu.fF, Pu.fh, Pu.eD, Pu.BD, Pu.uu, Pu.Bs, Pu.kh, Pu.uk, Pu.vI, Pu.nK, Pu.li, Pu.AI, Pu.mC, Pu.e_, Pu.cX, Pu.mE, Pu.il, Pu.mn, Pu.imm, Pu.oG, Pu.ko, cO, kI, $xs,*])
local macro_rules | `(⇑$x) => `(.val (.int $x))
local macro_rules | `(↥$x) => `(.val (.str $x))
namespace Sh
open L2 Pu
set_option genInjectivity false in
structure Ad where
 SlitError:af
 NoText:af
 NoWidth:af
 NoView:af
 NoWindow:af
 Never:af
 Full:af
 Nothing:af
 Unlike:af
 NoPlace:af
 NoLetters:af
 BadText:af
 Seeker:af
 Slit:af
def yaf(a:Ad):ak->R aR:=b8 (dL oD (aB (dF (cZ [1] (cR (dV 0)) (fL) (d2 (nV aj) (dV 0) (dV 1)))) (aH)))
def ur(a:Ad):ak->R Slot:=bC 2 [] (bE 0 (yaf a))
def yai(a:Ad):ak->R aR:=b8 (li (dL gc (aB (dV 0) (aB (dC (.raw (.ty "int"))) (aH)))) (uk (dL gc (aB (dV 0) (aB (dC (.raw (.ty "bool"))) (aH))))))
def sS(a:Ad):ak->R Slot:=bC 1 [] (bE 0 (yai a))
def yaj(a:Ad):ak->R aR:=b8 (li (bo (be (sS a) (gV (dV 0) (bK)))) (mC (e_ λi j=>decide (i<=j)) (e_ λi j=>decide (i<=j)) (dC (.int 1)) (dV 0) (dC (.int 4))))
def oR(a:Ad):ak->R Slot:=bC 1 [] (bE 0 (yaj a))
def yak(a:Ad):ak->R aR:=b8 (li (dL gc (aB (dV 0) (aB (dC (.raw (.ty "str"))) (aH)))) (li (d2 (eqT aj) (dL bq (aB (dV 0) (aH))) (dV 1)) (bo (be (ur a) (gV (dV 0) (gV (dV 2) (bK)))))))
def oJ(a:Ad):ak->R Slot:=bC 3 [] (bE 0 (yak a))
def yad(a:Ad):ak->R aR:=br (df (nK (kh (dB (dL gc (aB (dV 0) (aB (dC (.raw (.ty "tuple"))) (aH)))))) (kh (dB (mC (e_ λi j=>decide (i<=j)) (e_ λi j=>decide (i<=j)) (dC (.int 1)) (dL bq (aB (dV 0) (aH))) (dC (.int 9)))))) (b8 (dC (.bl aj))) (eD))
 (br (df (kh (dB (dL oD (aB (dF (cZ [1,2] (cR (dV 0)) (fL) (bo (be (oJ a) (gV (dV 0) (gV (dV 1) (gV (dV 2) (bK)))))))) (aH))))) (b8 (dC (.bl aj))) (eD))
 (b8 (d2 (eqT aj) (dF (dL lu (aB (dV 0) (aH)))) (dF (dL iI (aB (dV 0) (aH)))))))
def lr(a:Ad):ak->R Slot:=bC 3 [] (bE 0 (yad a))
def yah(a:Ad):ak->R aR:=br (df (nK (kh (dB (dL gc (aB (dV 0) (aB (dC (.raw (.ty "tuple"))) (aH)))))) (dB (d2 (eqT ai) (dL bq (aB (dV 0) (aH))) (dC (.int 2))))) (b8 (dC (.bl aj))) (eD))
 (b8 (li (bo (be (oR a) (gV (d2 bT (dV 0) (dC (.int 0))) (bK)))) (bo (be (lr a) (gV (d2 bT (dV 0) (dC (.int 1))) (gV (d2 bT (dV 0) (dC (.int 0))) (gV (dV 1) (bK))))))))
def ox(a:Ad):ak->R Slot:=bC 2 [] (bE 0 (yah a))
def yag(a:Ad):ak->R aR:=ma (be (ox a) (gV (dV 0) (gV (dC (.str [97,98,99])) (bK))))
def t5(a:Ad):ak->R Slot:=bC 1 [] (bE 0 (yag a))
def yae(a:Ad):ak->R aR:=df (kh (dB (bo (be (t5 a) (gV (dV 0) (bK)))))) (zi (.ref a.NoView) (λb=>c_ ((dC (.str [97,32,118,105,101,119,32,105,115,32,97,32,116,117,112,108,101,32,111,102,32,97,32,119,105,100,116,104,32,97,110,100,32,97,32,114,105,115,105,110,103,32,116,117,112,108,101,32,111,102,32,49,32,116,111,32,57,32,119,105,110,100,111,119,115])) b))) (eD)
def qh(a:Ad):ak->R Slot:=bC 1 [] (bE 0 (yae a))
def yac(a:Ad):ak->R aR:=br (λb=>ff (dW 2 (dL p6 (aB (d2 gX (dL bq (aB (dV 1) (aH))) (dC (.int 1))) (aB (dC (.int 0)) (aB (d1 qo (dC (.int 1))) (aH))))) (df (dB (ql pZ (dV 0) (aB (fZ fe (dV 1) (jz) (eA (dV 2))) (aH)))) (b8 (fZ fe (dV 1) (eA (dV 2)) (jz))) (eD)) b))
 (b8 (dV 1))
def qg(a:Ad):ak->R Slot:=bC 2 [] (bE 1 (yac a))
def yaz(a:Ad):ak->R aR:=br (cS 2 (kl oE (dV 0) (dV 1)))
 (b8 (d2 nM (fZ fe (dV 0) (jz) (eA (dV 2))) (fZ fe (dV 0) (eA (d2 nM (dV 2) (dC (.int 1)))) (jz))))
def qr(a:Ad):ak->R Slot:=bC 2 [] (bE 1 (yaz a))
def yaw(a:Ad)(rc:ak->R Slot):ak->R aR:=br (df (dB (d2 (eqT aj) (dL bq (aB (dV 1) (aH))) (dC (.int 0)))) (b8 (dC (.str []))) (eD))
 (br (df (dB (mS ai 2 (dL fh (aB (dV 0) (aB (dV 1) (aH)))))) (br (iK 3 (dL fF (aH)))
 (br (λb=>ff (dW 4 (cR (dF (dL mL (aB (dV 1) (aH))))) (mE 3 (d2 bg (bo (be (qg a) (gV (dV 0) (gV (dV 4) (bK))))) (bo (be (rc) (gV (dV 4) (gV (bo (be (qr a) (gV (dV 1) (gV (dV 4) (bK))))) (gO 2 (bK)))))))) b))
 (qL 2 (dL fh (aB (dV 0) (aB (dV 1) (aH)))) (n6 3)))) (eD))
 (b8 (qV 2 (dL fh (aB (dV 0) (aB (dV 1) (aH)))))))
def iY(a:Ad):Nat->ak->R Slot
 |0=>bC 3 [2] (bE 2 zX)
 |k+1=>bC 3 [2] (bE 2 (yaw a (iY a k)))
def yay(a:Ad):ak->R aR:=br (uu (be (qh a) (gV (dV 0) (bK))))
 (ma (sN (iY a 10) (tL (dC (.str [])) (tL (d2 bT (dV 0) (dC (.int 1))) (gN (wQ) (bK))))))
def qC(a:Ad):ak->R Slot:=bC 1 [] (bE 0 (yay a))
def yao(a:Ad):ak->R aR:=br (df (dB (d2 (e_ λi j=>decide (i<j)) (dV 1) (dL bq (aB (dV 0) (aH))))) (b8 (d2 bT (dV 0) (dV 1))) (eD))
 (br (df (dB (d2 (eqT aj) (dV 0) (dF (dL fF (aH))))) (b8 (dC (.int 0))) (eD))
 (b8 (d2 bg (d2 i9 (d2 bT (dV 0) (d2 eM (dV 1) (dL bq (aB (dV 0) (aH))))) (dC (.int 31))) (dV 1))))
def om(a:Ad):ak->R Slot:=bC 2 [] (bE 0 (yao a))
def yaq(a:Ad):ak->R aR:=br (cS 3 (d2 eM (d2 bg (d2 bg (d2 i9 (bo (be (om a) (gV (dV 0) (gV (dV 1) (bK))))) (dC (.int 1103515245))) (d2 i9 (dC (.int 7919)) (dV 1))) (dC (.int 12345))) (dC (.int 2147483647))))
 (b8 (d2 eM (d2 eM (d2 eM (d2 qm (dV 3) (dC (.int 5))) (dC (.int 2147483647))) (dC (.int 999983))) (dV 2)))
def uo(a:Ad):ak->R Slot:=bC 3 [] (bE 1 (yaq a))
def yap(a:Ad):ak->R aR:=br (mE 1 (dC (.int 0)))
 (ma (be (uo a) (gV (dV 0) (gV (il (λb=>mn (bq b)) 1) (gV (dV 2) (bK))))))
def gD(a:Ad):ak->R Slot:=bC 3 [1] (bE 0 (yap a))
def yar(a:Ad):ak->R aR:=b8 (d2 bT (dV 2) (bo (be (gD a) (gV (dV 0) (gO 1 (gV (dL bq (aB (dV 2) (aH))) (bK)))))))
def tK(a:Ad):ak->R Slot:=bC 3 [1] (bE 0 (yar a))
def yat(a:Ad):ak->R aR:=br (cS 4 (bo (be (tK a) (gV (dV 0) (gO 1 (gV (dF (dL fF (aB (dC (.int 1)) (aB (dC (.int 2)) (aB (dC (.int 2)) (aB (dC (.int 3)) (aB (dC (.int 3)) (aB (dC (.int 3)) (aH))))))))) (bK)))))))
 (br (cS 5 (dC (.str [])))
 (br (λb=>ff (dW 6 (dL fM (aB (d2 bg (dV 2) (bo (be (gD a) (gV (dV 0) (gO 1 (gV (d2 bg (d2 gX (dV 3) (dV 2)) (dC (.int 1))) (bK))))))) (aH))) (cS 5 (d2 bg (dV 5) (d2 bT (dC (.str [97,98,99])) (bo (be (gD a) (gV (dV 0) (gO 1 (gV (dV 4) (bK))))))))) b))
 (b8 (dV 5))))
def kj(a:Ad):ak->R Slot:=bC 4 [1] (bE 3 (yat a))
def yas(a:Ad):ak->R aR:=b8 (dL i6 (aB (dF (dL iI (aB (dF (cZ [0,1] (dL fM (aB (dL bq (aB (dV 0) (aH))) (aH))) (dB (d2 (e_ λi j=>decide (i<=j)) (d2 bg (dV 0) (dV 2)) (dL bq (aB (dV 1) (aH))))) (fZ fe (dV 1) (eA (dV 0)) (eA (d2 bg (dV 0) (dV 2)))))) (aH)))) (aH)))
def kq(a:Ad):ak->R Slot:=bC 2 [] (bE 0 (yas a))
def yav(a:Ad):ak->R aR:=br (cS 4 (df (dB (d2 (eqT ai) (dV 2) (dC (.int 2)))) (d2 bg (dC (.int 2)) (bo (be (gD a) (gV (dV 0) (gO 1 (gV (dC (.int 3)) (bK))))))) (d2 bg (dC (.int 1)) (bo (be (gD a) (gV (dV 0) (gO 1 (gV (dC (.int 4)) (bK)))))))))
 (br (iK 5 (dL lu (aB (bo (be (kq a) (gV (bo (be (kj a) (gV (dV 0) (gO 1 (gV (dV 4) (gV (d2 gX (d2 bg (dV 4) (dV 3)) (dC (.int 1))) (bK))))))) (gV (dV 4) (bK))))) (aH))))
 (br (λc=>ff (dW 6 (dL fM (aB (d2 eM (dV 2) (dC (.int 3))) (aH))) (ut 5 (bo (be (gD a) (gV (dV 0) (gO 1 (gV (il (λb=>mn (bq b)) 5) (bK)))))) (bo (be (kj a) (gV (dV 0) (gO 1 (gV (dV 4) (gV (dV 4) (bK)))))))) c))
 (b8 (dL fh (aB (dV 4) (aB (dL i6 (aB (dF (il (λb=>oG (iI b)) 5)) (aH))) (aH)))))))
def pN(a:Ad):ak->R Slot:=bC 4 [1] (bE 3 (yav a))
def yau(a:Ad):ak->R aR:=br (cS 3 (bo (be (kq a) (gV (dV 0) (gV (dV 1) (bK))))))
 (b8 (dL oD (aB (dF (cZ [3,2] (cR (dV 3)) (fL) (d2 (e_ λi j=>decide (i<=j)) (kl my (dV 1) (dV 0)) (kl my (dV 2) (dV 0))))) (aH))))
def lA(a:Ad):ak->R Slot:=bC 3 [] (bE 1 (yau a))
def yan(a:Ad):ak->R aR:=br (wy 1 2 (dV 0))
 (br (cS 3 (dF (dL fF (aB (dC (.str [])) (aH)))))
 (br (λε=>ff (dW 4 (dL fM (aB (d2 gX (d2 bg (dL bq (aB (dV 2) (aH))) (dV 1)) (dC (.int 1))) (aH))) (br (iK 5 (dL fF (aH)))
 (br (dW 6 (cR (dV 3)) (mI 5 (dF (cZ [6,1,2] (cR (dC (.str [97,98,99]))) (dB (bo (be (lA a) (gV (d2 bg (dV 1) (dV 0)) (gV (dV 2) (gV (dV 3) (bK))))))) (d2 bg (dV 1) (dV 0))))))
 (cS 3 (dM 5)))) ε))
 (l8 (cZ [1,2] (cR (dV 3)) (dB (d2 (eqT aj) (bo (be (kq a) (gV (dV 0) (gV (dV 1) (bK))))) (dV 2))) (dV 0)))))
def tw(a:Ad):ak->R Slot:=bC 1 [] (bE 6 (yan a))
def yax(a:Ad):ak->R aR:=l8 (cZ [0,1] (dL fM (aB (d2 bg (d2 gX (dL bq (aB (dV 0) (aH))) (dV 1)) (dC (.int 1))) (aH))) (fL) (fZ fe (dV 1) (eA (dV 0)) (eA (d2 bg (dV 0) (dV 2)))))
def mR(a:Ad):ak->R Slot:=bC 2 [] (bE 0 (yax a))
def yal(a:Ad):ak->R aR:=br (iK 1 (ot (be (mR a) (gV (bo (be (qC a) (gV (dV 0) (bK)))) (gV (d2 bT (dV 0) (dC (.int 0))) (bK))))))
 (br (λb=>ff (dW 2 (cR (d2 bT (dV 0) (dC (.int 1)))) (kn 1 (dV 2)) b))
 (b8 (dF (il (λc=>oG (iI c)) 1))))
def tT(a:Ad):ak->R Slot:=bC 1 [] (bE 2 (yal a))
end Sh
local macro_rules | `(tactic| and_intros) => `(tactic| (refine' Pu.Ld ?a ?l ?c ?k; (case a => k_is); (case l => k_is); (case c => k_is); (case k => k_is)))
namespace K13
open L2 Pu Sh
def dj(i:Nat):a8:=PySem.Challenge.pw_slitview_k13_whole_lacking.main.body.getD i (.Pass ⟨0,0,0,0⟩)
abbrev vG:a8:=dj 23
abbrev vA:a8:=dj 24
abbrev wn:a8:=dj 25
abbrev sO:a8:=dj 28
abbrev xx:a8:=dj 26
abbrev v_:a8:=dj 27
abbrev vT:a8:=dj 29
abbrev tJ:a8:=dj 15
abbrev vW:a8:=dj 8
abbrev xF:a8:=dj 9
abbrev tq:a8:=dj 7
abbrev xg:a8:=dj 10
abbrev tt:a8:=dj 11
abbrev wV:a8:=dj 12
abbrev wA:a8:=dj 13
abbrev xG:a8:=dj 14
abbrev v7:a8:=dj 17
abbrev xu:a8:=dj 18
abbrev v6:a8:=dj 19
abbrev wT:a8:=dj 20
abbrev xm:a8:=dj 21
abbrev uv:a8:=dj 30
abbrev pU:a8:=dj 31
abbrev pO:a8:=dj 32
def qF(a:Ad):List af:=[a.NoView]
structure c0(K:au)(mg:Str->Option ah)(base:ay)(a:Ad):Prop where
 yao:cF K mg "_law_cell_at" vG
 yaq:cF K mg "_law_mixed" vA
 yap:cF K mg "_law_draw" wn
 yas:cF K mg "_law_seen" sO
 yar:cF K mg "_law_pick" xx
 yat:cF K mg "_law_text" v_
 yav:cF K mg "_law_view" vT
 yax:cF K mg "pieces" tJ
 yai:cF K mg "is_whole_number" vW
 yaj:cF K mg "is_width" xF
 yaf:cF K mg "has_only" tq
 yak:cF K mg "is_window" xg
 yad:cF K mg "are_windows" tt
 yah:cF K mg "is_view_with" wV
 yag:cF K mg "is_view" wA
 yae:cF K mg "check_view" xG
 yac:cF K mg "added_letters" v7
 yaz:cF K mg "without" xu
 yaw:cF K mg "least_ending" v6
 yay:cF K mg "shortest" wT
 yal:cF K mg "lacking" xm
 yau:cF K mg "_law_under" uv
 yan:cF K mg "_law_all" pU
 yam:cF K mg "law" pO
 yaB:mg "all"=ae
 yaC:mg "bool"=ae
 yaD:mg "int"=ae
 yaE:mg "isinstance"=ae
 yaF:mg "len"=ae
 yaG:mg "list"=ae
 yaH:mg "min"=ae
 yaI:mg "range"=ae
 yaJ:mg "set"=ae
 yaK:mg "sorted"=ae
 yaL:mg "str"=ae
 yaM:mg "tuple"=ae
 yaO:∃t,mg "LETTERS"=aa (.str (tS [97,98,99]) t)
 yaP:∃t,mg "MOST_WINDOWS"=aa (.int 9 t)
 yaQ:∃t,mg "WIDEST"=aa (.int 4 t)
 yab:mg "SlitError"=aa (.ref a.SlitError)
 yaa:mg "NoView"=aa (.ref a.NoView)
 yaN:OwnCls "NoView" a.NoView [.type "ValueError",.type "Exception",.type "BaseException",.type "object"] "ValueError.__new__" mg base
 yaA:∃c T,xn K mg "least_ending" c T
section
variable{P:aK}{w:aD}{K:au}{d:Str->Option ah}{b:ay}{a:Ad}
theorem Ic:cr ["_law_script","_law_k"] ["_law_script","_law_k"] (a6 vG):=by ac_nf
theorem Iq(G:c0 K d b a):cG (cp P w) P w K d b "_law_cell_at" 1 ["_law_script","_law_k"] (bP K (om a)) :=
 dy (k:=0) (pin:=[]) G.yao Ic rfl (λ_ _ _ _ _ _ g i=>Pu.Le (λ_ _=>rfl) g i) (λf j A c s H E h=>by exact
  (bU (iH (jy Be lz (aw 1) (dI gy gC G.yaF gw (aV (aw 0) ba)) rfl) (bB (cK (gQ gY gZ (aw 0) (aw 1)))) iD)
  (bU (iH (jy (mP h.units) mv (aw 0) (qG ba) rfl) (bB (cK bv)) iD)
  (bB (cK (b0 eN eJ (b0 wg v3 (gQ gY gZ (aw 0) (b0 nQ oV (aw 1) (dI gy gC G.yaF gw (aV (aw 0) ba)))) bv) (aw 1)))))))
theorem Hr:cr ["_law_script","_law_k","_law_many","_law_drawn"] ["_law_script","_law_k","_law_many"] (a6 vA):=by ac_nf
theorem C1(G:c0 K d b a):cG (cp P w) P w K d b "_law_mixed" 2 ["_law_script","_law_k","_law_many"] (bP K (uo a)) :=
 dy (k:=1) (pin:=[]) G.yaq Hr rfl (λ_ _ _ _ _ _ g i=>Pu.Lm (λ_ _ _=>rfl) g i) (λf j A c s H E h=>by exact
  (bU (gs 3 Hr.nd (b0 nQ oV (b0 eN eJ (b0 eN eJ (b0 wg v3 ((bZ (Iq G) (h.mono (by decide)) cQ (aT (aw 0) (aT (aw 1) bR)))).de bv) (b0 wg v3 bv (aw 1))) bv) bv))
  (bB (cK (b0 nQ oV (b0 nQ oV (b0 nQ oV (b0 Ja KG (aw 3) bv) bv) bv) (aw 2))))))
theorem JT:cr ["_law_script","_law_town","_law_many"] ["_law_script","_law_town","_law_many"] (a6 wn):=by ac_nf
theorem lg(G:c0 K d b a):cG (cp P w) P w K d b "_law_draw" 3 ["_law_script","_law_town","_law_many"] (bP K (gD a)) :=
 dy (k:=2) (pin:=[1]) G.yap JT rfl (λ_ _ _ _ _ _ g i=>Pu.Lm (λ_ _ _=>rfl) g i) (λf j A c s H E h=>by exact
  (bU (Au 1 bv)
  (bB (vC (bZ (C1 G) (h.mono (by decide)) cQ (aT (aw 0) (aT (AZ 1 gy gC G.yaF gw) (aT (aw 2) bR))))))))
theorem Jr:cr ["_law_text_here","_law_width"] ["_law_text_here","_law_width"] (a6 sO):=by ac_nf
theorem sQ(G:c0 K d b a):cG (cp P w) P w K d b "_law_seen" 1 ["_law_text_here","_law_width"] (bP K (kq a)) :=
 dy (k:=0) (pin:=[]) G.yas Jr rfl (λ_ _ _ _ _ _ i l=>Pu.Le (λ_ _=>rfl) i l) (λf o A h s H E n=>by exact
  (bB (cK (ux uf ui G.yaM n9 (aV (qc mf mQ G.yaK lq (aV (lc (cap:=[0,1]) (N':=["_law_at","_law_text_here","_law_width"]) (jC.of ["_law_text_here","_law_width"] (a6 sO) rfl rfl (by decide +kernel)) rfl (nR G.yaI (aV (dI gy gC G.yaF gw (aV (aw 0) ba)) ba)) (λC c g m j=>by exact wu (jy nJ lz (b0 eN eJ (aw 0) (aw 2)) (dI gy gC G.yaF gw (aV (aw 1) ba)) rfl)) (λC c g m j=>by exact(oM oS oQ (aw 1) (lh (aw 0)) (lh (b0 eN eJ (aw 0) (aw 2)))))).de ba)).de ba)))))
theorem Hu:cr ["_law_script","_law_town","_law_some"] ["_law_script","_law_town","_law_some"] (a6 xx):=by ac_nf
theorem Ko(G:c0 K d b a):cG (cp P w) P w K d b "_law_pick" 4 ["_law_script","_law_town","_law_some"] (bP K (tK a)) :=
 dy (k:=3) (pin:=[1]) G.yar Hu rfl (λ_ _ _ _ _ _ g i=>Pu.Lm (λ_ _ _=>rfl) g i) (λf j A c s H E h=>by exact
  (bB (cK (gQ gY gZ (aw 2) ((bZ (lg G) (h.mono (by decide)) cQ (aT (aw 0) (gR 1 (aT (dI gy gC G.yaF gw (aV (aw 2) ba)) bR))))).de))))
theorem Ku:cr ["_law_script","_law_town","_law_low","_law_most","_law_few","_law_made","_law_k"] ["_law_script","_law_town","_law_low","_law_most"] (a6 v_):=by ac_nf
theorem vJ(G:c0 K d b a):cG (cp P w) P w K d b "_law_text" 5 ["_law_script","_law_town","_law_low","_law_most"] (bP K (kj a)) :=
 dy (k:=4) (pin:=[1]) G.yat Ku rfl (λ_ _ _ _ _ _ h i=>Pu.Lz (λ_ _ _ _=>rfl) h i) (λf j A c s H E g=>by exact
  (bU (gs 4 Ku.nd ((bZ (Ko G) (g.mono (by decide)) cQ (aT (aw 0) (gR 1 (aT (qG (aV bv (aV bv (aV bv (aV bv (aV bv (aV bv ba))))))) bR))))).de)
  (bU (gs 5 Ku.nd (mM []))
  (bU (n5 (mx 6 pD rfl Ku.nd (nR G.yaI (aV (b0 eN eJ (aw 2) ((bZ (lg G) (g.mono (by decide)) ja (aT (aw 0) (gR 1 (aT (b0 eN eJ (b0 pR pV (aw 3) (aw 2)) bv) bR))))).de) ba)) (bB (gs 5 Ku.nd (b0 eN eJ (aw 5) (gQ gY gZ (mM [97,98,99]) ((bZ (lg G) (g.mono (by decide)) ja (aT (aw 0) (gR 1 (aT (aw 4) bR))))).de))))))
  (bB (cK (aw 5)))))))
theorem JI:cr ["_law_script","_law_town","_law_spoil","_law_most","_law_width","_law_windows","_law_k"] ["_law_script","_law_town","_law_spoil","_law_most"] (a6 vT):=by ac_nf
theorem IS(G:c0 K d b a):cG (cp P w) P w K d b "_law_view" 6 ["_law_script","_law_town","_law_spoil","_law_most"] (bP K (pN a)) :=
 dy (k:=5) (pin:=[1]) G.yav JI rfl (λ_ _ _ _ _ _ h i=>Pu.Lz (λ_ _ _ _=>rfl) h i) (λf j A g s H E c=>by exact
  (bU (gs 4 JI.nd (Hq (jy (p_ c.units) qB (aw 2) bv rfl) (b0 eN eJ bv ((bZ (lg G) (c.mono (by decide)) cQ (aT (aw 0) (gR 1 (aT bv bR))))).de) (b0 eN eJ bv ((bZ (lg G) (c.mono (by decide)) cQ (aT (aw 0) (gR 1 (aT bv bR))))).de)))
  (bU (qE 5 JI.nd (wa xC wx G.yaG tf (aV ((bZ (sQ G) (c.mono (by decide)) cQ (aT ((bZ (vJ G) (c.mono (by decide)) cQ (aT (aw 0) (gR 1 (aT (aw 4) (aT (b0 pR pV (b0 eN eJ (aw 4) (aw 3)) bv) bR)))))).de (aT (aw 4) bR)))).de ba)))
  (bU (n5 (mx 6 pD rfl JI.nd (nR G.yaI (aV (b0 nQ oV (aw 2) bv) ba)) (bB (HI 5 ((bZ (lg G) (c.mono (by decide)) ja (aT (aw 0) (gR 1 (aT (AZ 5 gy gC G.yaF gw) bR))))).de ((bZ (vJ G) (c.mono (by decide)) ja (aT (aw 0) (gR 1 (aT (aw 4) (aT (aw 4) bR)))))).de))))
  (bB (cK (qd (aV (aw 4) (aV (ux uf ui G.yaM n9 (aV (AO 5 mf mQ G.yaK lq).de ba)) ba)))))))))
theorem Jx:cr ["text","length"] ["text","length"] (a6 tJ):=by ac_nf
theorem Kh(G:c0 K d b a):cG (cp P w) P w K d b "pieces" 1 ["text","length"] (bP K (mR a)) :=
 dy (k:=0) (pin:=[]) G.yax Jx rfl (λ_ _ _ _ _ _ i l=>Pu.Le (λ_ _=>rfl) i l) (λf o A h s H E n=>by exact
  (bB (z8 (lc (cap:=[0,1]) (N':=["place","text","length"]) (jC.of ["text","length"] (a6 tJ) rfl rfl (by decide +kernel)) rfl (nR G.yaI (aV (b0 eN eJ (b0 pR pV (dI gy gC G.yaF gw (aV (aw 0) ba)) (aw 1)) bv) ba)) (λC c g m j=>by exact qa) (λC c g m j=>by exact(oM oS oQ (aw 1) (lh (aw 0)) (lh (b0 eN eJ (aw 0) (aw 2)))))))))
theorem FQ:cr ["thing"] ["thing"] (a6 vW):=by ac_nf
theorem D8(G:c0 K d b a):cG (cp P w) P w K d b "is_whole_number" 1 ["thing"] (bP K (sS a)) :=
 dy (k:=0) (pin:=[]) G.yai FQ rfl (λ_ _ _ _ _ _ g h=>Pu.Lp (λ_=>rfl) g h) (λf j A c s H E i=>by exact
  (bB (cK (qH (dI nO oq G.yaE oz (aV (aw 0) (aV (nW G.yaD HH) ba))) (sM (IJ (dI nO oq G.yaE oz (aV (aw 0) (aV (nW G.yaC Hz) ba)))))))))
theorem JH:cr ["thing"] ["thing"] (a6 xF):=by ac_nf
theorem FH(G:c0 K d b a):cG (cp P w) P w K d b "is_width" 2 ["thing"] (bP K (oR a)) :=
 dy (k:=1) (pin:=[]) G.yaj JH rfl (λ_ _ _ _ _ _ g i=>Pu.Lp (λ_=>rfl) g i) (λf j A c s H E h=>by exact
  (bB (cK (qH ((bZ (D8 G) (h.mono (by decide)) cQ (aT (aw 0) bR))).de (sM (J_ nJ nJ lz lz bv (aw 0) (Bk G.yaQ)))))))
theorem En:cr ["text","signs"] ["text","signs"] (a6 tq):=by ac_nf
theorem Hw(G:c0 K d b a):cG (cp P w) P w K d b "has_only" 1 ["text","signs"] (bP K (ur a)) :=
 dy (k:=0) (pin:=[]) G.yaf En rfl (λ_ _ _ _ _ _ i l=>Pu.Le (λ_ _=>rfl) i l) (λf o A h s H E n=>by exact
  (bB (cK (dI (xp rfl) xH G.yaB xE (aV (lc (cap:=[1]) (N':=["sign","signs"]) (jC.of ["text","signs"] (a6 tq) rfl rfl (by decide +kernel)) rfl (lC (aw 0)) (λC c g m j=>by exact qa) (λC c g m j=>by exact(mO Jk Dg (aw 0) (aw 1) rfl))).de ba)))))
theorem Eu:cr ["thing","width","signs"] ["thing","width","signs"] (a6 xg):=by ac_nf
theorem Fv(G:c0 K d b a):cG (cp P w) P w K d b "is_window" 2 ["thing","width","signs"] (bP K (oJ a)) :=
 dy (k:=1) (pin:=[]) G.yak Eu rfl (λ_ _ _ _ _ _ h i=>Pu.Lm (λ_ _ _=>rfl) h i) (λf j A c s H E g=>by exact
  (bB (cK (qH (dI nO oq G.yaE oz (aV (aw 0) (aV (nW G.yaL Gr) ba))) (qH (mO (mP g.units) mv (dI gy gC G.yaF gw (aV (aw 0) ba)) (aw 1) rfl) (sM ((bZ (Hw G) (g.mono (by decide)) cQ (aT (aw 0) (aT (aw 2) bR)))).de))))))
theorem IN:cr ["thing","width","signs"] ["thing","width","signs"] (a6 tt):=by ac_nf
theorem Gj(G:c0 K d b a):cG (cp P w) P w K d b "are_windows" 3 ["thing","width","signs"] (bP K (lr a)) :=
 dy (k:=2) (pin:=[]) G.yad IN rfl (λ_ _ _ _ _ _ j m=>Pu.Lm (λ_ _ _=>rfl) j m) (λf o A h s H E i=>by exact
  (bU (iH ((vL (nX (mT (dI nO oq G.yaE oz (aV (aw 0) (aV (nW G.yaM n9) ba))))) (vH (nX (Ep nJ nJ lz lz bv (dI gy gC G.yaF gw (aV (aw 0) ba)) (Bk G.yaP)))))).dt (bB (cK qv)) iD)
  (bU (iH (nX (mT (dI (xp rfl) xH G.yaB xE (aV (lc (cap:=[1,2]) (N':=["window","width","signs"]) (jC.of ["thing","width","signs"] (a6 tt) rfl rfl (by decide +kernel)) rfl (lC (aw 0)) (λC c g n l=>by exact qa) (λC c g n l=>by exact((bZ (Fv G) (i.mono (by decide)) ja (aT (aw 0) (aT (aw 1) (aT (aw 2) bR))))).de)).de ba)))) (bB (cK qv)) iD)
  (bB (cK (mO (mP i.units) mv (wa xC wx G.yaG tf (aV (aw 0) ba)).de (qc mf mQ G.yaK lq (aV (aw 0) ba)).de rfl))))))
theorem C9:cr ["thing","signs"] ["thing","signs"] (a6 wV):=by ac_nf
theorem Ev(G:c0 K d b a):cG (cp P w) P w K d b "is_view_with" 4 ["thing","signs"] (bP K (ox a)) :=
 dy (k:=3) (pin:=[]) G.yah C9 rfl (λ_ _ _ _ _ _ h i=>Pu.Le (λ_ _=>rfl) h i) (λf j A c s H E g=>by exact
  (bU (iH ((vL (nX (mT (dI nO oq G.yaE oz (aV (aw 0) (aV (nW G.yaM n9) ba))))) (vH (jy (p_ g.units) qB (dI gy gC G.yaF gw (aV (aw 0) ba)) bv rfl)))).dt (bB (cK qv)) iD)
  (bB (cK (qH ((bZ (FH G) (g.mono (by decide)) cQ (aT (gQ gY gZ (aw 0) bv) bR))).de (sM ((bZ (Gj G) (g.mono (by decide)) cQ (aT (gQ gY gZ (aw 0) bv) (aT (gQ gY gZ (aw 0) bv) (aT (aw 1) bR))))).de))))))
theorem DV:cr ["thing"] ["thing"] (a6 wA):=by ac_nf
theorem IK(G:c0 K d b a):cG (cp P w) P w K d b "is_view" 5 ["thing"] (bP K (t5 a)) :=
 dy (k:=4) (pin:=[]) G.yag DV rfl (λ_ _ _ _ _ _ g i=>Pu.Lp (λ_=>rfl) g i) (λf j A c s H E h=>by exact
  (bB (vC (bZ (Ev G) (h.mono (by decide)) cQ (aT (aw 0) (aT (JE G.yaO) bR))))))
theorem Kx:cr ["thing"] ["thing"] (a6 xG):=by ac_nf
theorem Jf(G:c0 K d b a):cG (cp P w) P w K d b "check_view" 6 ["thing"] (bP K (qh a)) :=
 dy (k:=5) (pin:=[]) G.yae Kx rfl (λ_ _ _ _ _ _ g i=>Pu.Lp (λ_=>rfl) g i) (λf j A c s H E h=>by exact
  (bB (iH (nX (mT ((bZ (IK G) (h.mono (by decide)) cQ (aT (aw 0) bR))).de)) (bB (Hk D5 rfl G.yaN PySem.F.excBase_ValueError (mM [97,32,118,105,101,119,32,105,115,32,97,32,116,117,112,108,101,32,111,102,32,97,32,119,105,100,116,104,32,97,110,100,32,97,32,114,105,115,105,110,103,32,116,117,112,108,101,32,111,102,32,49,32,116,111,32,57,32,119,105,110,100,111,119,115]))) iD)))
theorem Iv:cr ["ahead","window","shared"] ["ahead","window"] (a6 v7):=by ac_nf
theorem IG(G:c0 K d b a):cG (cp P w) P w K d b "added_letters" 1 ["ahead","window"] (bP K (qg a)) :=
 dy (k:=0) (pin:=[]) G.yac Iv rfl (λ_ _ _ _ _ _ g h=>Pu.Le (λ_ _=>rfl) g h) (λf j A c s H E i=>by exact
  (bU (n5 (mx 2 pD rfl Iv.nd (D3 G.yaI (aV (b0 pR pV (dI gy gC G.yaF gw (aV (aw 1) ba)) bv) (aV bv (aV (G_ Fs JU bv) ba)))) (bB (iH (mT (Ge PySem.F.slot_str_endswith PySem.F.type_str_endswith Dt JY (aw 0) (aV (oM oS oQ (aw 1) tN (lh (aw 2))) ba))) (bB (cK (oM oS oQ (aw 1) (lh (aw 2)) tN))) iD))))
  (bB (cK (aw 1)))))
theorem HB:cr ["windows","window","place"] ["windows","window"] (a6 xu):=by ac_nf
theorem G0(G:c0 K d b a):cG (cp P w) P w K d b "without" 1 ["windows","window"] (bP K (qr a)) :=
 dy (k:=0) (pin:=[]) G.yaz HB rfl (λ_ _ _ _ _ _ g h=>Pu.Le (λ_ _=>rfl) g h) (λf j A c s H E i=>by exact
  (bU (gs 2 HB.nd (Gd (aw 0) (aw 1)))
  (bB (cK (b0 y_ yU (oM oS oQ (aw 0) tN (lh (aw 2))) (oM oS oQ (aw 0) (lh (b0 y_ yU (aw 2) bv)) tN))))))
theorem zI:cr ["ahead","left","known","endings","window"] ["ahead","left","known"] (a6 v6):=by ac_nf
theorem Dz(G:c0 K d b a)(m:Nat):cG (cp P w) P w K d b "least_ending" (2+m) ["ahead","left","known"] (bP K (iY a m)):=by
 induction m with
 |zero=>exact dy (k:=1) (pin:=[2]) G.yaw zI rfl (λ_ _ _ _ _ _ i j=>Pu.Lm (λ_ _ _=>rfl) i j) (λf o A h s H E g=>JV)
 |succ m n=>exact Jg (k:=2+m) (pin:=[2]) G.yaA (by decide) G.yaw zI rfl (λ_ _ _ _ _ _ i j=>Pu.Lm (λ_ _ _=>rfl) i j) (λf o c T A h s H E g l=>by exact
  (bU (iH (jy (mP g.units) mv (dI gy gC G.yaF gw (aV (aw 1) ba)) bv rfl) (bB (cK (mM []))) iD)
  (bU (iH (Dp 2 g.units (qd (aV (aw 0) (aV (aw 1) ba)))) (bU (qE 3 zI.nd (s_ ba))
  (bU (n5 (mx 4 pD rfl zI.nd (lC (D7 rfl (aV (aw 1) ba) G.yaK G.yaJ).de) (bB (Au 3 (b0 eN eJ ((bZ (IG G) (g.mono ∅) ja (aT (aw 0) (aT (aw 4) bR)))).de ((bZ n (g.mono ∅) ja (aT (aw 4) (aT ((bZ (G0 G) (g.mono ∅) ja (aT (aw 1) (aT (aw 4) bR)))).de (gR 2 bR))))).de)))))
  (bB (Iz 2 g.units (qd (aV (aw 0) (aV (aw 1) ba))) (EF 3 rfl g.d1 g.units (by first|exact l|exact tz.nox l) G.yaH G.yaF))))) iD)
  (bB (cK (J5 2 g.units (qd (aV (aw 0) (aV (aw 1) ba)))))))))
theorem Gt:cr ["view"] ["view"] (a6 wT):=by ac_nf
theorem Bv(G:c0 K d b a):cG (cp P w) P w K d b "shortest" 13 ["view"] (bP K (qC a)) :=
 dy (k:=12) (pin:=[]) G.yay Gt rfl (λ_ _ _ _ _ _ h i=>Pu.Lp (λ_=>rfl) h i) (λf j A c s H E g=>by exact
  (bU (Do (bZ (Jf G) (g.mono (by decide)) cQ (aT (aw 0) bR)))
  (bB (vC (IR (Dz G 10) (g.mono (by decide)) cQ (yS (mM []) (yS (gQ gY gZ (aw 0) bv) (E_ (KH) bR))))))))
theorem Di:cr ["view","more","window"] ["view"] (a6 xm):=by ac_nf
theorem D4(G:c0 K d b a):cG (cp P w) P w K d b "lacking" 14 ["view"] (bP K (tT a)) :=
 dy (k:=13) (pin:=[]) G.yal Di rfl (λ_ _ _ _ _ _ h i=>Pu.Lp (λ_=>rfl) h i) (λf j A c s H E g=>by exact
  (bU (qE 1 Di.nd (((bZ (Kh G) (g.mono (by decide)) cQ (aT ((bZ (Bv G) (g.mono (by decide)) cQ (aT (aw 0) bR))).de (aT (gQ gY gZ (aw 0) bv) bR)))).dn))
  (bU (n5 (mx 2 pD rfl Di.nd (lC (gQ gY gZ (aw 0) bv)) (bB (KJ 1 (aw 2)))))
  (bB (cK (AO 1 mf mQ G.yaK lq).de)))))
theorem Du:cr ["_law_text_here","_law_width","_law_windows","_law_made"] ["_law_text_here","_law_width","_law_windows"] (a6 uv):=by ac_nf
theorem GZ(G:c0 K d b a):cG (cp P w) P w K d b "_law_under" 2 ["_law_text_here","_law_width","_law_windows"] (bP K (lA a)) :=
 dy (k:=1) (pin:=[]) G.yau Du rfl (λ_ _ _ _ _ _ i m=>Pu.Lm (λ_ _ _=>rfl) i m) (λf o A h s H E l=>by exact
  (bU (gs 3 Du.nd ((bZ (sQ G) (l.mono (by decide)) cQ (aT (aw 0) (aT (aw 1) bR)))).de)
  (bB (cK (dI (xp rfl) xH G.yaB xE (aV (lc (cap:=[3,2]) (N':=["_law_window","_law_made","_law_windows"]) (jC.of ["_law_text_here","_law_width","_law_windows","_law_made"] (a6 uv) rfl rfl (by decide +kernel)) rfl (lC (aw 3)) (λC c g n j=>by exact qa) (λC c g n j=>by exact(mO nJ lz (Ax (aw 1) (aw 0)) (Ax (aw 2) (aw 0)) rfl))).de ba))))))
theorem EW:cr ["_law_asked","_law_width","_law_windows","_law_rows","_law_k","_law_longer","_law_line"] ["_law_asked"] (a6 pU):=by ac_nf
theorem EE(G:c0 K d b a):cG (cp P w) P w K d b "_law_all" 3 ["_law_asked"] (bP K (tw a)) :=
 dy (k:=2) (pin:=[]) G.yan EW rfl (λ_ _ _ _ _ _ m n=>Pu.Lp (λ_=>rfl) m n) (λf o A i s H E j=>by exact
  (bU (Kb 1 2 rfl EW.nd (aw 0))
  (bU (gs 3 EW.nd (qG (aV (mM []) ba)))
  (bU (n5 (mx 4 pD rfl EW.nd (nR G.yaI (aV (b0 pR pV (b0 eN eJ (dI gy gC G.yaF gw (aV (aw 2) ba)) (aw 1)) bv) ba)) (bU (qE 5 EW.nd (s_ ba))
  (bU (mx 6 pD rfl EW.nd (lC (aw 3)) (bB (Ga 5 (lc (cap:=[6,1,2]) (N':=["_law_letter","_law_line","_law_width","_law_windows"]) (jC.of ["_law_asked","_law_width","_law_windows","_law_rows","_law_k","_law_longer","_law_line"] (a6 pU) rfl rfl (by decide +kernel)) rfl (lC (mM [97,98,99])) (λC c g l h=>by exact wu (mT ((bZ (GZ G) (j.mono (by decide)) ja (aT (b0 eN eJ (aw 1) (aw 0)) (aT (aw 2) (aT (aw 3) bR))))).de)) (λC c g l h=>by exact(b0 eN eJ (aw 1) (aw 0)))).de)))
  (bB (gs 3 EW.nd (Kl 5)))))))
  (bB (z8 (lc (cap:=[1,2]) (N':=["_law_line","_law_width","_law_windows"]) (jC.of ["_law_asked","_law_width","_law_windows","_law_rows","_law_k","_law_longer","_law_line"] (a6 pU) rfl rfl (by decide +kernel)) rfl (lC (aw 3)) (λC c g l h=>by exact wu (jy (mP j.units) mv ((bZ (sQ G) (j.mono (by decide)) ja (aT (aw 0) (aT (aw 1) bR)))).de (aw 2) rfl)) (λC c g l h=>by exact(aw 0)))))))))
def yam(a:Ad):ak->R aR:=br (iK 1 (dL fF (aH)))
 (br (cS 2 (bo (be (gD a) (gV (dV 0) (gO 1 (gV (dC (.int 4)) (bK)))))))
 (br (cS 3 (bo (be (gD a) (gV (dV 0) (gO 1 (gV (dC (.int 3)) (bK)))))))
 (br (cS 4 (bo (be (pN a) (gV (dV 0) (gO 1 (gV (dV 3) (gV (dC (.int 7)) (bK))))))))
 (br (df (dB (d2 (e_ λi j=>decide (i<j)) (dV 2) (dC (.int 2)))) (br (cS 5 (d2 bT (dV 4) (dC (.int 0))))
 (cS 4 (dL fh (aB (dV 5) (aB (dL i6 (aB (dF (dL iI (aB (dF (cZ [0,1,5] (dL fM (aB (dL bq (aB (d2 bT (dV 4) (dC (.int 1))) (aH))) (aH))) (fL) (bo (be (kj a) (gV (dV 1) (gO 2 (gV (dV 3) (gV (dV 3) (bK))))))))) (aH)))) (aH))) (aH)))))) (eD))
 (br (cS 6 (bo (be (tT a) (gV (dV 4) (bK)))))
 (br (df (nK (kh (dB (dL gc (aB (dV 6) (aB (dC (.raw (.ty "list"))) (aH)))))) (dB (d2 (eqT ai) (dV 6) (dF (dL iI (aB (dV 6) (aH))))))) (b8 (dC (.bl aj))) (eD))
 (br (df (dB (d2 (eqT ai) (dL i6 (aB (dF (dL iI (aB (d2 bg (dV 6) (dF (dL lu (aB (d2 bT (dV 4) (dC (.int 1))) (aH))))) (aH)))) (aH))) (bo (be (kq a) (gV (bo (be (qC a) (gV (dV 4) (bK)))) (gV (d2 bT (dV 4) (dC (.int 0))) (bK))))))) (b8 (dC (.bl aj))) (eD))
 (b8 (d2 (eqT aj) (d2 (eqT aj) (dV 6) (dF (dL fF (aH)))) (d2 (eqT ai) (bo (be (tw a) (gV (dV 4) (bK)))) (dF (dL fF (aH)))))))))))))
def qb(a:Ad):ak->R Slot:=bC 1 [] (bE 6 (yam a))
theorem G9:cr ["_law_script","_law_town","_law_way","_law_spoil","_law_asked","_law_width","_law_made"] ["_law_script"] (a6 pO):=by ac_nf
theorem GV(G:c0 K d b a){f:af}{j:gh}(p:mr K "law" "law" pO f j):iZ P w K d b (cp P w) 15 f j ["_law_script"] (bP K (qb a)) :=
 FX (k:=14) (pin:=[]) p G9 rfl (λ_ _ _ _ _ _ l n=>Pu.Lp (λ_=>rfl) l n) (λf q A i s H E c=>by exact
  (bU (qE 1 G9.nd (s_ ba))
  (bU (gs 2 G9.nd ((bZ (lg G) (c.mono (by decide)) cQ (aT (aw 0) (gR 1 (aT bv bR))))).de)
  (bU (gs 3 G9.nd ((bZ (lg G) (c.mono (by decide)) cQ (aT (aw 0) (gR 1 (aT bv bR))))).de)
  (bU (gs 4 G9.nd ((bZ (IS G) (c.mono (by decide)) cQ (aT (aw 0) (gR 1 (aT (aw 3) (aT bv bR)))))).de)
  (bU (iH (jy Be lz (aw 2) bv rfl) (bU (gs 5 G9.nd (gQ gY gZ (aw 4) bv))
  (bB (gs 4 G9.nd (qd (aV (aw 5) (aV (ux uf ui G.yaM n9 (aV (qc mf mQ G.yaK lq (aV (lc (cap:=[0,1,5]) (N':=["_law_k","_law_script","_law_town","_law_width"]) (jC.of ["_law_script","_law_town","_law_way","_law_spoil","_law_asked","_law_width","_law_made"] (a6 pO) rfl rfl (by decide +kernel)) rfl (nR G.yaI (aV (dI gy gC G.yaF gw (aV (gQ gY gZ (aw 4) bv) ba)) ba)) (λC g h o m=>by exact qa) (λC g h o m=>by exact((bZ (vJ G) (c.mono (by decide)) ja (aT (aw 1) (gR 2 (aT (aw 3) (aT (aw 3) bR)))))).de)).de ba)).de ba)) ba)))))) iD)
  (bU (gs 6 G9.nd ((bZ (D4 G) (c.mono (by decide)) cQ (aT (aw 4) bR))).de)
  (bU (iH ((vL (nX (mT (dI nO oq G.yaE oz (aV (aw 6) (aV (nW G.yaG tf) ba))))) (vH (jy (p_ c.units) qB (aw 6) (qc mf mQ G.yaK lq (aV (aw 6) ba)).de rfl)))).dt (bB (cK qv)) iD)
  (bU (iH (jy (p_ c.units) qB (ux uf ui G.yaM n9 (aV (qc mf mQ G.yaK lq (aV (b0 eN eJ (aw 6) (wa xC wx G.yaG tf (aV (gQ gY gZ (aw 4) bv) ba)).de) ba)).de ba)) ((bZ (sQ G) (c.mono (by decide)) cQ (aT ((bZ (Bv G) (c.mono (by decide)) cQ (aT (aw 4) bR))).de (aT (gQ gY gZ (aw 4) bv) bR)))).de rfl) (bB (cK qv)) iD)
  (bB (cK (mO (mP c.units) mv (mO (mP c.units) mv (aw 6) (qG ba) rfl) (mO (p_ c.units) qB ((bZ (EE G) (c.mono (by decide)) cQ (aT (aw 4) bR))).de (qG ba) rfl) rfl))))))))))))
end
end K13
namespace Mx
open L2 Pu
def b_:Tx:=[97,98,99]
def cy:Nat->List Tx
 |0=>[[]]
 |k+1=>b_.flatMap λc=>(cy k).map (c::·)
theorem kw:∀(k:Nat) (x:Tx),x∈cy k↔x.length=k/\∀c∈x,c∈b_
 |0,x=>by
  simp only[cy,eV];constructor
  .rintro rfl;simp
  .rintro⟨h,_⟩;exact List.length_eq_zero_iff.mp h
 |k+1,x=>by
  simp only[cy,List.mem_flatMap,cV];constructor
  .rintro⟨c,i,y,g,rfl⟩;obtain⟨f,b⟩:=(kw k y).mp g;refine⟨by simp[f],λd a=>?_⟩;rcases bF.mp a with rfl|a
   .exact i
   .exact b d a
  .rintro⟨f,b⟩;cases x with
   |nil=>cases f
   |cons c y=>exact⟨c,b c (by simp),y,(kw k y).mpr ⟨ya f,λd a=>b d (by simp[a])⟩,rfl⟩
theorem By:∀k:Nat,(cy k).length=3^k
 |0=>rfl
 |k+1=>by simp only[cy,b_,vi,List.flatMap_nil,ca,eT,By k,iS,Nat.pow_succ];lia
theorem Am(i j:Nat):cy (i+j)=(cy i).flatMap λh=>(cy j).map (h++·):=by
 induction i with
 |zero=>simp[cy]
 |succ i a=>rw[show i+1+j=(i+j)+1 by lia];simp only[cy,a,List.flatMap_assoc,List.map_flatMap,List.flatMap_map,eY,Function.comp_def,iU]
theorem DJ(k:Nat):cy (k+1)=(cy k).flatMap λh=>b_.map λc=>h++[c]:=by rw[Am k 1];congr 1
theorem xj:∀k:Nat,(cy k).Pairwise (λa b=>a<b)
 |0=>by simp[cy]
 |k+1=>by
  simp only[cy];rw[List.pairwise_flatMap];refine⟨λc _=>?_,?_⟩
  .rw[List.pairwise_map];exact(xj k).imp λh=>List.cons_lt_cons_iff.mpr (.inr ⟨rfl,h⟩)
  .have:b_.Pairwise (λa b=>a<b):=by decide
   refine this.imp λh=>?_;intro x f y d;obtain⟨i,_,rfl⟩:=cV.mp f;obtain⟨g,_,rfl⟩:=cV.mp d;exact List.cons_lt_cons_iff.mpr (.inl h)
theorem C8{a b:Tx}(h:a<b):cf a b=ai:=by simp only[cf,decide_eq_true_eq];exact List.le_of_lt h
theorem DC(k:Nat):(cy k).Pairwise (λa b=>cf a b=ai):=(xj k).imp C8
theorem GJ(k:Nat):(cy k).Nodup:=(xj k).imp λh z=>by subst z;exact vh _ h
def aG(z:Tx)(w:Nat):List Tx:=((cm z.length).filter λi=>decide (i+w<=z.length)).map λi=>(z.drop i).take w
theorem Az(w L:Nat):∀m:Nat,(cm m).filter (λi=>decide (i+w<=L))=cm (min m (L+1-w))
 |0=>by simp
 |m+1=>by
  rw[pe,List.filter_append,Az w L m];by_cases h:m+w<=L
  .rw[show min m (L+1-w)=m by lia,show min (m+1) (L+1-w)=m+1 by lia,pe];simp[h]
  .rw[show min (m+1) (L+1-w)=min m (L+1-w) by lia];simp[h]
theorem i8(z:Tx)(w:Nat)(a:1<=w):aG z w=(cm (z.length+1-w)).map λi=>(z.drop i).take w:=by unfold aG;rw[Az,show min z.length (z.length+1-w)=z.length+1-w by lia]
def nw(w:Nat)(t:Tx):Tx->List Tx
 |[]=>[]
 |c::s=>(t.drop (t.length+1-w)++[c])::nw w (t++[c]) s
theorem Bp(w:Nat)(b:1<=w):∀(s t:Tx),w<=t.length+1->nw w t s=(cm s.length).map λi=>((t++s).drop (t.length+1-w+i)).take w
 |[],t,_=>by simp[nw]
 |c::s,t,h=>by
  rw[nw,Bp w b s (t++[c]) (by simp;lia),d8,uW,ji,eY];congr 1
  .show _=((t++c::s).drop (t.length+1-w)).take w;rw[uV ∅,List.take_append];have a:(t.drop (t.length+1-w)).length=w-1:=by rw[lK];lia
   rw[a,jR (by rw[a];lia),show w-(w-1)=1 by lia];rfl
  .refine m8 λi _=>?_;simp only[rF];rw[ca,o8,show t.length+1+1-w+i=t.length+1-w+Nat.succ i by lia];simp
theorem za{w:Nat}(a:1<=w){h s:Tx}(b:h.length=w-1):aG (h++s) w=nw w h s:=by rw[i8 _ _ a,Bp w a s h ∅,ca,show h.length+s.length+1-w=s.length by lia];refine m8 λi _=>?_;rw[show h.length+1-w+i=i by lia]
theorem Jb{w:Nat}(a:1<=w)(t:Tx)(c:Nat):aG (t++[c]) w=aG t w++(if w<=t.length+1 then [((t++[c]).drop (t.length+1-w)).take w] else []):=by
 rw[i8 _ _ a,i8 _ _ a,ca,o8];by_cases h:w<=t.length+1
 .rw[if_pos h,show t.length+1+1-w=(t.length+1-w)+1 by lia,pe,uY];congr 1;refine m8 λi b=>?_;have b:i<t.length+1-w:=by simpa using b
  rw[uV ∅,yj (by rw[lK];lia)]
 .rw[if_neg h,show t.length+1+1-w=0 by lia,show t.length+1-w=0 by lia];simp
def oA(w:Nat):Nat->Tx->List Tx->List Tx
 |0,t,_=>[t]
 |r+1,t,q=>b_.flatMap λc=>if t.drop (t.length+1-w)++[c]∈q then oA w r (t++[c]) (q.erase (t.drop (t.length+1-w)++[c]))else []
theorem yM(w:Nat):∀(r:Nat) (t:Tx) (q:List Tx),q.length=r->oA w r t q=((cy r).filter λs=>(nw w t s).isPerm q).map (t++·)
 |0,t,q,hq=>by have:q=[]:=List.length_eq_zero_iff.mp hq;subst this;simp[oA,cy,nw,List.isPerm]
 |r+1,t,q,hq=>by
  simp only[oA,cy,CJ,List.map_flatMap];congr 1;funext c;rw[rG,eY];by_cases h:t.drop (t.length+1-w)++[c]∈q
  .rw[if_pos h,yM w r (t++[c]) _ (by rw[rH h,hq];rfl)];have e:((λs=>(nw w t s).isPerm q) ∘ λx=>c::x)=λs=>(nw w (t++[c]) s).isPerm (q.erase (t.drop (t.length+1-w)++[c])):=by funext s;show(q.contains (t.drop (t.length+1-w)++[c])&&(nw w (t++[c]) s).isPerm (q.erase (t.drop (t.length+1-w)++[c])))=_;rw[List.contains_iff_mem.mpr h,Bool.true_and]
   rw[e];refine m8 λs _=>?_;simp
  .rw[if_neg h];have e:((λs=>(nw w t s).isPerm q) ∘ λx=>c::x)=λ_=>aj:=by
    funext s;show(q.contains (t.drop (t.length+1-w)++[c])&&(nw w (t++[c]) s).isPerm (q.erase (t.drop (t.length+1-w)++[c])))=_;have:q.contains (t.drop (t.length+1-w)++[c])=aj:=by rw[Bool.eq_false_iff];intro z;exact h (List.contains_iff_mem.mp z)
    rw[this,Bool.false_and]
   rw[e];simp
def fJ(w:Nat)(ls:List Tx):List Tx:=(aO (b9 (ls.map yk))).flatMap λh=>oA w ls.length h ls
theorem Av{a b:Type}{l:List a}{f:a->List b}(p:a->Bool)(h:∀x∈l,p x=aj->f x=[]):l.flatMap f=(l.filter p).flatMap f:=by
 induction l with
 |nil=>rfl
 |cons x l c=>
  rw[vi,c λy d=>h y (by simp[d]),CK];cases e:p x with
  |true=>simp
  |false=>rw[h x (by simp) e];simp
theorem xh{w:Nat}{a:List Tx}(i:1<=w)(C:1<=a.length)(m:∀x∈a,x.length=w/\∀c∈x,c∈b_):fJ w a=(cy (w-1+a.length)).filter λz=>(aG z w).isPerm a:=by
 rw[Am,CJ];have A:(λh=>((cy a.length).map (h++·)).filter λz=>(aG z w).isPerm a)=λh=>((cy a.length).filter λs=>(aG (h++s) w).isPerm a).map (h++·):=by funext h;rw[rG];rfl
 rw[A,Av (λh=>decide (h∈a.map yk))]
 .have v:(cy (w-1)).filter (λh=>decide (h∈a.map yk))=aO (b9 (a.map yk)):=by
   refine uc ?_ ((DC (w-1)).filter _);refine(List.perm_ext_iff_of_nodup ((GJ (w-1)).filter _) (Kd _)).mpr λx=>?_;rw[lD,decide_eq_true_eq,lp,kw];refine⟨λh=>h.2,λh=>⟨?_,h⟩⟩;obtain⟨y,d,rfl⟩:=cV.mp h;obtain⟨t,r⟩:=m y d;exact⟨by rw[Cy,t],λc q=>r c ((List.dropLast_sublist _).mem q)⟩
  rw[v];unfold fJ;have:∀l:List Tx,(∀h∈l,h.length=w-1)->l.flatMap (λh=>oA w a.length h a)=l.flatMap λh=>((cy a.length).filter λs=>(aG (h++s) w).isPerm a).map (h++·):=by
   intro l
   induction l with
   |nil=>intro _;rfl
   |cons h l n=>
    intro b;rw[vi,vi,n λy d=>b y (by simp[d]),yM w _ h a rfl];have u:(λs=>(nw w h s).isPerm a)=λs=>(aG (h++s) w).isPerm a:=by funext s;rw[za i (b h (by simp))]
    rw[u]
  refine this _ λh b=>?_;have p:=(lp _ _).mp ((et _).mem_iff.mp b);obtain⟨y,d,rfl⟩:=cV.mp p;rw[Cy,(m y d).1]
 .intro h b j;have B:=((kw _ h).mp b).1;rw[CH,List.filter_eq_nil_iff];intro s o g;have f:=((kw _ s).mp o).1;rw[za i B,List.isPerm_iff]at g;cases s with
  |nil=>rw[iS]at f;lia
  |cons c s=>rw[nw,show h.length+1-w=0 by lia,uZ]at g;have:h++[c]∈a:=g.mem_iff.mp (by simp);rw[decide_eq_false_iff_not]at j;exact j (cV.mpr ⟨_,this,by simp⟩)
def unD(w:Nat)(a:List Tx)(t:Tx):Bool:=(aG t w).all λx=>decide ((aG t w).count x<=a.count x)
theorem zR{w:Nat}{a:List Tx}{t:Tx}:unD w a t=ai↔∀x,(aG t w).count x<=a.count x:=by
 unfold unD;rw[kR];constructor
 .intro h x;by_cases b:x∈aG t w
  .simpa using h x b
  .rw[List.count_eq_zero_of_not_mem b];lia
 .intro h x _;simpa using h x
theorem Ey{w:Nat}(b:1<=w){a:List Tx}{t:Tx}{c:Nat}(h:unD w a (t++[c])=ai):unD w a t=ai:=by rw[zR]at h ⊢;intro x;have:=h x;rw[Jb b,List.count_append]at this;lia
def rowsOf(w:Nat)(a:List Tx)(k:Nat):List Tx:=(cy k).filter (unD w a)
theorem Dk{w:Nat}(b:1<=w)(a:List Tx):rowsOf w a 0=[[]]:=by simp[rowsOf,cy,unD,aG]
theorem IA{w:Nat}(f:1<=w)(a:List Tx)(k:Nat):rowsOf w a (k+1)=(rowsOf w a k).flatMap λt=>(b_.map λc=>t++[c]).filter (unD w a):=by
 unfold rowsOf;rw[DJ,CJ];refine Av _ λt _ b=>?_;rw[List.filter_eq_nil_iff];intro z d g;obtain⟨c,_,rfl⟩:=cV.mp d;rw[Ey f g]at b;cases b
theorem Ke(w:Nat)(a:List Tx)(k:Nat):(rowsOf w a k).length<=3^k:=by rw[<-By k];exact List.length_filter_le _ _
theorem El{w:Nat}{c:List Tx}(d:c.Pairwise (λa b=>cf a b=ai))(L:Nat):(rowsOf w c L).filter (λz=>decide (aO (aG z w)=c))=(cy L).filter λz=>(aG z w).isPerm c:=by
 unfold rowsOf;rw[List.filter_filter];refine List.filter_congr λz _=>?_;rw[jN,eU,decide_eq_true_eq,List.isPerm_iff];constructor
 .rintro⟨h,_⟩;rw[<-h];exact(et _).symm
 .intro h;refine⟨by rw[sV h,oH d],?_⟩;rw[zR];intro x;rw[h.count_eq];exact aY _
end Mx
namespace Sh
open L2 Pu Mx
section
theorem Ji(a:Bool)(b c:Bool):Pu.eqT a (.bl b) (.bl c)=aa (.bl (a^^decide (b=c))):=by cases a <;> cases b <;> cases c <;> rfl
theorem oj{ls:List Tx}(h:ls.length<=1000000):iI [.lst (am ls)]=aa (.lst (am (aO ls))):=by show(dZ (am ls)).bind _=_;rw[nU,iw,if_pos h]
end
section
variable{a:Ad}
abbrev bJ(b:List Int):Slot:=.val (.lst (b.map .int))
theorem BB(b:List Int)(k:Int)(d:0<=k)(h:k<b.length):∃v,fc (b.map PV.int) k=aa (.int v):=by
 have c:k.toNat<b.length:=∅
 refine⟨b[k.toNat],?_⟩;rw[AT d (by rw[eT];exact c)];simp
theorem Fj(b:List Int):Pu.eqT aj (.lst (b.map .int)) (.lst [])=aa (.bl b.isEmpty):=by
 cases b with
 |nil=>rfl
 |cons x c=>
  have f:∀l:List Int,eQ (l.map .int)=0:=λl=>by induction l with|nil=>rfl|cons y l d=>simp[eQ,fO,d]
  have:eQ ((x::c).map .int)=0:=f _;simp only[ji]at this;simp[Pu.eqT,cx,cq,dY,fO,this]
theorem qz(b:Bool)(i j:Int):Pu.eqT b (.int i) (.int j)=aa (.bl (b^^decide (i=j))):=by show(if qA (V.int i) (V.int j)then aa (PV.bl (b^^decide (V.int i=V.int j)))else ae)=_;have:qA (V.int i) (V.int j)=ai:=rfl;rw[if_pos this];simp
theorem DL(b:List Int)(k:Int)(i:0<=k):∃v,om a [bJ b,⇑k]=.ok (⇑v) [bJ b,⇑k]:=by
 by_cases h:k<b.length
 .obtain⟨v,c⟩:=BB b k i h;refine⟨v,?_⟩;simp![om,yao,bq,bT,c,h]
 .have e:=Fj b;by_cases d:b=[]
  .subst d;refine⟨0,?_⟩;simp only[List.map_nil,List.isEmpty_nil]at e;have j:¬k<0:=∅
   simp![om,yao,bq,bT,e,j]
  .have m:0<b.length:=by cases b with|nil=>exact absurd rfl d|cons=>simp
   obtain⟨v,c⟩:=BB b (k % b.length) (Int.emod_nonneg _ ∅) (CL _ ∅);refine⟨v*31+k,?_⟩;have l:b.isEmpty=aj:=by cases b with|nil=>exact absurd rfl d|cons=>rfl
   rw[l]at e;have g:eM (.int k) (.int (b.length:Int))=aa (.int (k % b.length)):=by simp[eM];lia
   have f:i9 (.int v) (.int 31)=aa (.int (v*31)):=by simp[i9,qO]
   simp![om,yao,bq,bT,h,e,g,c,f,bg]
theorem GX(b:List Int)(k m:Int)(q:0<=k)(i:0<m):∃v,0<=v/\v<m/\uo a [bJ b,⇑k,⇑m]=.ok (⇑v) [bJ b,⇑k,⇑m]:=by
 obtain⟨c,p⟩:=DL (a:=a) b k q;have r:0<=(c*1103515245+7919*k+12345) % 2147483647:=Int.emod_nonneg _ (by decide);have d1:(c*1103515245+7919*k+12345) % 2147483647<2147483647:=CL _ (by decide);have o:i9 (.int c) (.int 1103515245)=aa (.int (c*1103515245)):=by simp[i9,qO]
 have n:i9 (.int 7919) (.int k)=aa (.int (7919*k)):=by simp[i9,qO]
 have h:eM (.int (c*1103515245+7919*k+12345)) (.int 2147483647)=aa (.int ((c*1103515245+7919*k+12345) % 2147483647)):=by simp[eM]
 generalize (c*1103515245+7919*k+12345) % 2147483647=d at r d1 h;have l:qm (.int d) (.int 5)=aa (.int (d^5)):=by
  have:d.natAbs<2^64:=∅
  simp[qm,this]
 have g:eM (.int (d^5)) (.int 2147483647)=aa (.int (d^5 % 2147483647)):=by simp[eM]
 generalize d^5 % 2147483647=d5 at g;have f:eM (.int d5) (.int 999983)=aa (.int (d5 % 999983)):=by simp[eM]
 generalize d5 % 999983=d6 at f;have j:eM (.int d6) (.int m)=aa (.int (d6 % m)):=by simp[eM,i]
 refine⟨d6 % m,Int.emod_nonneg _ ∅,CL _ i,?_⟩;simp![uo,yaq,p,o,n,h,l,g,f,j,bg]
theorem lB(c:List Int)(b:List PV)(m:Int)(i:0<m)(j:b.length<=1000):∃v,0<=v/\v<m/\gD a [bJ c,.own (.lst b),⇑m]=.ok (⇑v) [bJ c,.own (.lst (b++[.int 0])),⇑m]:=by
 obtain⟨v,f,d,h⟩:=GX (a:=a) c ((b.length:Int)+1) m ∅ i;refine⟨v,f,d,?_⟩;have g:b.length<cA:=by unfold cA;lia
 simp![gD,yap,bq,g,h]
theorem zE{c:Type}(b:List c)(v:Int)(f:0<=v)(g:v<b.length):∃x∈b,fc b v=aa x:=by
 have d:v.toNat<b.length:=∅
 exact⟨b[v.toNat],Ck _,AT f d⟩
theorem IQ(d:List Int)(c b:List PV)(i:c.length<=1000)(m:0<b.length):∃x∈b,tK a [bJ d,.own (.lst c),.val (.lst b)]=.ok (.val x) [bJ d,.own (.lst (c++[.int 0])),.val (.lst b)]:=by obtain⟨v,g,f,j⟩:=lB (a:=a) d c (b.length:Nat) ∅ i;obtain⟨x,l,h⟩:=zE b v g f;refine⟨x,l,?_⟩;simp![tK,yar,bq,bT,j,h]
theorem oF{n:Nat}(h:n<=1000000):fM [.int n]=aa (ce 0 n):=by show(if(n:Int)<=1000000/\-1000000<=(n:Int)then aa (ce 0 (n:Int).toNat)else ae)=_;rw[if_pos ⟨∅,∅⟩];simp
theorem we{x y:Tx}(h:x.length+y.length<=cA):bg (.str x) (.str y)=aa (.str (x++y)):=by show(if(x++y).length<=cA then aa (PV.str (x++y))else ae)=_;rw[if_pos (by rw[ca];exact h)]
theorem f9{d1 d2:ak->R aR}{ε ε1:ak}(h:d1 ε=.ok .next ε1):br d1 d2 ε=d2 ε1:=by unfold br;rw[h]
theorem Je{i:Nat}{d:ak->R PV}{c b:ak}{x:PV}(h:d c=.ok x b):cS i d c=.ok .next (b.set i (.val x)):=by unfold cS;rw[h];rfl
theorem tj{i:Nat}{db:ak->R aR}{I:Nat->ak->Prop}{N:Nat}(step:∀k ε x,k<N->I k ε->∃b,db (ε.set i (.val x))=.ok .next b/\I (k+1) b):∀(c:List PV) (k:Nat) (ε:ak),k+c.length<=N->I k ε->∃b,eC i db c ε=.ok .next b/\I (k+c.length) b
 |[],k,ε,_,h=>⟨ε,rfl,h⟩
 |x::c,k,ε,f,h=>by simp only[d8]at f;obtain⟨ε1,m,j⟩:=step k ε x ∅ h;obtain⟨d,l,g⟩:=tj step c (k+1) ε1 ∅ j;refine⟨d,by unfold eC;rw[m];exact l,?_⟩;rw[d8,show k+(c.length+1)=k+1+c.length by lia];exact g
theorem BA{i:Nat}{db:ak->R aR}{I:List PV->ak->Prop}(step:∀(x:PV) (r:List PV) ε,I (x::r) ε->∃b,db (ε.set i (.val x))=.ok .next b/\I r b):∀(c:List PV) (ε:ak),I c ε->∃b,eC i db c ε=.ok .next b/\I [] b
 |[],ε,h=>⟨ε,rfl,h⟩
 |x::c,ε,h=>by obtain⟨f,m,j⟩:=step x c ε h;obtain⟨d,l,g⟩:=BA step c f j;exact⟨d,by unfold eC;rw[m];exact l,g⟩
theorem wC(o:List Int)(l:List PV)(g b:Nat)(M:g<=b)(Y:b<=100)(X:l.length<=500):∃(z:Tx) (j:List PV),g<=z.length/\z.length<=b/\(∀c∈z,c∈b_)/\j.length<=l.length+2+b /\ kj a [bJ o,.own (.lst l),⇑g,⇑b]=.ok (↥z) [bJ o,.own (.lst j),⇑g,⇑b]:=by
 obtain⟨f,A,K⟩:=IQ (a:=a) o l [.int 1,.int 2,.int 2,.int 3,.int 3,.int 3] ∅ (by decide);obtain⟨h,rfl,Q,f1⟩:∃h:Int,f=.int h/\0<h/\h<=3:=by simp only[bF,iT,or_false]at A;rcases A with rfl|rfl|rfl|rfl|rfl|rfl <;> exact⟨_,rfl,by decide,by decide⟩
 obtain⟨m,W,T,p⟩:=lB (a:=a) o (l++[.int 0]) ((b:Int)-g+1) ∅ (by simp;lia);obtain⟨n,L⟩:∃n:Nat,(g:Int)+m=n:=⟨(g+m).toNat,∅⟩
 have J:fM [.int ((g:Int)+m)]=aa (ce 0 n):=by rw[L];exact oF ∅
 have aW:(ce 0 n).length=n:=by simp[ce]
 obtain⟨C,B,j,z,r,rfl,y,G,q⟩:=tj (i:=6) (db:=cS 5 (d2 bg (dV 5) (d2 bT (dC (.str [97,98,99])) (bo (be (gD a) (gV (dV 0) (gO 1 (gV (dV 4) (Pu.bK)))))))))
  (I:=λk w=>∃j z r,w=[bJ o,.own (.lst j),⇑g,⇑b,⇑h,↥z,r]/\z.length=k/\j.length<=l.length+2+k/\∀c∈z,c∈b_) (N:=n)
  (by
   rintro k w x Z ⟨j,z,r,rfl,y,G,q⟩;obtain⟨v,D,S,H⟩:=lB (a:=a) o j h Q ∅;obtain⟨c,O,P⟩:=zE b_ v D (by simp[b_];lia);refine⟨[bJ o,.own (.lst (j++[.int 0])),⇑g,⇑b,⇑h,↥(z++[c]),.val x],?_,j++[.int 0],z++[c],.val x,rfl,by simp[y],by simp;lia,λd p=>?_⟩
   .have s:bT (.str [97,98,99]) (.int v)=aa (.str [c]):=by
     show(fc b_ v).map _=_;rw[P];rfl
    have F:bg (.str z) (.str [c])=aa (.str (z++[c])):=we (by simp[cA];lia);simp![H,s,F]
   .simp only[iP,eV]at p;rcases p with p|rfl
    .exact q d p
    .exact O)
  (ce 0 n) 0 [bJ o,.own (.lst (l++[.int 0]++[.int 0])),⇑g,⇑b,⇑h,.val (.str []),.none] ∅ ⟨l++[.int 0]++[.int 0],[],.none,rfl,rfl,by simp,by simp⟩
 refine⟨z,j,∅,∅,q,∅,?_⟩;have E:gX (.int b) (.int g)=aa (.int ((b:Int)-g)):=rfl;have u:bg (.int ((b:Int)-g)) (.int 1)=aa (.int ((b:Int)-g+1)):=rfl;have t:bg (.int g) (.int m)=aa (.int ((g:Int)+m)):=rfl;simp only[jT,iU,fQ]at B;simp![kj,yat,K,E,u,t,p,dW,J,ff,B]
theorem ln{cap:List Nat}{dt:ak->R Bool}{de:ak->R PV}{ε:ak}(p:PV->Bool)(f:PV->PV):∀(c:List PV),(∀x∈c,c_ (dH cap dt x ε)=.ok (p x) ε/\(p x=ai->c_ (dH cap de x ε)=.ok (f x) ε))->∀b,iJ cap dt de c b ε=.ok (b++(c.filter p).map f) ε
 |[],_,b=>by simp[iJ]
 |x::c,h,b=>by
  have i:=h x (by simp);have g:=ln p f c (λy j=>h y (by simp[j]));unfold iJ;rw[i.1];simp only[R.bind_ok];cases d:p x with
  |false=>simp only[g b,CK,d];simp
  |true=>simp only[i.2 d,R.bind_ok,g (b++[f x]),CK,d];simp
theorem Ah{z:Tx}{i w:Nat}(h:i+w<=z.length):dG z (aa (i:Int)) (aa ((i:Int)+w))=(z.drop i).take w:=by
 unfold dG;have c:HT.sIx z.length 0 (aa (i:Int))=i:=by rw[HT.sIx_nat];lia
 have b:HT.sIx z.length z.length (aa ((i:Int)+w))=i+w:=by rw[show(i:Int)+w=((i+w:Nat):Int) by lia,HT.sIx_nat];lia
 rw[c,b,Nat.add_sub_cancel_left]
theorem ub(z:Tx)(w:Nat)(o:z.length<=60):kq a [↥z,⇑w]=.ok (.val (.tup (am (aO (aG z w))))) [↥z,⇑w]:=by
 have g:fM [.int (z.length:Nat)]=aa (ce 0 z.length):=oF ∅;have b:=ln (cap:=[0,1]) (dt:=(dB (d2 (e_ λi j=>decide (i<=j)) (d2 bg (dV 0) (dV 2)) (dL bq (aB (dV 1) (aH)))))) (de:=(fZ fe (dV 1) (eA (dV 0)) (eA (d2 bg (dV 0) (dV 2)))))
  (ε:=[↥z,⇑w]) (λx=>match x with|.int i=>decide (i+w<=z.length)|_=>aj) (λx=>match x with|.int i=>.str (dG z (aa i) (aa (i+w)))|_=>.non) (ce 0 z.length)
  (by
   intro x d;simp only[ce,cV]at d;obtain⟨i,f,rfl⟩:=d;refine⟨?_,λh=>?_⟩
   .simp![dH,dw,c_,bq,bg]
   .simp![dH,dw,c_,bq,bg,fZ,eA,fe]) []
 have l:(aG z w).length<=1000000:=by unfold aG;rw[eT];have:=List.length_filter_le (λi=>decide (i+w<=z.length)) (cm z.length);rw[Ci]at this;lia
 have m:(((ce 0 z.length).filter (λx=>match x with|.int i=>decide (i+w<=z.length)|_=>aj)).map (λx=>match x with|.int i=>PV.str (dG z (aa i) (aa (i+w)))|_=>.non))=am (aG z w):=by
  unfold ce aG am;rw[rG,eY,eY];have n:((λx=>match x with|PV.int i=>decide (i+(w:Int)<=(z.length:Nat))|_=>aj) ∘ λ(i:Nat)=>PV.int (0+(i:Nat)))=λi=>decide (i+w<=z.length):=by funext i;simp only[rF];congr 1;simp;lia
  rw[n];refine m8 λi f=>?_;have:=(lD.mp f).2;simp only[decide_eq_true_eq]at this;simp only[rF,Int.zero_add];rw[Ah this]
 simp only[fQ]at b;rw[m]at b;have c:=oj l;generalize am (aO (aG z w))=T at c;generalize am (aG z w)=B at b c;simp![kq,yas,bq,g,cZ,b,c,i6]
theorem yC{z:Tx}{w:Nat}:∀x∈aG z w,x.length=w/\∀c∈x,c∈z:=by intro x b;simp only[aG,cV,lD,xI,decide_eq_true_eq]at b;obtain⟨i,⟨_,h⟩,rfl⟩:=b;exact⟨by rw[kJ,lK];lia,λc d=>List.mem_of_mem_drop (List.mem_of_mem_take d)⟩
theorem Jd{z:Tx}{w m:Nat}(c:1<=w)(f:w<=z.length)(d:z.length<=w+m):1<=(aG z w).length/\(aG z w).length<=m+1:=by
 unfold aG;rw[eT];have:∀n,((cm n).filter λi=>decide (i+w<=z.length)).length=min n (z.length+1-w):=by
  intro n
  induction n with
  |zero=>simp
  |succ n b=>
   rw[pe,List.filter_append,ca,b];by_cases h:n+w<=z.length
   .simp[List.filter,h];lia
   .simp[List.filter,h];lia
 rw[this];lia
structure Good(l:Tx)(w:Nat)(ls:List Tx):Prop where
 len:∀x∈ls,x.length=w
 abc:∀x∈ls,∀c∈x,c∈l
 some:1<=ls.length
 few:ls.length<=9
theorem Good.perm{l:Tx}{w:Nat}{ls b:List Tx}(g:Good l w ls)(p:b.Perm ls):Good l w b:=⟨λx h=>g.len x (p.mem_iff.mp h),λx h=>g.abc x (p.mem_iff.mp h),by rw[p.length_eq];exact g.some,by rw[p.length_eq];exact g.few⟩
theorem Good.put{l:Tx}{w:Nat}{ls:List Tx}{z:Tx}{j:Nat}(g:Good l w ls)(b:z.length=w)(d:∀c∈z,c∈l):Good l w (ls.set j z):=by
 refine⟨λx h=>?_,λx h=>?_,by rw[gi];exact g.some,by rw[gi];exact g.few⟩
 .rcases List.mem_or_eq_of_mem_set h with h|rfl
  .exact g.len x h
  .exact b
 .rcases List.mem_or_eq_of_mem_set h with h|rfl
  .exact g.abc x h
  .exact d
theorem Fg(ls:List Tx)(j:Nat)(z:Tx):(am ls).set j (.str z)=am (ls.set j z):=by simp[am,List.map_set]
theorem fK(ls:List Tx):(am ls).length=ls.length:=by simp[am]
theorem JL{n:Nat}{v:Int}(c:0<=v)(b:v<n):iE n v=aa v.toNat:=by unfold iE;rw[if_pos c,if_pos b]
theorem zQ(ls:List Tx):ko (am ls)=ai:=by
 induction ls with
 |nil=>rfl
 |cons x ls b=>show(imm (.str x)&&ko (am ls))=ai;rw[b];rfl
theorem Hb(j:List Int)(l:List PV)(d f:Nat)(hs:d<3)(m1:1<=f)(m9:f<=9)(hx:l.length<=300):∃(w:Nat) (ls:List Tx) (n:List PV),1<=w/\w<=4/\(d≠2->2<=w)/\Good b_ w ls/\ls.Pairwise (λa b=>cf a b=ai)/\ls.length<=f/\(d=0->∃z:Tx,ls=aO (aG z w)/\w<=z.length/\z.length+1<=w+f/\∀c∈z,c∈b_)/\n.length<=l.length+60 /\ pN a [bJ j,.own (.lst l),⇑d,⇑f]=.ok (.val (.tup [.int w,.tup (am ls)])) [bJ j,.own (.lst n),⇑d,⇑f]:=by
 obtain⟨w,L,S,W,Z⟩:∃w:Nat,1<=w/\w<=4/\(d≠2->2<=w)/\(df (dB (d2 (Pu.eqT ai) (dV 2) (dC (.int 2)))) (d2 bg (dC (.int 2)) (bo (be (gD a) (gV (dV 0) (gO 1 (gV (dC (.int 3)) (Pu.bK))))))) (d2 bg (dC (.int 1)) (bo (be (gD a) (gV (dV 0) (gO 1 (gV (dC (.int 4)) (Pu.bK)))))))) [bJ j,.own (.lst l),⇑d,⇑f,.none,.none,.none] =
   .ok (.int w) [bJ j,.own (.lst (l++[.int 0])),⇑d,⇑f,.none,.none,.none]:=by
  by_cases h2:d=2
  .subst h2;obtain⟨v,D,C,o⟩:=lB (a:=a) j l 4 (by decide) ∅;refine⟨(1+v).toNat,∅,∅,λz=>absurd rfl z,?_⟩;have e:Pu.eqT ai (.int 2) (.int 2)=aa (.bl aj):=by rw[qz];rfl
   have:((1+v).toNat:Int)=1+v:=∅
   simp![e,o,bg,this]
  .obtain⟨v,D,C,o⟩:=lB (a:=a) j l 3 (by decide) ∅;refine⟨(2+v).toNat,∅,∅,λ_=>∅,?_⟩;have e:Pu.eqT ai (.int ((d:Nat):Int)) (.int 2)=aa (.bl ai):=by
    have:d=0\/d=1:=∅
    rcases this with rfl|rfl <;> (rw[qz];rfl)
   have:((2+v).toNat:Int)=2+v:=∅
   simp![e,o,bg,this]
 obtain⟨z,B,y,J,g,F,u⟩:=wC (a:=a) j (l++[.int 0]) w (w+(f-1)) ∅ ∅ (by simp;lia);simp only[ca,o8]at F;have X:=ub (a:=a) z w ∅;have Lc:=Jd (z:=z) (w:=w) (m:=f-1) L y J;have g0:Good b_ w (aO (aG z w)):=by exact Good.perm ⟨λx h=>(yC x h).1,λx h c hc=>g c ((yC x h).2 c hc),Lc.1,∅⟩ (et _)
 have p:eM (.int d) (.int 3)=aa (.int d):=by
  have:d=0\/d=1\/d=2:=∅
  rcases this with rfl|rfl|rfl <;> rfl
 have hr:fM [.int d]=aa (ce 0 d):=oF ∅;have aW:(ce 0 d).length=d:=by simp[ce]
 obtain⟨Q,e1,n,ls,t,rfl,r,E,h0,Y⟩:=tj (i:=6) (db:=(ut 5 (bo (be (gD a) (gV (dV 0) (gO 1 (gV (il (λl=>mn (bq l)) 5) (Pu.bK)))))) (bo (be (kj a) (gV (dV 0) (gO 1 (gV (dV 4) (gV (dV 4) (Pu.bK)))))))))
  (I:=λk H=>∃n ls t,H=[bJ j,.own (.lst n),⇑d,⇑f,⇑w,.own (.lst (am ls)),t]/\Good b_ w ls/\ls.length<=f/\(k=0->ls=aO (aG z w))/\n.length<=B.length+10*k) (N:=d)
  (by
   rintro k H x hk ⟨n,ls,t,rfl,r,E,_,Y⟩;obtain⟨z,K,y,J,g,sE,u⟩:=wC (a:=a) j n w w ∅ ∅ ∅;obtain⟨v,D,C,o⟩:=lB (a:=a) j K (ls.length:Nat) (by have:=r.some;lia) ∅;refine⟨[bJ j,.own (.lst (K++[.int 0])),⇑d,⇑f,⇑w,.own (.lst (am (ls.set v.toNat z))),.val x],?_,_,_,_,rfl,r.put ∅ g,by rw[gi];exact E,λz=>∅,by simp;lia⟩;have G:iE (am ls).length v=aa v.toNat:=JL D (by rw[fK];exact C);have hl:bq [.lst (am ls)]=aa (.int (ls.length:Nat)):=by simp[bq,fK]
   simp![ut,u,hl,o,G,Fg])
  (ce 0 d) 0 [bJ j,.own (.lst B),⇑d,⇑f,⇑w,.own (.lst (am (aO (aG z w)))),.none] ∅ ⟨B,_,.none,rfl,g0,by rw[wS];lia,λ_=>rfl,∅⟩
 refine⟨w,aO ls,n,L,S,W,r.perm (et _),oK _,by rw[wS];exact E,λz0=>⟨z,by rw[h0 ∅,oH (oK _)],y,∅,g⟩,∅,?_⟩;have O:bg (.int w) (.int f)=aa (.int ((w:Int)+f)):=rfl;have A:gX (.int ((w:Int)+f)) (.int 1)=aa (.int (((w+(f-1):Nat)):Int)):=by show aa (PV.int ((w:Int)+f-1))=_;congr 2;lia
 have P:=oj (ls:=ls) (by have:=r.few;lia);have s:yav a [bJ j,.own (.lst l),⇑d,⇑f,.none,.none,.none]=.ok (.ret (.val (.tup [.int w,.tup (am (aO ls))]))) [bJ j,.own (.lst n),⇑d,⇑f,⇑w,.own (.lst (am ls)),t]:=by unfold yav;refine(f9 (Je Z)).trans ?_;have M:=zQ (aO ls);generalize am (aO ls)=T at P M;generalize ((w+(f-1):Nat):Int)=q at A u;generalize (w:Int)+f=q2 at O A;simp[br,df,dB,d2,d1,dV,dC,dL,dF,aB,aH,b8,ma,cS,iK,be,gV,gO,Pu.bK,iC,gA,cz,fj,f8,R.bind,aZ,bC,eB,bE,back,ga,ke,xk,vP,xq,wK,bo,ot,fF,fh,eD,BD,uu,Bs,kh,uk,vI,nK,li,AI,mC,e_,cX,mE,il,oG,cO,kI,O,A,u,X,lu,p,dW,hr,ff,e1,P,w8,M,i6]
 simp[pN,bC,eB,bE,s,back,ga]
theorem map_set{b c:Type}(f:b->c)(l:List b)(j:Nat)(x:b):(l.map f).set j (f x)=(l.set j x).map f:=by simp[List.map_set]
theorem BE(ls b:List Tx):am ls++am b=am (ls++b):=by simp[am]
theorem zL{c:Type}(b:List c)(n:Nat):dG b ae (aa (n:Int))=b.take n:=by
 unfold dG;have d:HT.sIx b.length 0 ae=0:=rfl;rw[d,HT.sIx_nat,uZ,Nat.sub_zero];by_cases h:n<=b.length
 .rw[Nat.min_eq_left h]
 .rw[Nat.min_eq_right ∅,jR (aY _),jR ∅]
theorem As{c:Type}(b:List c)(n:Nat):dG b (aa (n:Int)) ae=b.drop n:=by
 unfold dG;have d:HT.sIx b.length b.length ae=b.length:=rfl;rw[d,HT.sIx_nat];by_cases h:n<=b.length
 .rw[Nat.min_eq_left h,jR (by rw[lK];lia)]
 .rw[Nat.min_eq_right ∅,ym ∅,ym ∅];simp
theorem mH{t T:String}{b:Bool}{x:PV}(h:qT x=aa t)(e:g6 [] (.type t) (.type T)=aa b):gc [x,.raw (.ty T)]=aa (.bl b):=by show((qT x).bind λt=>(g6 [] (.type t) (.type T)).map λb=>PV.bl b)=_;rw[h,iw,e];rfl
theorem Hy:g6 [] (.type "int") (.type "int")=aa ai:=by decide +kernel
theorem Jm:g6 [] (.type "int") (.type "bool")=aa aj:=by decide +kernel
theorem GW:g6 [] (.type "str") (.type "str")=aa ai:=by decide +kernel
theorem vN:g6 [] (.type "tuple") (.type "tuple")=aa ai:=by decide +kernel
theorem Ed(bs:List Bool):kc (bs.map .bl)=aa bs:=by
 induction bs with
 |nil=>rfl
 |cons b bs c=>show(kc (bs.map .bl)).map (b::·)=_;rw[c];rfl
theorem v5(bs:List Bool):oD [.lst (bs.map .bl)]=aa (.bl (bs.all id)):=by show(kc (bs.map .bl)).map _=_;rw[Ed];rfl
theorem Gw(z s:Tx):ur a [↥z,↥s]=.ok (.val (.bl (z.all s.contains))) [↥z,↥s]:=by
 have b:=ln (cap:=[1]) (dt:=fL) (de:=(d2 (nV aj) (dV 0) (dV 1))) (ε:=[↥z,↥s]) (λ_=>ai) (λx=>match x with|.str [c]=>.bl (s.contains c)|_=>.non) (z.map λc=>.str [c])
  (by
   intro x h;obtain⟨c,_,rfl⟩:=cV.mp h;refine⟨by simp![dH,dw,c_,fL],λ_=>?_⟩;have g:nV aj (.str [c]) (.str s)=aa (.bl (s.contains c)):=by rw[<-D2];simp[nV]
   simp![dH,dw,c_,g]) []
 have i:((z.map λc=>PV.str [c]).filter (λ_=>ai)).map (λx=>match x with|.str [c]=>PV.bl (s.contains c)|_=>.non)=(z.map s.contains).map .bl:=by rw[yn.mpr (by simp),eY,eY];rfl
 rw[fQ,i]at b;have f:(z.map s.contains).all id=z.all s.contains:=by rw[uX];rfl
 generalize z.map s.contains=bs at b f;have d:=v5 bs;rw[f]at d;simp![ur,yaf,cZ,cR,jH,b,d]
def hZ(w:Int)(s z:Tx):Bool:=decide ((z.length:Int)=w)&&z.all s.contains
theorem Et(z s:Tx)(w:Int):oJ a [↥z,⇑w,↥s]=.ok (.val (.bl (hZ w s z))) [↥z,⇑w,↥s]:=by
 have d:gc [.str z,.raw (.ty "str")]=aa (.bl ai):=mH rfl GW;have f:=Gw (a:=a) z s;have c:bq [.str z]=aa (.int (z.length:Nat)):=rfl;have b:=qz aj (z.length:Nat) w;unfold hZ;by_cases h:((z.length:Nat):Int)=w
 .simp only[h,decide_true,Bool.xor_true,Bool.not_false]at b;simp![oJ,yak,d,c,b,f,h]
 .simp only[h,decide_false,Bool.xor_false]at b;simp![oJ,yak,d,c,b,h]
theorem pX(d c:List Tx):dY (am d) (am c)=aa (decide (d=c)):=by
 induction d generalizing c with
 |nil=>cases c <;> simp[am,dY]
 |cons x d f=>
  cases c with
  |nil=>simp[am,dY]
  |cons y c=>
   show(cq (.str x) (.str y)).bind (λa=>(dY (am d) (am c)).map λb=>a&&b)=_;rw[f];have:cq (.str x) (.str y)=aa (decide (x=y)):=by
    show aa (tS x == tS y)=_;by_cases h:x=y
    .subst h;simp
    .have:tS x≠tS y:=λz=>h (qj z);simp[h,this]
   rw[this];simp[List.cons.injEq]
theorem p9(b:List Tx):eQ (am b)=0:=by
 induction b with
 |nil=>rfl
 |cons x b c=>show max (fO (.str x)) (eQ (am b))=0;rw[c];rfl
theorem JS(b:Bool)(c d:List Tx):Pu.eqT b (.lst (am c)) (.lst (am d))=aa (.bl (b^^decide (c=d))):=by show(if fO (.lst (am c))<=8 then(dY (am c) (am d)).map (λk=>PV.bl (b^^k))else ae)=_;rw[if_pos (by show eQ (am c)+1<=8;rw[p9];decide),pX];rfl
theorem EH(b:List Tx)(w:Int)(s:Tx)(t:1<=b.length)(r:b.length<=9):lr a [.val (.tup (am b)),⇑w,↥s]=.ok (.val (.bl (b.all (hZ w s)&&decide (b=aO b)))) [.val (.tup (am b)),⇑w,↥s]:=by
 have h:gc [.tup (am b),.raw (.ty "tuple")]=aa (.bl ai):=mH rfl vN;have i:bq [.tup (am b)]=aa (.int (b.length:Nat)):=by simp[bq,fK]
 have m:(1:Int)<=(b.length:Nat):=∅
 have l:((b.length:Nat):Int)<=9:=∅
 have d:=ln (cap:=[1,2]) (dt:=fL) (de:=(bo (be (oJ a) (gV (dV 0) (gV (dV 1) (gV (dV 2) (Pu.bK))))))) (ε:=[.val (.tup (am b)),⇑w,↥s]) (λ_=>ai) (λx=>match x with|.str z=>.bl (hZ w s z)|_=>.non) (am b)
  (by intro x o;obtain⟨z,_,rfl⟩:=cV.mp o;refine⟨by simp![dH,dw,c_,fL],λ_=>?_⟩;have p:=Et (a:=a) z s w;simp![dH,dw,c_,p]) []
 have q:((am b).filter (λ_=>ai)).map (λx=>match x with|.str z=>PV.bl (hZ w s z)|_=>.non)=(b.map (hZ w s)).map .bl:=by rw[yn.mpr (by simp)];unfold am;rw[eY,eY];rfl
 rw[fQ,q]at d;have g:(b.map (hZ w s)).all id=b.all (hZ w s):=by rw[uX];rfl
 generalize b.map (hZ w s)=bs at d g;have f:=v5 bs;have n:b.length<=1000000:=∅
 have c:=JS aj b (aO b);cases j:b.all (hZ w s)with
 |false=>rw[g,j]at f;simp![lr,yad,h,i,m,l,cZ,cR,jH,d,f]
 |true=>rw[g,j]at f;simp only[Bool.false_xor]at c;simp![lr,yad,h,i,m,l,cZ,cR,jH,d,f,lu,iI,nU,n,c]
theorem Kw(b:List Tx)(w:Int)(s:Tx)(h:b.length=0\/9<b.length):lr a [.val (.tup (am b)),⇑w,↥s]=.ok (.val (.bl aj)) [.val (.tup (am b)),⇑w,↥s]:=by
 have c:gc [.tup (am b),.raw (.ty "tuple")]=aa (.bl ai):=mH rfl vN;have d:bq [.tup (am b)]=aa (.int (b.length:Nat)):=by simp[bq,fK]
 by_cases f:(1:Int)<=(b.length:Nat)
 .have g:¬((b.length:Nat):Int)<=9:=∅
  simp![lr,yad,c,d,f,g]
 .simp![lr,yad,c,d,f]
theorem Jh(i:Int):sS a [⇑i]=.ok (.val (.bl ai)) [⇑i]:=by have c:gc [.int i,.raw (.ty "int")]=aa (.bl ai):=mH rfl Hy;have b:gc [.int i,.raw (.ty "bool")]=aa (.bl aj):=mH rfl Jm;simp![sS,yai,c,b]
theorem E7(i:Int):oR a [⇑i]=.ok (.val (.bl (decide (1<=i/\i<=4)))) [⇑i]:=by
 have h:=Jh (a:=a) i;by_cases b:1<=i
 .by_cases c:i<=4
  .simp![oR,yaj,h,b,c]
  .simp![oR,yaj,h,b,c]
 .simp![oR,yaj,h,b]
def p7(s:Tx)(w:Int)(b:List Tx):Bool:=decide (1<=w/\w<=4)&&(decide (1<=b.length/\b.length<=9)&&(b.all (hZ w s)&&decide (b=aO b)))
theorem Kz(s:Tx)(w:Int)(b:List Tx):ox a [.val (.tup [.int w,.tup (am b)]),↥s]=.ok (.val (.bl (p7 s w b))) [.val (.tup [.int w,.tup (am b)]),↥s]:=by
 have h:gc [.tup [.int w,.tup (am b)],.raw (.ty "tuple")]=aa (.bl ai):=mH rfl vN;have l:bq [.tup [.int w,.tup (am b)]]=aa (.int 2):=rfl;have f:=qz ai 2 2;simp only[decide_true,Bool.true_xor,Bool.not_true]at f;have j:bT (.tup [.int w,.tup (am b)]) (.int 0)=aa (.int w):=rfl;have i:bT (.tup [.int w,.tup (am b)]) (.int 1)=aa (.tup (am b)):=rfl;have d:=E7 (a:=a) w;unfold p7;by_cases c:1<=w/\w<=4
 .rw[decide_eq_true c]at d ⊢;by_cases g:1<=b.length/\b.length<=9
  .have m:=EH (a:=a) b w s g.1 g.2;rw[decide_eq_true g];simp![ox,yah,h,l,f,j,i,d,m]
  .have m:=Kw (a:=a) b w s ∅;rw[decide_eq_false g];simp![ox,yah,h,l,f,j,i,d,m]
 .rw[decide_eq_false c]at d ⊢;simp![ox,yah,h,l,f,j,i,d]
abbrev vw(w:Int)(b:List Tx):Bool:=p7 b_ w b
theorem Fu(w:Int)(b:List Tx):t5 a [.val (.tup [.int w,.tup (am b)])]=.ok (.val (.bl (vw w b))) [.val (.tup [.int w,.tup (am b)])]:=by have c:=Kz (a:=a) b_ w b;simp only[b_]at c;simp![t5,yag,c];rfl
theorem IT{w:Int}{b:List Tx}(h:vw w b=ai):qh a [.val (.tup [.int w,.tup (am b)])]=.ok (.val .non) [.val (.tup [.int w,.tup (am b)])]:=by have c:=Fu (a:=a) w b;rw[h]at c;simp![qh,yae,c]
theorem Good.vw{w:Nat}{d:List Tx}(g:Good b_ w d)(n:1<=w)(m:w<=4)(h:d.Pairwise (λa b=>cf a b=ai)):vw w d=ai:=by
 have l:d.all (hZ w b_)=ai:=by rw[kR];intro x f;unfold hZ;rw[g.len x f,decide_eq_true rfl,Bool.true_and,kR];intro c i;simpa using g.abc x f c i
 have j:decide (d=aO d)=ai:=decide_eq_true (oH h).symm;show p7 b_ w d=ai;unfold p7;rw[l,j,decide_eq_true (show 1<=(w:Int)/\(w:Int)<=4 by lia),decide_eq_true (show 1<=d.length/\d.length<=9 from⟨g.some,g.few⟩)];rfl
end
section
variable{a:Ad}
def qu(c:Nat):PV:=.str [c]
abbrev bY(w:Nat)(ls:List Tx):PV:=.tup [.int w,.tup (am ls)]
theorem zW(b:List Tx):gx (am b)=aa (bA b):=by
 induction b with
 |nil=>rfl
 |cons x b c=>show(cx (.str x)).bind (λv=>(gx (am b)).map (v::·))=_;rw[c];rfl
theorem Ba(b:List Tx)(x:Tx):my (am b) (.str x)=aa (.int (b.count x:Nat)):=by show(cx (.str x)).bind (λv=>(gx (am b)).map λc=>PV.int (c.countP λz=>cC z v))=_;rw[zW,<-EA];rfl
theorem Js(w:Nat)(b:List Tx)(t:Tx)(p:t.length<=60):lA a [↥t,⇑w,.val (.tup (am b))]=.ok (.val (.bl (unD w b t))) [↥t,⇑w,.val (.tup (am b))]:=by
 have g:=ub (a:=a) t w p
 let M:=aO (aG t w)
 have f:=ln (cap:=[3,2]) (dt:=fL) (de:=(d2 (e_ λi j=>decide (i<=j)) (kl my (dV 1) (dV 0)) (kl my (dV 2) (dV 0)))) (ε:=[↥t,⇑w,.val (.tup (am b)),.val (.tup (am M))]) (λ_=>ai) (λx=>match x with|.str z=>.bl (decide (M.count z<=b.count z))|_=>.non) (am M)
  (by intro x c;obtain⟨z,_,rfl⟩:=cV.mp c;refine⟨by simp![dH,dw,c_,fL],λ_=>?_⟩;have n:=Ba M z;have m:=Ba b z;generalize am M=A at n;generalize am b=B at m;simp![dH,dw,c_,kl,n,m]) []
 have q:((am M).filter (λ_=>ai)).map (λx=>match x with|.str z=>PV.bl (decide (M.count z<=b.count z))|_=>.non)=(M.map λz=>decide (M.count z<=b.count z)).map .bl:=by rw[yn.mpr (by simp)];unfold am;rw[eY,eY];rfl
 rw[fQ,q]at f;have o:(M.map λz=>decide (M.count z<=b.count z)).all id=unD w b t:=by
  rw[uX];unfold unD;have d:=et (aG t w);rw[jN,kR,kR];constructor
  .intro h x c;have:=h x (d.mem_iff.mpr c);simp only[rF,id,M,d.count_eq]at this;exact this
  .intro h x c;have:=h x (d.mem_iff.mp c);simp only[rF,id,M,d.count_eq];exact this
 generalize (M.map λz=>decide (M.count z<=b.count z))=bs at f o;have l:=v5 bs;rw[o]at l;change kq a _=R.ok (Slot.val (.tup (am M))) _ at g;generalize am M=MM at g f;clear_value M;simp![lA,yau,g,cZ,cR,jH,f,l]
end
end Sh
namespace Mx
open L2 Pu
theorem qJ{z:Tx}{w:Nat}(a:1<=w):(aG z w).length=z.length+1-w:=by rw[i8 z w a];simp
def ID(t:Tx)(w:Nat):List Tx:=(cy t.length).filter λz=>(aG z w).isPerm (aG t w)
def ovD(a w:Tx):Nat->Nat
 |0=>0
 |k+1=>if w.take (k+1) <:+ a then k+1 else ovD a w k
def ov(a w:Tx):Nat:=ovD a w (w.length-1)
def adW(a w:Tx):Tx:=w.drop (ov a w)
theorem ovD_le(a w:Tx):∀k,ovD a w k<=k
 |0=>aY _
 |k+1=>by unfold ovD;split;exact aY _;exact Nat.le_succ_of_le (ovD_le a w k)
theorem ovD_suf(a w:Tx):∀k,w.take (ovD a w k) <:+ a
 |0=>by simp[ovD]
 |k+1=>by unfold ovD;split;assumption;exact ovD_suf a w k
theorem ovD_max(a w:Tx):∀k j,j<=k->w.take j <:+ a->j<=ovD a w k
 |0,j,h,_=>h
 |k+1,j,h,hs=>by
  unfold ovD;split
  .exact h
  .rename_i b;refine ovD_max a w k j ?_ hs;rcases Nat.lt_or_eq_of_le h with h|h
   .lia
   .subst h;exact absurd hs b
theorem ov_lt{a w:Tx}(h:1<=w.length):ov a w<w.length:=by have:=ovD_le a w (w.length-1);unfold ov;lia
theorem ov_nil(w:Tx):ov [] w=0:=by have h:=ovD_suf [] w (w.length-1);have b:=ovD_le [] w (w.length-1);unfold ov;have:=List.suffix_nil.mp h;have a:=congrArg kI this;rw[kJ,iS]at a;lia
theorem adW_nil(w:Tx):adW [] w=w:=by unfold adW;rw[ov_nil];rfl
theorem adW_len(a w:Tx):(adW a w).length=w.length-ov a w:=by simp[adW]
theorem lay{a w:Tx}{n:Nat}(d:w.length=n)(c:1<=n)(g:a.length=n):∃p:Tx,1<=p.length/\a++adW a w=p++w:=by
 obtain⟨p,b⟩:=ovD_suf a w (w.length-1);have f:=ov_lt (a:=a) (w:=w) ∅;refine⟨p,?_,?_⟩
 .have:=congrArg kI b;rw[ca,kJ]at this;have h:ov a w=ovD a w (w.length-1):=rfl;lia
 .show a++w.drop (ovD a w (w.length-1))=p++w;generalize ovD a w (w.length-1)=k at b;rw[<-b,jT,o_]
def chain:Tx->List Tx->Tx
 |_,[]=>[]
 |a,w::b=>adW a w++chain w b
theorem chain_len(n:Nat):∀(b:List Tx) (a:Tx),(∀x∈b,x.length=n)->(chain a b).length<=b.length*n
 |[],_,_=>by simp[chain]
 |w::b,a,h=>by have d:=h w (by simp);have f:=chain_len n b w λx c=>h x (by simp[c]);rw[chain,ca,adW_len,d,d8,xR];lia
theorem wins_cons{n:Nat}(a:1<=n)(c:Nat)(t:Tx)(h:n<=t.length+1):aG (c::t) n=(c::t).take n::aG t n:=by rw[i8 _ _ a,i8 _ _ a,d8,show t.length+1+1-n=(t.length+1-n)+1 by lia,uW,ji,eY];rfl
theorem wins_pre{n:Nat}(a:1<=n)(t:Tx)(h:n<=t.length):∀p:Tx,∃l:List Tx,aG (p++t) n=l++aG t n/\(1<=p.length->(p++t).take n∈l)/\l.length=p.length
 |[]=>⟨[],rfl,λz=>by simp at z,rfl⟩
 |c::p=>by obtain⟨l,d,_,b⟩:=wins_pre a t h p;refine⟨(c::(p++t)).take n::l,?_,λ_=>by simp,by simp[b]⟩;rw[iU,wins_cons a c (p++t) (by simp;lia),d];rfl
theorem wins_pre1{n:Nat}(a:1<=n)(t:Tx)(h:n<=t.length)(p:Tx)(b:1<=p.length):∃l:List Tx,aG (p++t) n=(p++t).take n::(l++aG t n):=by
 cases p with
 |nil=>simp at b
 |cons c p=>obtain⟨l,d,_,f⟩:=wins_pre a t h p;refine⟨l,?_⟩;rw[iU,wins_cons a c (p++t) (by simp;lia),d]
theorem chain_has{n:Nat}(c:1<=n):∀(b:List Tx) (a:Tx),a.length=n->(∀x∈b,x.length=n)->(a::b).Sublist (aG (a++chain a b) n)
 |[],a,d,_=>by rw[chain,iQ,i8 _ _ c,d,show n+1-n=1 by lia];show [a].Sublist [(a.drop 0).take n];rw[uZ,jR ∅];exact List.Sublist.refl _
 |w::b,a,d,h=>by
  have f:=h w (by simp);have i:=chain_has c b w f λx j=>h x (by simp[j]);obtain⟨p,m,e⟩:=lay (a:=a) f c d;have g:a++chain a (w::b)=p++(w++chain w b):=by rw[chain,<-jT,e,jT]
  obtain⟨l,o⟩:=wins_pre1 c (w++chain w b) (by simp;lia) p m;rw[g,o,<-g,yj ∅,jR ∅];exact List.Sublist.cons_cons _ (i.trans (List.sublist_append_right _ _))
def Has(n:Nat)(t:Tx)(a:List Tx):Prop:=∀x,a.count x<=(aG t n).count x
theorem chain_has0{n:Nat}(c:1<=n){a b:List Tx}(h:∀x∈a,x.length=n)(p:a.Perm b):Has n (chain [] a) b:=λx=>by
 rw[<-p.count_eq];cases a with
 |nil=>simp
 |cons w a=>have:=chain_has c a w (h w (by simp)) λx d=>h x (by simp[d]);rw[chain,adW_nil];exact this.count_le x
theorem ltX_app(q x y:Tx):bx (q++x) (q++y)=bx x y:=by
 unfold bx;have e:(q++x<q++y)=(x<y):=by
  induction q with
  |nil=>rfl
  |cons c q a=>rw[iU,iU,List.cons_lt_cons_self];exact a
 simp only[ca,Nat.add_left_cancel_iff,Nat.add_lt_add_iff_left,e]
theorem ltX_len{x y:Tx}(h:x.length<y.length):bx x y=ai:=by unfold bx;rw[if_neg ∅];exact decide_eq_true h
theorem ltX_lenF{x y:Tx}(h:y.length<x.length):bx x y=aj:=by unfold bx;rw[if_neg ∅];exact decide_eq_false ∅
theorem ltX_le{x y:Tx}(h:bx x y=aj):y.length<=x.length:=by
 cases Nat.lt_or_ge x.length y.length with
 |inl z=>rw[ltX_len z]at h;cases h
 |inr z=>exact z
theorem ltX_le_trans{x y z:Tx}(b:bx y x=aj)(a:bx z y=aj):bx z x=aj:=by
 cases q:bx z x with
 |false=>rfl
 |true=>
  cases r:bx x y with
  |true=>have:=wJ q r;rw[a]at this;cases this
  |false=>have:=wl b r;subst this;rw[a]at q;cases q
theorem pick_sub:∀(m l:List Tx),(∀x,l.count x<=m.count x)->∃a:List Tx,a.Sublist m/\a.Perm l
 |[],l,h=>by
  have:l=[]:=by
   cases l with
   |nil=>rfl
   |cons x l=>have:=h x;simp at this
  subst this;exact⟨[],.slnil,.nil⟩
 |y::m,l,h=>by
  by_cases d:y∈l
  .obtain⟨a,c,b⟩:=pick_sub m (l.erase y) λx=>by
    have:=h x;by_cases e:y=x
    .subst e;rw[CM];rw[vj]at this;lia
    .rw[CN (λz=>e z.symm)];rw[yo e]at this;exact this
   exact⟨y::a,c.cons_cons y,(b.cons y).trans (CO d).symm⟩
  .obtain⟨a,c,b⟩:=pick_sub m l λx=>by
    have:=h x;by_cases e:y=x
    .subst e;rw[List.count_eq_zero.mpr d];lia
    .rw[yo e]at this;exact this
   exact⟨a,c.cons y,b⟩
theorem sub_at{n:Nat}(b:1<=n):∀(t:Tx) {w:Tx}{a:List Tx},(w::a).Sublist (aG t n)->∃(q r:Tx),t=q++(w++r)/\w.length=n/\a.Sublist ((aG (w++r) n).tail)
 |[],w,a,h=>by
  have:aG [] n=[]:=rfl;rw[this]at h;cases h
 |c::t,w,a,h=>by
  by_cases d:n<=t.length+1
  .rw[wins_cons b c t d]at h;cases h with
   |cons _ h=>obtain⟨q,r,e,g,f⟩:=sub_at b t h;exact⟨c::q,r,by rw[e];rfl,g,f⟩
   |cons_cons _ h=>refine⟨[],(c::t).drop n,by simp,by simp;lia,?_⟩;rw[o_,wins_cons b c t d];exact h
  .have:aG (c::t) n=[]:=by rw[i8 _ _ b,d8,show t.length+1+1-n=0 by lia];rfl
   rw[this]at h;cases h
theorem tail_wins{n:Nat}(b:1<=n){a r:Tx}(f:a.length=n):(aG (a++r) n).tail=aG ((a++r).drop 1) n:=by
 cases h:a++r with
 |nil=>have:=congrArg kI h;rw[ca,iS]at this;lia
 |cons c t=>have d:=congrArg kI h;rw[ca,d8]at d;rw[wins_cons b c t ∅];rfl
theorem chain_least{n:Nat}(f:1<=n):∀(b:List Tx) (a r:Tx),a.length=n->b.Sublist ((aG (a++r) n).tail)->bx r (chain a b)=aj
 |[],a,r,_,_=>by
  unfold chain bx;split
  .rename_i e;rw[iS]at e;rw[jj e];rfl
  .exact decide_eq_false (by simp)
 |w::b,a,r,j,h=>by
  rw[tail_wins f j]at h;obtain⟨q,d,e,m,o⟩:=sub_at f _ h;have i:=chain_least f b w d m o;rw[chain];have A:∃p:Tx,1<=p.length/\a++r=p++(w++d):=by
   cases a with
   |nil=>simp at j;lia
   |cons c a=>rw[iU,Cf,uZ]at e;exact⟨c::q,by simp,by rw[iU,e];rfl⟩
  obtain⟨p,C,g⟩:=A;have z:=congrArg kI g;simp only[ca]at z;have u:=ov_lt (a:=a) (w:=w) ∅;have B:n<=p.length+ov a w:=by
   by_cases t:n<=p.length
   .lia
   .have y:w.take (n-p.length) <:+ a:=by
     have x:a=p++w.take (n-p.length):=by have:=congrArg (List.take n) g;rw[yj ∅,jR ∅,List.take_append,jR (show p.length<=n by lia),yj ∅]at this;exact this
     exact⟨p,x.symm⟩
    have:=ovD_max a w (w.length-1) (n-p.length) ∅ y;have D:ov a w=ovD a w (w.length-1):=rfl;lia
  have l:=ltX_le i;by_cases v:p.length+ov a w=n
  .have s:r=adW a w++d:=by
    have:=congrArg (List.drop n) g;rw[uV ∅,ym ∅,fQ,List.drop_append,ym (show p.length<=n by lia),fQ,uV ∅]at this;rw[this];unfold adW;congr 2;lia
   rw[s,ltX_app];exact i
  .refine ltX_lenF ?_;rw[ca,adW_len];lia
theorem chain_least0{n:Nat}(b:1<=n){a:List Tx}{t:Tx}(h:a.Sublist (aG t n)):bx t (chain [] a)=aj:=by
 cases a with
 |nil=>
  unfold chain bx;split
  .rename_i e;rw[iS]at e;rw[jj e];rfl
  .exact decide_eq_false (by simp)
 |cons w a=>
  obtain⟨q,r,e,d,f⟩:=sub_at b t h;have:=chain_least b a w r d f;rw[chain,adW_nil,e];have g:=ltX_le this;cases q with
  |nil=>rw[fQ,ltX_app];exact this
  |cons c q=>exact ltX_lenF (by simp;lia)
def leN:Nat->Tx->List Tx->Tx
 |0,_,_=>[]
 |n+1,a,l=>(lv ((aO (b9 l)).map λw=>adW a w++leN n w (l.erase w))).getD []
def LE(a:Tx)(l:List Tx):Tx:=leN l.length a l
theorem minX_some{l:List Tx}(h:l≠[]):∃x,lv l=aa x/\x∈l/\∀y∈l,bx y x=aj:=by
 cases l with
 |nil=>exact absurd rfl h
 |cons b r=>obtain⟨c,a⟩:=Aj r b;exact⟨_,rfl,c,a⟩
theorem LE_step{a:Tx}{l:List Tx}(h:l≠[]):∃w∈l,LE a l=adW a w++LE w (l.erase w)/\∀y∈l,bx (adW a y++LE y (l.erase y)) (LE a l)=aj:=by
 have d:∀w,w∈aO (b9 l)↔w∈l:=λw=>by rw[(et _).mem_iff,lp]
 obtain⟨n,g⟩:∃n,l.length=n+1:=⟨l.length-1,by have:=List.length_pos_iff.mpr h;lia⟩
 have p:((aO (b9 l)).map λw=>adW a w++leN n w (l.erase w))≠[]:=by
  intro z;rw[CH]at z;obtain⟨w,c⟩:=List.exists_mem_of_ne_nil l h;have:=(d w).mpr c;rw[z]at this;cases this
 have i:∀w∈l,leN n w (l.erase w)=LE w (l.erase w):=λw c=>by unfold LE;rw[rH c,g];rfl
 obtain⟨x,o,m,j⟩:=minX_some p;have e:LE a l=x:=by unfold LE;rw[g];show(lv _).getD []=x;rw[o];rfl
 obtain⟨w,c,rfl⟩:=cV.mp m;have b:=(d w).mp c;refine⟨w,b,by rw[e,i w b],λy f=>?_⟩;rw[e,<-i y f];exact j _ (cV.mpr ⟨y,(d y).mpr f,rfl⟩)
theorem LE_chain:∀(m:Nat) (a:Tx) (l:List Tx),l.length=m->∃b:List Tx,b.Perm l/\LE a l=chain a b
 |0,a,l,h=>⟨[],by rw[jj h],by rw[jj h];rfl⟩
 |m+1,a,l,h=>by obtain⟨w,c,e,_⟩:=LE_step (a:=a) (l:=l) (by rintro rfl;simp at h);obtain⟨b,p,d⟩:=LE_chain m w (l.erase w) (by rw[rH c,h];rfl);exact⟨w::b,(p.cons w).trans (CO c).symm,by rw[e,d];rfl⟩
theorem LE_least:∀(m:Nat) (a:Tx) (l b:List Tx),l.length=m->b.Perm l->bx (chain a b) (LE a l)=aj
 |0,a,l,b,h,p=>by have:=jj h;subst this;rw[List.perm_nil.mp p];rfl
 |m+1,a,l,b,h,p=>by
  cases b with
  |nil=>have:=p.length_eq;simp at this;lia
  |cons w b=>
   have c:w∈l:=p.mem_iff.mp (by simp);obtain⟨_,_,_,f⟩:=LE_step (a:=a) (l:=l) (by rintro rfl;simp at h);have d:b.Perm (l.erase w):=by have:=p.erase w;rwa[List.erase_cons_head]at this
   have g:=LE_least m w (l.erase w) b (by rw[rH c,h];rfl) d;rw[chain];refine ltX_le_trans (f w c) ?_;rw[ltX_app];exact g
def short(ls:List Tx):Tx:=LE [] ls
theorem short_has{n:Nat}(a:1<=n){ls:List Tx}(h:∀x∈ls,x.length=n):Has n (short ls) ls:=by obtain⟨c,p,e⟩:=LE_chain _ [] ls rfl;unfold short;rw[e];exact chain_has0 a (λx b=>h x (p.mem_iff.mp b)) p
theorem short_least{n:Nat}(c:1<=n){a:List Tx}{t:Tx}(h:Has n t a):bx t (short a)=aj:=by obtain⟨b,d,p⟩:=pick_sub _ _ h;exact ltX_le_trans (LE_least _ [] a b rfl p) (chain_least0 c d)
theorem short_len{n:Nat}{ls:List Tx}(h:∀x∈ls,x.length=n):(short ls).length<=ls.length*n:=by obtain⟨a,p,e⟩:=LE_chain _ [] ls rfl;unfold short;rw[e,<-p.length_eq];exact chain_len n a [] λx b=>h x (p.mem_iff.mp b)
theorem LE_len{n:Nat}{a:Tx}{ls:List Tx}(h:∀x∈ls,x.length=n):(LE a ls).length<=ls.length*n:=by obtain⟨b,p,e⟩:=LE_chain _ a ls rfl;rw[e,<-p.length_eq];exact chain_len n b a λx c=>h x (p.mem_iff.mp c)
end Mx
namespace Sh
open L2 Pu Mx
section
variable{a:Ad}
def alB:ak->R aR:=(df (dB (ql pZ (dV 0) (aB (fZ fe (dV 1) (jz) (eA (dV 2))) (aH)))) (b8 (fZ fe (dV 1) (eA (dV 2)) (jz))) (eD))
theorem al_one(t w:Tx)(k:Nat)(f:Slot):alB ([↥t,↥w,f].set 2 (⇑k))=.ok (if w.take k <:+ t then .ret (↥(w.drop k))else .next) [↥t,↥w,⇑k]:=by
 have c:fe (.str w) ae (aa ((k:Nat):Int))=aa (.str (w.take k)):=by show aa (PV.str (dG w ae _))=_;rw[zL]
 have d:fe (.str w) (aa ((k:Nat):Int)) ae=aa (.str (w.drop k)):=by show aa (PV.str (dG w _ ae))=_;rw[As]
 have b:pZ t [.str (w.take k)]=aa (.bl (decide (w.take k <:+ t))):=rfl;by_cases h:w.take k <:+ t
 .rw[if_pos h];rw[decide_eq_true h]at b;generalize w.take k=T at c b;generalize w.drop k=D at d;generalize ((k:Nat):Int)=KI at c d;simp![alB,ql,wG,fZ,eA,jz,c,d,b]
 .rw[if_neg h];rw[decide_eq_false h]at b;generalize w.take k=T at c b;generalize ((k:Nat):Int)=KI at c;simp![alB,ql,wG,fZ,eA,jz,c,b]
theorem al_loop(t w:Tx):∀(k:Nat) (b:Slot),∃c,eC 2 alB (jJ ((k:Nat):Int) k) [↥t,↥w,b]=.ok (if ovD t w k=0 then .next else .ret (↥(w.drop (ovD t w k)))) [↥t,↥w,c]
 |0,b=>⟨b,rfl⟩
 |k+1,b=>by
  have e:jJ (((k+1:Nat)):Int) (k+1)=.int ((k+1:Nat):Int)::jJ ((k:Nat):Int) k:=by unfold jJ;rw[uW,ji,eY];refine congr (congrArg List.cons (by simp)) (m8 λi _=>?_);show PV.int _=PV.int _;congr 1;lia
  have d:=al_one t w (k+1) b;rw[e,eC,d];unfold ovD;by_cases h:w.take (k+1) <:+ t
  .rw[if_pos h,if_pos h];exact⟨_,rfl⟩
  .rw[if_neg h,if_neg h];exact al_loop t w k _
theorem added_eq(t w:Tx)(o:1<=w.length)(p:w.length<=100):qg a [↥t,↥w]=.ok (↥(adW t w)) [↥t,↥w]:=by
 obtain⟨j,i⟩:=al_loop t w (w.length-1) .none;have l:bq [.str w]=aa (.int (w.length:Nat)):=by simp[bq]
 have d:gX (.int (w.length:Nat)) (.int 1)=aa (.int ((w.length-1:Nat):Int)):=by show aa (PV.int ((w.length:Int)-1))=_;congr 2;lia
 have f:p6 [.int ((w.length-1:Nat):Int),.int 0,.int (-1)]=aa (jJ ((w.length-1:Nat):Int) (w.length-1)):=by show(if(-1:Int)=-1/\(0:Int)<=1000000/\(-1000000:Int)<=0/\((w.length-1:Nat):Int)<=1000000/\-1000000<=((w.length-1:Nat):Int)then aa (jJ ((w.length-1:Nat):Int) (((w.length-1:Nat):Int)-0).toNat)else ae)=_;rw[if_pos ⟨rfl,by decide,by decide,∅,∅⟩];congr 2
 have m:qo (.int 1)=aa (.int (-1)):=rfl;have g:ov t w=ovD t w (w.length-1):=rfl;have b:(λc=>ff (dW 2 (dL p6 (aB (d2 gX (dL bq (aB (dV 1) (aH))) (dC (.int 1))) (aB (dC (.int 0)) (aB (d1 qo (dC (.int 1))) (aH))))) alB c)) [↥t,↥w,.none]=.ok (if ovD t w (w.length-1)=0 then .next else .ret (↥(w.drop (ovD t w (w.length-1))))) [↥t,↥w,j]:=by generalize (if ovD t w (w.length-1)=0 then aR.next else aR.ret (↥(w.drop (ovD t w (w.length-1)))))=FL at i;generalize jJ ((w.length-1:Nat):Int) (w.length-1)=DW at i f;generalize ((w.length-1:Nat):Int)=W1 at d f;generalize ((w.length:Nat):Int)=W0 at l d;simp![ff,dW,l,d,m,f,i]
 have n:yac a [↥t,↥w,.none]=.ok (.ret (↥(adW t w))) [↥t,↥w,j]:=by
  show br (λc=>ff (dW 2 _ alB c)) (b8 (dV 1)) _=_;unfold adW;rw[g];by_cases h:ovD t w (w.length-1)=0
  .rw[if_pos h]at b;rw[h];exact(f9 b).trans rfl
  .rw[if_neg h]at b;unfold br;rw[b]
 simp[qg,bC,eB,bE,cO,n,back,ga,aZ,R.bind]
theorem idx_txP{l:List Tx}{x:Tx}(h:x∈l):∃k,k<l.length/\oE (am l) (.str x)=aa (.int k)/\l.take k++l.drop (k+1)=l.erase x:=by
 induction l with
 |nil=>cases h
 |cons y l i=>
  have g:∀b:List Tx,oE (am b) (.str x)=((bA b).findIdx? λz=>cC z (tV x)).map λj=>PV.int (j:Nat):=λb=>by
   unfold oE;rw[zW];show Option.map (λj=>PV.int j) ((List.findIdx? (λz=>cC z (tV x)) (bA b)).bind λa=>aa (a:Int))=_;cases List.findIdx? (λz=>cC z (tV x)) (bA b) <;> rfl
  rw[g];show ∃k,k<(y::l).length/\((tV y::bA l).findIdx? λz=>cC z (tV x)).map (λj=>PV.int (j:Nat))=_/\_;rw[List.findIdx?_cons,BF];by_cases c:y=x
  .subst c;exact⟨0,by simp,by simp,by simp⟩
  .obtain⟨k,o,f,n⟩:=i ((bF.mp h).resolve_left λz=>c z.symm);rw[g]at f;refine⟨k+1,by simp;lia,?_,?_⟩
   .rw[decide_eq_false c];obtain⟨j,m,d⟩:=pB.mp f;have:j=k:=by injection d with d;exact Int.ofNat.inj d
    subst this;rw[m];rfl
   .rw[List.take_succ_cons,Cf,iU,n,List.erase_cons_tail (by simpa using c)]
theorem add1_tx(b c:List Tx)(h:b.length+c.length<=1000):nM (.tup (am b)) (.tup (am c))=aa (.tup (am (b++c))):=by
 cases b with
 |nil=>rfl
 |cons x b=>
  cases c with
  |nil=>show(if(am b).length<1000 then aa (PV.tup (.str x::am b))else ae)=_;rw[fK,if_pos (by simp at h;lia),iQ];rfl
  |cons y c=>show(if(am (x::b)≠[]/\am (y::c)≠[]/\(am (x::b)).length+(am (y::c)).length<=1000)then aa (PV.tup (am (x::b)++am (y::c)))else ae)=_;rw[if_pos ⟨by simp[am],by simp[am],by rw[fK,fK];exact h⟩,BE]
theorem without_eq{l:List Tx}{x:Tx}(h:x∈l)(m:l.length<=100):qr a [.val (.tup (am l)),↥x]=.ok (.val (.tup (am (l.erase x)))) [.val (.tup (am l)),↥x]:=by
 obtain⟨k,j,g,i⟩:=idx_txP h;have d:fe (.tup (am l)) ae (aa ((k:Nat):Int))=aa (.tup (am (l.take k))):=by show(if HT.sIx (am l).length 0 ae=0/\HT.sIx (am l).length (am l).length (aa ((k:Nat):Int))=(am l).length then ae else aa (PV.tup (dG (am l) ae (aa ((k:Nat):Int)))))=_;rw[if_neg (by rintro⟨_,z⟩;rw[HT.sIx_nat,fK]at z;lia),zL];simp[am]
 have c:fe (.tup (am l)) (aa ((k+1:Nat):Int)) ae=aa (.tup (am (l.drop (k+1)))):=by show(if HT.sIx (am l).length 0 (aa ((k+1:Nat):Int))=0/\HT.sIx (am l).length (am l).length ae=(am l).length then ae else aa (PV.tup (dG (am l) (aa ((k+1:Nat):Int)) ae)))=_;rw[if_neg (by rintro⟨z,_⟩;rw[HT.sIx_nat,fK]at z;lia),As];simp[am]
 have f:nM (.int k) (.int 1)=aa (.int ((k+1:Nat):Int)):=rfl;have b:=add1_tx (l.take k) (l.drop (k+1)) (by simp;lia);rw[i]at b;generalize ((k+1:Nat):Int)=K1 at c f;generalize ((k:Nat):Int)=K0 at d f g;generalize am (l.take k)=P1 at d b;generalize am (l.drop (k+1))=P2 at c b;generalize am (l.erase x)=P3 at b;generalize am l=PL at d c g;simp![qr,yaz,kl,fZ,eA,jz,g,d,c,f,b]
theorem Jt(b:Bool)(c d:List Tx):Pu.eqT b (.tup (am c)) (.tup (am d))=aa (.bl (b^^decide (c=d))):=by show(if fO (.tup (am c))<=8 then(dY (am c) (am d)).map (λk=>PV.bl (b^^k))else ae)=_;rw[if_pos (by show eQ (am c)+1<=8;rw[p9];decide),pX];rfl
def nextT(w:Nat)(b:List Tx)(t:Tx):List Tx:=(b_.map λc=>t++[c]).filter (unD w b)
theorem JR(w:Nat)(g:List Tx)(V j h u:Slot)(d:List Tx)(H:∀t∈d,t.length<=50)(M:(d.flatMap (nextT w g)).length<=999999):∃l,eC 6 (mI 5 (dF (cZ [6,1,2] (cR (dC (.str [97,98,99]))) (dB (bo (be (lA a) (gV (d2 bg (dV 1) (dV 0)) (gV (dV 2) (gV (dV 3) (Pu.bK))))))) (d2 bg (dV 1) (dV 0))))) (am d) [V,⇑w,.val (.tup (am g)),j,h,.own (.lst []),u]=.ok .next [V,⇑w,.val (.tup (am g)),j,h,.own (.lst (am (d.flatMap (nextT w g)))),l]:=by
 let f:=nextT w g
 obtain⟨D,C,l,p,rest,m,v,rfl⟩:=BA (i:=6) (db:=(mI 5 (dF (cZ [6,1,2] (cR (dC (.str [97,98,99]))) (dB (bo (be (lA a) (gV (d2 bg (dV 1) (dV 0)) (gV (dV 2) (gV (dV 3) (Pu.bK))))))) (d2 bg (dV 1) (dV 0))))))
  (I:=λr ε=>∃(l:Slot) (p rest:List Tx),d=p++rest/\r=am rest/\ε=[V,⇑w,.val (.tup (am g)),j,h,.own (.lst (am (p.flatMap f))),l])
  (by
   rintro x r ε ⟨l,p,rest,m,A,rfl⟩;cases rest with
   |nil=>cases A
   |cons t rest=>
    have o:x::r=.str t::am rest:=A;simp only[List.cons.injEq]at o;obtain⟨rfl,rfl⟩:=o;have G:=H t (by rw[m];simp);have n:=ln (cap:=[6,1,2]) (dt:=(dB (bo (be (lA a) (gV (d2 bg (dV 1) (dV 0)) (gV (dV 2) (gV (dV 3) (Pu.bK)))))))) (de:=(d2 bg (dV 1) (dV 0))) (ε:=[V,⇑w,.val (.tup (am g)),j,h,.own (.lst (am (p.flatMap f))),↥t])
     (λx=>match x with|.str [c]=>unD w g (t++[c])|_=>aj) (λx=>match x with|.str [c]=>.str (t++[c])|_=>.non) (b_.map qu)
     (by
      intro x F;obtain⟨c,_,rfl⟩:=cV.mp F;have q:=Js (a:=a) w g (t++[c]) (by simp;lia);have y:bg (.str t) (.str [c])=aa (.str (t++[c])):=we (by simp[cA];lia);simp only[qu];generalize am (p.flatMap f)=L;generalize unD w g (t++[c])=b at q;generalize t++[c]=tc at q y;generalize am g=B at q;refine⟨?_,λ_=>?_⟩
      .simp![dH,dw,c_,y,q]
      .simp![dH,dw,c_,y]) []
    have J:((b_.map qu).filter (λx=>match x with|.str [c]=>unD w g (t++[c])|_=>aj)).map (λx=>match x with|.str [c]=>PV.str (t++[c])|_=>.non)=am (f t):=by simp only[f,nextT];rw[rG,eY,rG];unfold am;rw[eY];rfl
    rw[fQ,J]at n;have z:jH (.str [97,98,99])=aa (b_.map qu):=rfl;have s:(am (p.flatMap f)).length+(am (f t)).length<=cA:=by
     rw[fK,fK];have N:(p.flatMap f).length+(f t).length<=(d.flatMap (nextT w g)).length:=by rw[m,List.flatMap_append,vi,ca,ca];simp only[f];lia
     unfold cA;lia
    refine⟨[V,⇑w,.val (.tup (am g)),j,h,.own (.lst (am ((p++[t]).flatMap f))),↥t],?_,↥t,p++[t],rest,by rw[m];simp,rfl,rfl⟩;have K:am ((p++[t]).flatMap f)=am (p.flatMap f)++am (f t):=by simp[am]
    rw[K];generalize am (f t)=Y at n s;generalize am (p.flatMap f)=L at n s;generalize am g=B at n;generalize b_.map qu=A3 at n z;clear_value f;simp![mI,cZ,cR,z,n,s])
  (am d) [V,⇑w,.val (.tup (am g)),j,h,.own (.lst (am (([]:List Tx).flatMap f))),u] ⟨u,[],d,by simp,rfl,rfl⟩
 have E:rest=[]:=by cases rest with|nil=>rfl|cons=>cases v
 subst E;rw[iQ]at m;rw[<-m]at C;exact⟨l,C⟩
theorem JB{k:Nat}(h:k<=12):3^k<=531441:=cn (Nat.pow_le_pow_right (by decide) h) (by decide)
theorem HK{w:Nat}{ls:List Tx}(g:Good b_ w ls)(s:1<=w)(w4:w<=4)(W:ls.Pairwise (λa b=>cf a b=ai)):tw a [.val (bY w ls)]=.ok (.own (.lst (am (fJ w ls)))) [.val (bY w ls)]:=by
 have G:fJ w ls=(rowsOf w ls (ls.length+w-1)).filter (λz=>decide (aO (aG z w)=ls)):=by rw[El W,xh s g.some λx q=>⟨g.len x q,g.abc x q⟩];congr 2;lia
 obtain⟨L,C⟩:∃L:Nat,ls.length+w-1=L:=⟨_,rfl⟩
 rw[C]at G;have F:L<=12:=by have:=g.few;lia
 have H:bq [.tup (am ls)]=aa (.int (ls.length:Nat)):=by simp[bq,fK]
 have A:bg (.int (ls.length:Nat)) (.int w)=aa (.int ((ls.length:Int)+w)):=rfl;have y:gX (.int ((ls.length:Int)+w)) (.int 1)=aa (.int L):=by show aa (PV.int ((ls.length:Int)+w-1))=_;congr 2;lia
 have X:fM [.int L]=aa (ce 0 L):=oF ∅;have v:(ce 0 L).length=L:=by simp[ce]
 obtain⟨J,m,p,o,f,rfl⟩:=tj (i:=4) (db:=(br (iK 5 (dL fF (aH)))
 (br (dW 6 (cR (dV 3)) (mI 5 (dF (cZ [6,1,2] (cR (dC (.str [97,98,99]))) (dB (bo (be (lA a) (gV (d2 bg (dV 1) (dV 0)) (gV (dV 2) (gV (dV 3) (Pu.bK))))))) (d2 bg (dV 1) (dV 0))))))
 (cS 3 (dM 5)))))
  (I:=λk ε=>∃(p o f:Slot),ε=[.val (bY w ls),⇑w,.val (.tup (am ls)),.val (.lst (am (rowsOf w ls k))),p,o,f]) (N:=L)
  (by
   rintro k ε x hk ⟨p,o,f,rfl⟩;have n:∀t∈rowsOf w ls k,t.length<=50:=λt S=>by have:=((kw k t).mp (lD.mp S).1).1;lia
   have e:(rowsOf w ls k).flatMap (nextT w ls)=rowsOf w ls (k+1):=(IA s ls k).symm;have K:((rowsOf w ls k).flatMap (nextT w ls)).length<=999999:=by rw[e];have l:=Ke w ls (k+1);have h2:=JB (show k+1<=12 by lia);lia
   obtain⟨P,l⟩:=JR (a:=a) w ls (.val (bY w ls)) (.val (.lst (am (rowsOf w ls k)))) (.val x) f (rowsOf w ls k) n K;rw[e]at l;refine⟨_,?_,.val x,.val (.lst (am (rowsOf w ls (k+1)))),P,rfl⟩;generalize am (rowsOf w ls (k+1))=R1 at l;generalize Y:am (rowsOf w ls k)=R0 at l;simp only[bY]at l ⊢;have O:∀(d:ak->R aR) (r:List PV) (ε:ak),ε[3]?=aa (.val (.lst r))->dW 6 (cR (dV 3)) d ε=eC 6 d r ε:=λd r ε h=>by unfold dW cR dV;rw[h];rfl
   refine(f9 (ε1:=[.val (.tup [.int w,.tup (am ls)]),⇑w,.val (.tup (am ls)),.val (.lst R0),.val x,.own (.lst []),f]) (by simp![])).trans ?_;refine(f9 ((O _ R0 _ rfl).trans l)).trans ?_;simp[cS,dM,R.bind])
  (ce 0 L) 0 [.val (bY w ls),⇑w,.val (.tup (am ls)),.val (.lst (am (rowsOf w ls 0))),.none,.none,.none] ∅ ⟨.none,.none,.none,rfl⟩
 rw[v,rz,Dk s]at m;have j:=ln (cap:=[1,2]) (dt:=(dB (d2 (Pu.eqT aj) (bo (be (kq a) (gV (dV 0) (gV (dV 1) (Pu.bK))))) (dV 2)))) (de:=dV 0) (ε:=[.val (bY w ls),⇑w,.val (.tup (am ls)),.val (.lst (am (rowsOf w ls L))),p,o,f])
  (λx=>match x with|.str z=>decide (aO (aG z w)=ls)|_=>aj) (λx=>x) (am (rowsOf w ls L))
  (by
   intro x q;obtain⟨z,Q,rfl⟩:=cV.mp q;have u:z.length<=60:=by have:=((kw L z).mp (lD.mp Q).1).1;lia
   have E:=ub (a:=a) z w u;have c:=Jt aj (aO (aG z w)) ls;simp only[Bool.false_xor]at c;generalize am (aO (aG z w))=M at E c;generalize Z:decide (aO (aG z w)=ls)=D at c;generalize am (rowsOf w ls L)=RR;simp only[bY];refine⟨?_,λ_=>?_⟩
   .simp only[Z];generalize am ls=B at c;simp![dH,dw,c_,E,c]
   .generalize am ls=B;simp![dH,dw,c_]) []
 have c:((am (rowsOf w ls L)).filter (λx=>match x with|.str z=>decide (aO (aG z w)=ls)|_=>aj)).map (λx=>x)=am (fJ w ls):=by rw[List.map_id',G];unfold am;rw[rG];rfl
 rw[fQ,c]at j;have e0:am [[]]=[.str []]:=rfl;rw[e0]at m;generalize am (fJ w ls)=T at j;generalize am (rowsOf w ls L)=RR at j m;simp only[bY]at j m ⊢;generalize am ls=B at j m H;simp![tw,yan,wy,H,A,y,ff,dW,X,m,l8,cZ,cR,jH,j]
end
end Sh
namespace Mx
open L2 Pu
def kA(z:Tx)(i:Nat):Nat:=z.getD (i % z.length) 0
def FC(z:Tx)(w:Nat):Tx:=((cO w z).flatten).take (z.length+w-1)
end Mx
namespace Sh
open L2 Pu Mx
section
variable{a:Ad}
def l_(t:Tx)(v:Nat):List Tx:=(cm (t.length+1-v)).map λi=>(t.drop i).take v
theorem DM{t:Tx}{w:Nat}(m:w<=t.length+1)(o:t.length<=60):mR a [↥t,⇑w]=.ok (.own (.lst (am (l_ t w)))) [↥t,⇑w]:=by
 have j:bq [.str t]=aa (.int (t.length:Nat)):=rfl;have h:gX (.int (t.length:Nat)) (.int w)=aa (.int ((t.length:Int)-w)):=rfl;have f:bg (.int ((t.length:Int)-w)) (.int 1)=aa (.int ((t.length+1-w:Nat):Int)):=by show aa (PV.int ((t.length:Int)-w+1))=_;congr 2;lia
 have c:fM [.int ((t.length+1-w:Nat):Int)]=aa (ce 0 (t.length+1-w)):=oF ∅;have b:=ln (cap:=[0,1]) (dt:=fL) (de:=(fZ fe (dV 1) (eA (dV 0)) (eA (d2 bg (dV 0) (dV 2))))) (ε:=[↥t,⇑w]) (λ_=>ai) (λx=>match x with|.int i=>.str (dG t (aa i) (aa (i+w)))|_=>.non) (ce 0 (t.length+1-w))
  (by intro x g;obtain⟨i,_,rfl⟩:=cV.mp g;refine⟨by simp![dH,dw,c_,fL],λ_=>?_⟩;simp![dH,dw,c_,bg,fZ,eA,fe]) []
 have l:((ce 0 (t.length+1-w)).filter (λ_=>ai)).map (λx=>match x with|.int i=>PV.str (dG t (aa i) (aa (i+w)))|_=>.non)=am (l_ t w):=by
  rw[yn.mpr (by simp)];unfold ce am l_;rw[eY,eY];refine m8 λi d=>?_;have d:i<t.length+1-w:=by simpa using d
  simp only[rF,Int.zero_add];rw[Ah ∅]
 rw[fQ,l]at b;generalize am (l_ t w)=T at b;generalize ce 0 (t.length+1-w)=RR at c b;generalize ((t.length+1-w:Nat):Int)=n at f c;simp![mR,yax,l8,cZ,j,h,f,c,b]
theorem E5{t:Tx}{w:Nat}(b:1<=w):l_ t w=aG t w:=(i8 t w b).symm
theorem Gm{t:Tx}{w:Nat}(b:1<=w)(c:w<=t.length+1)(d:t.length<=60):mR a [↥t,⇑w]=.ok (.own (.lst (am (aG t w)))) [↥t,⇑w]:=by rw[<-E5 b];exact DM c d
def og(b c:Nat):List Nat:=List.range' b (c-b)
def part(t:Tx)(i j:Nat):Tx:=(t.drop i).take (j-i)
def kA(b:List Tx)(i:Nat):Tx:=b.getD i []
def Iw(t:Tx)(s e g l:Nat):Tx:=t.take s++part t g l++part t e g++part t s e++t.drop l
def IH(t:Tx)(b:List Tx)(s g e:Nat):List Tx:=(og (g+1) b.length).flatMap λl=>if kA b e=kA b l then [Iw t s e g l] else []
def FS(t:Tx)(b:List Tx)(s g:Nat):List Tx:=(og (s+1) (g+1)).flatMap λe=>IH t b s g e
end
section
variable{a:Ad}
def DP(t:Tx)(b:List Tx)(s:Nat):List Tx:=(og (s+1) b.length).flatMap λg=>if kA b s=kA b g then FS t b s g else []
def HE(t:Tx)(b:List Tx):List Tx:=(og 0 b.length).flatMap λs=>DP t b s
def C7(t:Tx)(m w:Nat):List Tx:=(og 1 m).map λp=>FC ((t.take m).drop p++(t.take m).take p) w
def Gs(t:Tx)(b:List Tx)(w:Nat):List Tx:=if kA b 0=kA b (b.length-1)then C7 t (b.length-1) w else []
def EK(t:Tx)(w:Nat):List Tx:=HE t (l_ t (w-1))++Gs t (l_ t (w-1)) w
def Em(t:Tx)(m:Nat):List Tx:=(og 1 m).map λp=>part (cO 3 (t.take m)).flatten p (p+t.length)
def iF(t:Tx)(b:List Tx):List Tx:=if kA b 0=kA b (b.length-1)then Em t (b.length-1)else []
end
section
variable{v:Nat}
def oc(v:Nat)(M:List Tx)(y:Tx):Nat:=(M.map λx=>if x.take v=y then 1 else 0).sum
abbrev en(v:Nat)(t:Tx):Tx:=t.drop (t.length-v)
abbrev b2(p:Prop)[Decidable p]:Nat:=if p then 1 else 0
end
inductive WN(w:Nat):Nat->Tx->Tx->Prop
 |here (n:Nat) (t:Tx):WN w n t t
 |on {n:Nat}{t u z:Tx}:WN w n t u->z∈EK u w->WN w (n+1) t z
def Full(w:Nat)(t:Tx)(k:Nat):Prop:=∀z∈ID t w,WN w k t z
abbrev ks(m:List (Tx×Int)):List Tx:=m.map (·.1)
def b1(p:Prop)[Decidable p]:Int:=if p then 1 else 0
def exc(a:List Tx)(y:Tx):Int:=(a.map λx=>b1 (x.dropLast=y)-b1 (x.tail=y)).sum
section
variable{a:Ad}
def f2(a:Ad):ak->R aR:=cS 2 (dF (cZ [1] (cR (dF (Kg 1))) (dB (d2 (e_ λi j=>decide (j<i)) (Bh 1 (dV 0)) (dC (.int 0)))) (dV 0)))
def f3:ak->R aR:=df (dB (d2 (e_ λi j=>decide (j<i)) (dL bq (aB (dV 2) (aH))) (dC (.int 1)))) (b8 (dL fh (aB (dC (.str [116,119,111])) (aB (d2 bT (dV 2) (dC (.int 0))) (aB (d2 bT (dV 2) (dC (.int 1))) (aH)))))) (eD)
def f4:ak->R aR:=df (vI (dB (d2 (eqT aj) (dL bq (aB (dV 2) (aH))) (dC (.int 1)))) (dB (d2 (e_ λi j=>decide (j<i)) (Bh 1 (d2 bT (dV 2) (dC (.int 0)))) (dC (.int 1))))) (b8 (dL fh (aB (dC (.str [109,111,114,101])) (aB (d2 bT (dV 2) (dC (.int 0))) (aH))))) (eD)
end
end Sh
namespace Mx
open L2 Pu
theorem yA{w:Nat}{d:List Tx}(f:1<=w)(i:1<=d.length)(j:∀x∈d,x.length=w/\∀c∈x,c∈b_)(h:d.Pairwise (λa b=>cf a b=ai)){z:Tx}(g:∀c∈z,c∈b_):z∈fJ w d↔aO (aG z w)=d:=by
 rw[xh f i j,lD,kw,List.isPerm_iff];constructor
 .rintro⟨_,p⟩;rw[sV p,oH h]
 .intro e;have p:(aG z w).Perm d:=by rw[<-e];exact(et _).symm
  have l:=p.length_eq;rw[qJ f]at l;exact⟨⟨∅,g⟩,p⟩
theorem Dj{w:Nat}{a:List Tx}(b:1<=w)(d:1<=a.length)(f:∀x∈a,x.length=w/\∀c∈x,c∈b_){z:Tx}(h:z∈fJ w a):z.length=w-1+a.length/\∀c∈z,c∈b_:=by rw[xh b d f,lD,kw]at h;exact h.1
end Mx
namespace Sh
open L2 Pu Mx
theorem abc_of{t:Tx}{w:Nat}(a:1<=w)(f:w<=t.length)(h:∀x∈aG t w,∀c∈x,c∈b_):∀c∈t,c∈b_:=by
 intro c d;obtain⟨i,g,rfl⟩:=List.mem_iff_getElem.mp d;have b:min i (t.length-w)<t.length+1-w:=∅
 refine h ((t.drop (min i (t.length-w))).take w) ?_ _ ?_
 .rw[i8 t w a];exact cV.mpr ⟨_,xI.mpr b,rfl⟩
 .refine List.mem_iff_getElem.mpr ⟨i-min i (t.length-w),by simp;lia,?_⟩;rw[yc,yb];congr 1;lia
def hasT(w:Nat)(k:List Tx):Bool:=decide (fJ w k≠[])
theorem has_iff{w:Nat}{d:List Tx}(g:Good b_ w d)(f:1<=w)(l:d.Pairwise (λa b=>cf a b=ai)):(∃t,(aG t w).Perm d)↔hasT w d=ai:=by
 have n:∀x∈d,x.length=w/\∀c∈x,c∈b_:=λx i=>⟨g.len x i,g.abc x i⟩
 unfold hasT;rw[decide_eq_true_iff];constructor
 .rintro⟨t,j⟩ e;have p:=j.length_eq;rw[qJ f]at p;have q:=g.some;have m:=abc_of (t:=t) f ∅ (λx i=>g.abc x (j.mem_iff.mp i));have:=(yA f g.some n l m).mpr (by rw[sV j];exact(oH l));rw[e]at this;cases this
 .intro h;obtain⟨z,r,e⟩:=List.exists_cons_of_ne_nil h;have o:z∈fJ w d:=by rw[e];simp
  have m:=(Dj f g.some n o).2;have:=(yA f g.some n l m).mp o;exact⟨z,by rw[<-this];exact(et _).symm⟩
section
variable{a:Ad}
theorem eqT_nil(b:Bool)(ls:List Tx):Pu.eqT b (.lst (am ls)) (.lst [])=aa (.bl (b^^decide (ls=[]))):=by show(if fO (.lst (am ls))<=8 then(dY (am ls) (am [])).map (λk=>PV.bl (b^^k))else ae)=_;rw[if_pos (by show eQ (am ls)+1<=8;rw[p9];decide),pX];rfl
theorem sortSetTP_eq{k:List Tx}(h:k.length<=1000):mL [.tup (am k)]=aa (.lst (am (aO (b9 k)))):=by show(dZ (am k)).bind _=_;rw[nU,iw,if_pos];have:(b9 k).length<=k.length:=(H_ k).length_le_of_subset λz b=>(lp _ _).mp b;lia
end
def TT:Nat->Nat
 |0=>0
 |m+1=>1+(m+1)*TT m
theorem TT_mono:∀{m n:Nat},m<=n->TT m<=TT n
 |m,0,h=>by rw[Nat.le_zero.mp h];exact aY _
 |m,n+1,h=>by
  rcases Nat.lt_or_eq_of_le h with h|h
  .have:=TT_mono (Nat.le_of_lt_succ h);show TT m<=1+(n+1)*TT n;have a:TT n<=(n+1)*TT n:=Nat.le_mul_of_pos_left _ ∅;lia
  .rw[h];exact aY _
def Kept(m:Nat)(a:List ((Tx×List Tx)×PV)):Prop:=∀p∈a,p.1.2.length<=m/\p.2=.str (LE p.1.1 p.1.2)
theorem Kept.app{m:Nat}{x y:List ((Tx×List Tx)×PV)}(c:Kept m x)(b:Kept m y):Kept m (x++y):=λp a=>(iP.mp a).elim (c p) (b p)
theorem Kept.mono{m n:Nat}{x:List ((Tx×List Tx)×PV)}(h:Kept m x)(b:m<=n):Kept n x:=λp a=>⟨cn (h p a).1 b,(h p a).2⟩
theorem valN_none{a:List ((Tx×List Tx)×PV)}{k:Tx×List Tx}(h:∀p∈a,p.1≠k):valN a k=ae:=by unfold valN;rw[List.find?_eq_none.mpr λp b=>by simpa using h p b];rfl
theorem valN_app{x y:List ((Tx×List Tx)×PV)}{k:Tx×List Tx}(h:valN x k=ae):valN (x++y) k=valN y k:=by
 unfold valN at h ⊢;rw[List.find?_append];cases e:x.find? λa=>decide (a.1=k)with
 |none=>rfl
 |some p=>rw[e]at h;cases h
theorem valN_some{a:List ((Tx×List Tx)×PV)}{k:Tx×List Tx}{m:Nat}(h:Kept m a){v:PV}(e:valN a k=aa v):v=.str (LE k.1 k.2):=by unfold valN at e;obtain⟨p,c,rfl⟩:=pB.mp e;have d:=List.mem_of_find?_eq_some c;have b:=List.find?_some c;simp only[decide_eq_true_eq]at b;rw[(h p d).2,b]
section
variable{a:Ad}
def leB(a:Ad)(rc:ak->R Slot):ak->R aR:=(mE 3 (d2 bg (bo (be (qg a) (gV (dV 0) (gV (dV 4) (Pu.bK))))) (bo (be (rc) (gV (dV 4) (gV (bo (be (qr a) (gV (dV 1) (gV (dV 4) (Pu.bK))))) (gO 2 (Pu.bK))))))))
theorem le_step{f:ak->R Slot}{t y:Tx}{l:List Tx}(p:y∈l)(w:l.length<=9)(n:1<=y.length)(s:y.length<=4){h g:List ((Tx×List Tx)×PV)}{r:Tx}(u:r.length<=100)(j:f [↥y,.val (.tup (am (l.erase y))),.own (.dN h)]=.ok (↥r) [↥y,.val (.tup (am (l.erase y))),.own (.dN g)]) (b:List Tx) (v:b.length<=100) (o:Slot):leB a f ([↥t,.val (.tup (am l)),.own (.dN h),.own (.lst (am b)),o].set 4 (↥y))=.ok .next [↥t,.val (.tup (am l)),.own (.dN g),.own (.lst (am (b++[adW t y++r]))),↥y]:=by
 have m:=added_eq (a:=a) t y n ∅;have d:=without_eq (a:=a) p ∅;have x:=adW_len t y;have c:bg (.str (adW t y)) (.str r)=aa (.str (adW t y++r)):=we (by simp[cA];lia);have i:(am b).length<cA:=by rw[fK];unfold cA;lia
 have q:am (b++[adW t y++r])=am b++[.str (adW t y++r)]:=by simp[am]
 rw[q];generalize adW t y++r=AR at c;generalize adW t y=A1 at m c;generalize am (l.erase y)=L2 at d j;generalize am l=L1 at d;generalize am b=ES at i;simp![leB,m,d,j,c,i]
theorem le_loop{rc:ak->R Slot}{t:Tx}{l:List Tx}{n:Nat}(u:1<=n)(s:n<=4)(p:∀x∈l,x.length=n)(D:l.length<=9){m:Nat}(N:l.length=m+1){f:List ((Tx×List Tx)×PV)}(B:Kept 9 f)(P:f.length+TT (m+1)<=900000)(w:∀(y:Tx) (o:List ((Tx×List Tx)×PV)),y∈l->Kept 9 o->o.length+TT m<=900000->∃more,Kept m more/\more.length<=TT m/\rc [↥y,.val (.tup (am (l.erase y))),.own (.dN o)]=.ok (↥(LE y (l.erase y))) [↥y,.val (.tup (am (l.erase y))),.own (.dN (o++more))]):∀(d:List Tx) (c:List Tx) (more:List ((Tx×List Tx)×PV)) (g:Slot),(∀y∈d,y∈l)->c.length+d.length<=l.length->Kept m more->more.length<=c.length*TT m -> ∃b r,Kept m b/\b.length<=(c.length+d.length)*TT m/\eC 4 (leB a rc) (am d) [↥t,.val (.tup (am l)),.own (.dN (f++more)),.own (.lst (am c)),g]=.ok .next [↥t,.val (.tup (am l)),.own (.dN (f++b)),.own (.lst (am (c++d.map λy=>adW t y++LE y (l.erase y)))),r]
 |[],c,more,g,_,_,q,C=>⟨more,g,q,by simpa using C,by simp[eC,am]⟩
 |y::d,c,more,g,i,T,q,C=>by
  have h:=i y (by simp);simp only[d8]at T;have F:(c.length+1)*TT m<=(m+1)*TT m:=Nat.mul_le_mul_right _ ∅;have X:TT (m+1)=1+(m+1)*TT m:=rfl;rw[xR]at F;obtain⟨I,K,W,O⟩:=w y (f++more) h (B.app (q.mono ∅)) (by rw[ca];lia);have Y:=LE_len (n:=n) (a:=y) (ls:=l.erase y) λx M=>p x (CI M);have j:(LE y (l.erase y)).length<=100:=by
   have Q:(l.erase y).length<=9:=by rw[rH h];lia
   have:=u5 Q s;lia
  have E:=le_step (a:=a) (t:=t) h D (by rw[p y h];exact u) (by rw[p y h];exact s) j O c ∅ g;rw[jT]at E;obtain⟨H,G,J,v,A⟩:=le_loop u s p D N B P w d (c++[adW t y++LE y (l.erase y)]) (more++I) (↥y) (λz L=>i z (by simp[L])) (by simp;lia) (q.app K) (by rw[ca,ca,o8,xR];lia);refine⟨H,G,J,by simp only[ca,o8]at v;rw[d8,show c.length+(d.length+1)=c.length+1+d.length by lia];exact v,?_⟩;have S:am (y::d)=.str y::am d:=rfl;rw[S,eC,E];simp only[jT,iU,fQ,ji]at A ⊢;exact A
theorem le_eq:∀(k:Nat) (t:Tx) (l:List Tx) (b:List ((Tx×List Tx)×PV)) {n:Nat},1<=n->n<=4->(∀x∈l,x.length=n)->l.length<=9->l.length<k->Kept 9 b->b.length+TT l.length<=900000 -> ∃more,Kept l.length more/\more.length<=TT l.length/\iY a k [↥t,.val (.tup (am l)),.own (.dN b)]=.ok (↥(LE t l)) [↥t,.val (.tup (am l)),.own (.dN (b++more))]
 |0,t,l,b,n,_,_,_,_,h,_,_=>∅
 |k+1,t,l,b,n,n1,n4,hn,h9,hk,hK,hB=>by
  have r:bq [.tup (am l)]=aa (.int (l.length:Nat)):=by simp[bq,fK]
  cases g:l.length with
  |zero=>
   have:=jj g;subst this;have e:Pu.eqT aj (.int 0) (.int 0)=aa (.bl ai):=rfl;refine⟨[],(λp c=>by cases c),by simp,?_⟩;have e2:LE t []=[]:=rfl;have K:bq [.tup (am ([]:List Tx))]=aa (.int 0):=rfl;rw[e2,iQ];generalize am ([]:List Tx)=T0 at K;simp![iY,yaw,K,e]
  |succ m=>
   have cB:l≠[]:=by rintro rfl;simp at g
   have E:Pu.eqT aj (.int (l.length:Nat)) (.int 0)=aa (.bl aj):=by rw[qz,decide_eq_false ∅];rfl
   have i:kg (.tup [.str t,.tup (am l)])=aa (t,l):=by show(dZ (am l)).map _=_;rw[nU];rfl
   have O:fh [.str t,.tup (am l)]=aa (.tup [.str t,.tup (am l)]):=rfl;cases o:valN b (t,l)with
   |some v=>
    have C:=valN_some hK o;subst C;refine⟨[],(λp c=>by cases c),by simp,?_⟩;rw[iQ];generalize LE t l=LL at o;generalize ((l.length:Nat):Int)=NI at r E;generalize J:((t,l):Tx×List Tx)=KK at i o;generalize am l=PL at r i O;simp![iY,yaw,r,E,mS,qV,ge,i,o]
   |none=>
    rw[g]at hB;have q:=sortSetTP_eq (k:=l) ∅;obtain⟨more,u,A,Q,j⟩:=le_loop (a:=a) (rc:=iY a k) (t:=t) n1 n4 hn h9 g hK hB (λy A B fA S=>by
     have M:(l.erase y).length=m:=by rw[rH B,g];rfl
     have:=le_eq k y (l.erase y) A n1 n4 (λx X=>hn x (CI X)) ∅ ∅ fA (by rw[M];exact S);rw[M]at this;exact this) (aO (b9 l)) [] [] .none (λy B=>(lp l y).mp ((et _).mem_iff.mp B)) (by
      rw[iS,rz,(et _).length_eq];exact A4 l) (λp c=>by cases c) (by simp)
    rw[iQ,fQ,show am []=[] from rfl]at j;have hT:TT (m+1)=1+(m+1)*TT m:=rfl;have Z:more.length<=(m+1)*TT m:=by refine cn Q (Nat.mul_le_mul_right _ ?_);rw[iS,rz,(et _).length_eq,<-g];exact A4 l
    have f:valN (b++more) (t,l)=ae:=by rw[valN_app o];refine valN_none λp c z=>?_;have:=(A p c).1;rw[z,g]at this;lia
    have H:lv ((aO (b9 l)).map λy=>adW t y++LE y (l.erase y))=aa (LE t l):=by obtain⟨w,Y,e,T⟩:=LE_step (a:=t) cB;refine A0 (cV.mpr ⟨w,(et _).mem_iff.mpr ((lp l w).mpr Y),e.symm⟩) λy B=>?_;obtain⟨z,W,rfl⟩:=cV.mp B;exact T z ((lp l z).mp ((et _).mem_iff.mp W))
    have G:dZ (am ((aO (b9 l)).map λy=>adW t y++LE y (l.erase y)))=aa ((aO (b9 l)).map λy=>adW t y++LE y (l.erase y)):=nU _;refine⟨more++[((t,l),.str (LE t l))],?_,by rw[ca,o8];lia,?_⟩
    .intro p c;rcases iP.mp c with c|c
     .exact⟨cn (A p c).1 ∅,(A p c).2⟩
     .rw[eV.mp c];exact⟨by rw[g];exact aY _,rfl⟩
    .have L:jH (.lst (am (aO (b9 l))))=aa (am (aO (b9 l))):=rfl;have N:(b++more).length<cA:=by rw[ca];unfold cA;lia
     have d:valN (b++(more++[((t,l),PV.str (LE t l))])) (t,l)=aa (.str (LE t l)):=by rw[<-jT,valN_app f];simp[valN]
     have s:(b++more)++[((t,l),PV.str (LE t l))]=b++(more++[((t,l),PV.str (LE t l))]):=jT ..;generalize b++(more++[((t,l),PV.str (LE t l))])=KF at d s;generalize b++more=K2 at j f N s;generalize LE t l=LL at H d s;generalize ((aO (b9 l)).map λy=>adW t y++LE y (l.erase y))=EN at j H G;generalize am EN=PE at j G;generalize ((l.length:Nat):Int)=NI at r E;generalize J:((t,l):Tx×List Tx)=KK at i o f d s;generalize am (aO (b9 l))=SL at j q L;generalize am l=PL at r i O q j;have P:(λF=>ff (dW 4 (cR (dF (dL mL (aB (dV 1) (aH))))) (leB a (iY a k)) F)) [↥t,.val (.tup PL),.own (.dN b),.own (.lst []),.none]=.ok .next [↥t,.val (.tup PL),.own (.dN K2),.own (.lst PE),u]:=by simp![ff,dW,cR,q,L,j]
     have D:qL 2 (dL fh (aB (dV 0) (aB (dV 1) (aH)))) (n6 3) [↥t,.val (.tup PL),.own (.dN K2),.own (.lst PE),u]=.ok .next [↥t,.val (.tup PL),.own (.dN KF),.own (.lst PE),u]:=by simp![qL,n6,ge,G,H,i,N,f,s]
     have I:(df (dB (mS ai 2 (dL fh (aB (dV 0) (aB (dV 1) (aH)))))) (br (iK 3 (dL fF (aH))) (br (λF=>ff (dW 4 (cR (dF (dL mL (aB (dV 1) (aH))))) (leB a (iY a k)) F)) (qL 2 (dL fh (aB (dV 0) (aB (dV 1) (aH)))) (n6 3)))) (eD)) [↥t,.val (.tup PL),.own (.dN b),.none,.none]=.ok .next [↥t,.val (.tup PL),.own (.dN KF),.own (.lst PE),u]:=by
      have h1:(dB (mS ai 2 (dL fh (aB (dV 0) (aB (dV 1) (aH)))))) [↥t,.val (.tup PL),.own (.dN b),.none,.none]=.ok ai [↥t,.val (.tup PL),.own (.dN b),.none,.none]:=by simp![mS,ge,i,o]
      have h2:(iK 3 (dL fF (aH))) [↥t,.val (.tup PL),.own (.dN b),.none,.none]=.ok .next [↥t,.val (.tup PL),.own (.dN b),.own (.lst []),.none]:=by simp![]
      unfold df;rw[h1];simp only[R.bind_ok];exact(f9 h2).trans ((f9 P).trans D)
     have hd:yaw a (iY a k) [↥t,.val (.tup PL),.own (.dN b),.none,.none]=.ok (.ret (↥LL)) [↥t,.val (.tup PL),.own (.dN KF),.own (.lst PE),u]:=by unfold yaw;refine(f9 (ε1:=[↥t,.val (.tup PL),.own (.dN b),.none,.none]) (by simp![r,E])).trans ?_;refine(f9 I).trans ?_;simp![qV,ge,i,d]
     simp[iY,bC,eB,bE,cO,hd,back,ga,aZ,R.bind,ke]
theorem short_eq{w:Nat}{ls:List Tx}(g:Good b_ w ls)(h:1<=w)(f:w<=4)(l:ls.Pairwise (λa b=>cf a b=ai)):qC a [.val (bY w ls)]=.ok (↥(short ls)) [.val (bY w ls)]:=by
 have i:qh a [.val (bY w ls)]=.ok (.val .non) [.val (bY w ls)]:=IT (a:=a) (g.vw h f l);have j:=g.few;have n:TT ls.length<=623530:=cn (TT_mono j) (by decide);obtain⟨more,_,_,c⟩:=le_eq (a:=a) 10 [] ls [] h f g.len j ∅ (λp m=>by cases m) (by simp;lia);have d:bT (bY w ls) (.int 1)=aa (.tup (am ls)):=rfl;rw[fQ]at c;have e:LE [] ls=short ls:=rfl;rw[e]at c;generalize short ls=SH at c;generalize am ls=PL at c d;generalize bY w ls=V at i d;simp![qC,yay,i,sN,tL,gN,wQ,zU,d,c]
theorem pieces_any{t:Tx}{w:Nat}(d:1<=w)(l:w<=4)(i:t.length<=60):mR a [↥t,⇑w]=.ok (.own (.lst (am (aG t w)))) [↥t,⇑w]:=by
 by_cases h:w<=t.length+1
 .exact Gm d h i
 .have j:bq [.str t]=aa (.int (t.length:Nat)):=rfl;have f:gX (.int (t.length:Nat)) (.int w)=aa (.int ((t.length:Int)-w)):=rfl;have c:bg (.int ((t.length:Int)-w)) (.int 1)=aa (.int ((t.length:Int)-w+1)):=rfl;have g:fM [.int ((t.length:Int)-w+1)]=aa []:=by show(if(t.length:Int)-w+1<=1000000/\-1000000<=(t.length:Int)-w+1 then aa (ce 0 ((t.length:Int)-w+1).toNat)else ae)=_;rw[if_pos ⟨∅,∅⟩,show((t.length:Int)-w+1).toNat=0 by lia];rfl
  have b:aG t w=[]:=by rw[i8 t w d,show t.length+1-w=0 by lia];rfl
  rw[b,show am []=[] from rfl];generalize (t.length:Int)-w+1=N1 at c g;generalize (t.length:Int)-w=N0 at c f;simp![mR,yax,l8,cZ,j,f,c,g,iJ]
end
def less(m l:List Tx):List Tx:=l.foldl List.erase m
theorem less_perm:∀(l m:List Tx),(∀x,l.count x<=m.count x)->(less m l++l).Perm m
 |[],m,_=>by rw[iQ];exact pf m
 |y::l,m,h=>by
  have b:y∈m:=by have:=h y;rw[vj]at this;exact List.count_pos_iff.mp ∅
  have a:=less_perm l (m.erase y) λx=>by
   have:=h x;by_cases e:y=x
   .subst e;rw[CM];rw[vj]at this;lia
   .rw[CN (λz=>e z.symm)];rw[yo e]at this;exact this
  exact(List.perm_middle.trans (a.cons y)).trans (CO b).symm
def lackT(w:Nat)(ls:List Tx):List Tx:=aO (less (aG (short ls) w) ls)
theorem lack_perm{w:Nat}(a:1<=w){ls:List Tx}(h:∀x∈ls,x.length=w):(lackT w ls++ls).Perm (aG (short ls) w) :=((et _).append_right ls).trans (less_perm ls _ (short_has a h))
theorem lack_nil{w:Nat}{ls:List Tx}(g:Good b_ w ls)(c:1<=w)(l:ls.Pairwise (λa b=>cf a b=ai)):lackT w ls=[]↔fJ w ls≠[]:=by
 have d:=lack_perm c g.len;have f:=has_iff g c l;unfold hasT at f;rw[decide_eq_true_iff]at f;rw[<-f];constructor
 .intro h;rw[h,fQ]at d;exact⟨_,d.symm⟩
 .rintro⟨t,i⟩;have m:Has w t ls:=λx=>by rw[i.count_eq];exact aY _
  have o:=ltX_le (short_least c m);have j:=d.length_eq;have n:=i.length_eq;rw[qJ c]at j n;rw[ca]at j;have p:=g.some;exact jj ∅
section
variable{a:Ad}
theorem rem_loop(V:Slot):∀(l m:List Tx) (c:Slot),(∀x,l.count x<=m.count x)->∃d,eC 2 (kn 1 (dV 2)) (am l) [V,.own (.lst (am m)),c]=.ok .next [V,.own (.lst (am (less m l))),d]
 |[],m,c,_=>⟨c,rfl⟩
 |y::l,m,c,h=>by
  have g:y∈m:=by have:=h y;rw[vj]at this;exact List.count_pos_iff.mp ∅
  obtain⟨d,i⟩:=rem_loop V l (m.erase y) (↥y) λx=>by
   have:=h x;by_cases e:y=x
   .subst e;rw[CM];rw[vj]at this;lia
   .rw[CN (λz=>e z.symm)];rw[yo e]at this;exact this
  have f:dZ (am m)=aa m:=nU m;have j:kn 1 (dV 2) [V,.own (.lst (am m)),↥y]=.ok .next [V,.own (.lst (am (m.erase y))),↥y]:=by generalize am m=MM at f;simp![kn,f,g]
  refine⟨d,?_⟩;have n:am (y::l)=.str y::am l:=rfl;rw[n,eC];show(match kn 1 (dV 2) [V,.own (.lst (am m)),↥y]with
   |.ok .next b=>eC 2 (kn 1 (dV 2)) (am l) b
   |.ok .cont b=>eC 2 (kn 1 (dV 2)) (am l) b
   |.ok .brk b=>.ok .next b
   |r=>r)=_
  rw[j];exact i
theorem lacking_eq{w:Nat}{ls:List Tx}(g:Good b_ w ls)(c:1<=w)(h:w<=4)(r:ls.Pairwise (λa b=>cf a b=ai)):tT a [.val (bY w ls)]=.ok (.val (.lst (am (lackT w ls)))) [.val (bY w ls)]:=by
 have i:=short_eq (a:=a) g c h r;have q:=short_len g.len;have n:(short ls).length<=60:=by have u:ls.length*w<=9*4:=u5 g.few h;lia
 have f:=pieces_any (a:=a) (t:=short ls) c h n;obtain⟨s,d⟩:=rem_loop (.val (bY w ls)) ls (aG (short ls) w) .none (short_has c g.len);have v:(less (aG (short ls) w) ls).length<=100:=by have:=(less_perm ls _ (short_has c g.len)).length_eq;rw[ca,qJ c]at this;lia
 have j:=oj (ls:=less (aG (short ls) w) ls) ∅;have o:w8 (.lst (am (aO (less (aG (short ls) w) ls))))=ai:=zQ _;have m:bT (bY w ls) (.int 0)=aa (.int w):=rfl;have l:bT (bY w ls) (.int 1)=aa (.tup (am ls)):=rfl;have p:jH (.tup (am ls))=aa (am ls):=rfl;unfold lackT;generalize am (aO (less (aG (short ls) w) ls))=LK at j o;generalize am (less (aG (short ls) w) ls)=L1 at d j;generalize am (aG (short ls) w)=L0 at d f;generalize short ls=SH at i f;generalize am ls=PL at l p d;generalize bY w ls=V at i m l d;generalize ((w:Nat):Int)=WI at m f;simp[tT,yal,br,df,dB,d2,d1,dV,dC,dL,dF,aB,aH,b8,ma,cS,iK,be,gV,gO,Pu.bK,iC,gA,cz,fj,f8,R.bind,aZ,bC,eB,bE,back,ga,ke,xk,vP,xq,wK,bo,ot,fF,fh,eD,BD,uu,Bs,kh,uk,vI,nK,li,AI,mC,e_,cX,mE,il,oG,cO,kI,i,m,f,ff,dW,cR,l,p,d,j,o]
end
end Sh
namespace K13
open L2 Pu Mx Sh
section
variable{a:Ad}
theorem Gu(b:Bool)(ls c:List Tx):Pu.eqT b (.lst (am ls)) (.lst (am c))=aa (.bl (b^^decide (ls=c))):=by show(if fO (.lst (am ls))<=8 then(dY (am ls) (am c)).map (λk=>PV.bl (b^^k))else ae)=_;rw[if_pos (by show eQ (am ls)+1<=8;rw[p9];decide),pX];rfl
theorem HY(b:Bool)(ls c:List Tx):Pu.eqT b (.tup (am ls)) (.tup (am c))=aa (.bl (b^^decide (ls=c))):=by show(if fO (.tup (am ls))<=8 then(dY (am ls) (am c)).map (λk=>PV.bl (b^^k))else ae)=_;rw[if_pos (by show eQ (am ls)+1<=8;rw[p9];decide),pX];rfl
theorem zD(d:List Int)(w:Nat)(r:w<=4)(o n m l:Slot):∀(g:List PV) (b:List Tx) (f:List PV),f.length+6*g.length<=400 -> ∃(ls:List Tx) (j:List PV),ls.length=g.length/\(∀x∈ls,x.length=w/\∀c∈x,c∈b_)/\iJ [0,1,5] fL (bo (be (kj a) (gV (dV 1) (gO 2 (gV (dV 3) (gV (dV 3) (Pu.bK))))))) g (am b) [bJ d,.own (.lst f),o,n,m,⇑w,l]=.ok (am (b++ls)) [bJ d,.own (.lst j),o,n,m,⇑w,l]
 |[],b,f,_=>⟨[],f,rfl,(λx A=>by cases A),by simp[iJ]⟩
 |x::g,b,f,h=>by
  simp only[d8]at h;obtain⟨t,j,F,E,u,G,i⟩:=wC (a:=a) d f w w ∅ ∅ ∅;obtain⟨ls,s,z,v,q⟩:=zD d w r o n m l g (b++[t]) j ∅;refine⟨t::ls,s,by simp[z],λy p=>?_,?_⟩
  .rcases bF.mp p with rfl|p
   .exact⟨∅,u⟩
   .exact v y p
  .have D:am (b++[t])=am b++[.str t]:=by simp[am]
   have C:b++t::ls=b++[t]++ls:=by simp
   rw[C,<-q,D];generalize am b=AC;clear q;generalize ((w:Nat):Int)=WI at i;have B:bJ d=.val (.lst (d.map .int)):=rfl;rw[B]at i ⊢;generalize d.map PV.int=NS at i;simp![iJ,dH,dw,c_,fL,i]
def W1(a:Ad):ak->R aR:=df (dB (d2 (e_ λi j=>decide (i<j)) (dV 2) (dC (.int 2)))) (br (cS 5 (d2 bT (dV 4) (dC (.int 0)))) (cS 4 (dL fh (aB (dV 5) (aB (dL i6 (aB (dF (dL iI (aB (dF (cZ [0,1,5] (dL fM (aB (dL bq (aB (d2 bT (dV 4) (dC (.int 1))) (aH))) (aH))) (fL) (bo (be (kj a) (gV (dV 1) (gO 2 (gV (dV 3) (gV (dV 3) (Pu.bK))))))))) (aH)))) (aH))) (aH)))))) (eD)
theorem FU(o:List Int)(j:List PV)(G:j.length<=300)(m:Int)(n:Slot){w:Nat}{ls:List Tx}(F:1<=w)(A:w<=4)(g:Good b_ w ls)(D:ls.Pairwise (λa b=>cf a b=ai)):∃(l:List PV) (c:List Tx) (B:Slot),Good b_ w c/\c.Pairwise (λa b=>cf a b=ai)/\W1 a [bJ o,.own (.lst j),⇑m,n,.val (bY w ls),.none,.none]=.ok .next [bJ o,.own (.lst l),⇑m,n,.val (bY w c),B,.none]:=by
 by_cases h:m<2
 .have H:=g.few;have I:=g.some;have z:(ce 0 ls.length).length=ls.length:=by simp[ce]
  obtain⟨c,l,C,y,i⟩:=zD (a:=a) o w A (⇑m) n (.val (bY w ls)) .none (ce 0 ls.length) [] j (by rw[z];lia);rw[z]at C;rw[fQ,show am []=[] from rfl]at i;have E:Good b_ w (aO c):=by have p:=et c;exact⟨λx u=>(y x (p.mem_iff.mp u)).1,λx u=>(y x (p.mem_iff.mp u)).2,by rw[p.length_eq];lia,by rw[p.length_eq];lia⟩
  refine⟨l,aO c,⇑w,E,oK c,?_⟩;have r:=oj (ls:=c) ∅;have v:i6 [.lst (am (aO c))]=aa (.tup (am (aO c))):=rfl;have d:PV.tup [.int w,.tup (am (aO c))]=bY w (aO c):=rfl;have q:bq [.tup (am ls)]=aa (.int (ls.length:Nat)):=by simp[bq,fK]
  have f:fM [.int (ls.length:Nat)]=aa (ce 0 ls.length):=oF ∅;have t:bT (bY w ls) (.int 0)=aa (.int w):=rfl;have s:bT (bY w ls) (.int 1)=aa (.tup (am ls)):=rfl;generalize ce 0 ls.length=RG at i f;generalize ((ls.length:Nat):Int)=LN at q f;generalize am (aO c)=PS at r v d;generalize am c=PM at i r;generalize am ls=PL at q s;generalize bY w (aO c)=V2 at d;generalize bY w ls=V at t s i;generalize ((w:Nat):Int)=WI at t i d;simp![W1,h,t,s,q,f,cZ,i,r,v,d]
 .exact⟨j,ls,.none,g,D,by simp![W1,h]⟩
theorem GM(b:List Int):qb a [bJ b]=.ok (.val (.bl ai)) [bJ b]:=by
 obtain⟨m,_,_,X⟩:=lB (a:=a) b [] 4 (by decide) (by simp);obtain⟨p,p0,p5,O⟩:=lB (a:=a) b ([]++[.int 0]) 3 (by decide) (by simp);obtain⟨sp,rfl⟩:∃n:Nat,p=n:=⟨p.toNat,∅⟩
 obtain⟨w,F,A,d,h,_,g0,M,h7,_,L,T⟩:=Hb (a:=a) b ([]++[.int 0]++[.int 0]) sp 7 ∅ (by decide) (by decide) (by simp);simp only[fQ,iU,d8,iS]at X O T L;obtain⟨o,ls,q,g,v,P⟩:=FU (a:=a) b A ∅ m (⇑sp) d h g0 M;have f:=lacking_eq (a:=a) g d h v;have G:=short_eq (a:=a) g d h v;have Y:=short_len g.len;have Q:(short ls).length<=60:=by have hb:ls.length*w<=9*4:=u5 g.few h;lia
 have c:=ub (a:=a) (short ls) w Q;have I:=HK (a:=a) g d h v;have i:=lack_perm d g.len;have hll:(lackT w ls).length+ls.length<=100:=by have:=i.length_eq;rw[ca,qJ d]at this;lia
 have W:gc [.lst (am (lackT w ls)),.raw (.ty "list")]=aa (.bl ai):=mH (t:="list") rfl (by decide +kernel);have H:=oj (ls:=lackT w ls) ∅;have N:aO (lackT w ls)=lackT w ls:=oH (oK _);rw[N]at H;have E:=Gu ai (lackT w ls) (lackT w ls);rw[decide_eq_true rfl]at E;have j:lu [.tup (am ls)]=aa (.lst (am ls)):=rfl;have u:bg (.lst (am (lackT w ls))) (.lst (am ls))=aa (.lst (am (lackT w ls++ls))):=by show(if(am (lackT w ls)).length+(am ls).length<=cA then aa (PV.lst (am (lackT w ls)++am ls))else ae)=_;rw[if_pos (by rw[fK,fK];unfold cA;lia),BE]
 have x:=oj (ls:=lackT w ls++ls) (by rw[ca];lia);rw[sV i]at x;have S:i6 [.lst (am (aO (aG (short ls) w)))]=aa (.tup (am (aO (aG (short ls) w)))):=rfl;have D:=HY ai (aO (aG (short ls) w)) (aO (aG (short ls) w));rw[decide_eq_true rfl]at D;have C:=eqT_nil aj (lackT w ls);have B:=eqT_nil ai (fJ w ls);have r:=Ji aj (aj^^decide (lackT w ls=[])) (ai^^decide (fJ w ls=[]));have Z:(aj^^decide (lackT w ls=[]))=(ai^^decide (fJ w ls=[])):=by
  have:=lack_nil g d v;by_cases z:fJ w ls=[]
  .rw[decide_eq_true z,decide_eq_false (λy=>this.mp y z)];rfl
  .rw[decide_eq_false z,decide_eq_true (this.mpr z)];rfl
 rw[decide_eq_true Z]at r;have K:bT (bY w ls) (.int 0)=aa (.int w):=rfl;have J:bT (bY w ls) (.int 1)=aa (.tup (am ls)):=rfl;have s:pN a [bJ b,.own (.lst [.int 0,.int 0]),⇑sp,⇑7]=.ok (.val (bY w F)) [bJ b,.own (.lst A),⇑sp,⇑7]:=T;have l:yam a [bJ b,.none,.none,.none,.none,.none,.none]=.ok (.ret (.val (.bl ai))) [bJ b,.own (.lst o),⇑m,⇑sp,.val (bY w ls),q,.val (.lst (am (lackT w ls)))]:=by unfold yam;generalize ((sp:Nat):Int)=SP at O s P ⊢;refine(f9 (ε1:=[bJ b,.own (.lst []),.none,.none,.none,.none,.none]) (by simp![])).trans ?_;refine(f9 (ε1:=[bJ b,.own (.lst [.int 0]),⇑m,.none,.none,.none,.none]) (by simp![X])).trans ?_;refine(f9 (ε1:=[bJ b,.own (.lst [.int 0,.int 0]),⇑m,⇑SP,.none,.none,.none]) (by simp![O])).trans ?_;refine(f9 (ε1:=[bJ b,.own (.lst A),⇑m,⇑SP,.val (bY w F),.none,.none]) (by generalize bY w F=V0 at s;simp![s])).trans ?_;refine(f9 P).trans ?_;clear P s;generalize (aj^^decide (lackT w ls=[]))=B1 at C r;generalize (ai^^decide (fJ w ls=[]))=B2 at B r;generalize am (fJ w ls)=TX at I B;generalize am (aO (aG (short ls) w))=SW at x S D c;generalize am (lackT w ls++ls)=LC at u x;generalize am (lackT w ls)=LK at f W H E u C ⊢;generalize short ls=SH at G c;generalize am ls=PL at j u J;generalize bY w ls=V at f G I K J ⊢;generalize ((w:Nat):Int)=WI at K c;refine(f9 (ε1:=[bJ b,.own (.lst o),⇑m,⇑SP,.val V,q,.val (.lst LK)]) (by simp![f])).trans ?_;refine(f9 (ε1:=[bJ b,.own (.lst o),⇑m,⇑SP,.val V,q,.val (.lst LK)]) (by simp![W,H,E])).trans ?_;refine(f9 (ε1:=[bJ b,.own (.lst o),⇑m,⇑SP,.val V,q,.val (.lst LK)]) (by simp![J,j,u,x,S,G,K,c,D])).trans ?_;simp![C,I,B,r]
 simp[qb,bC,eB,bE,cO,l,back,ga,aZ,R.bind]
end
open L2 Pu Sh
def xl(K:au)(a:Ad):Bool:=pt K a.SlitError tW "ValueError.__new__" && (qF a).all (λx=>pt K x tW "ValueError.__new__" && subB K a.SlitError x&&Ar K x&&(qF a).all (λd=>g6 K (.ref x) (.ref d) == aa (x == d))&&g6 K (.ref x) (.type "ValueError") == aa ai)&&vx K
section
variable{K:au}{h g:ay}{i:Str->Option ah}{a:Ad}
theorem zn(h:xl K a=ai):pt K a.SlitError tW "ValueError.__new__"=ai/\(∀x∈qF a,pt K x tW "ValueError.__new__"=ai/\subB K a.SlitError x=ai/\Ar K x=ai/\(∀d∈qF a,g6 K (.ref x) (.ref d)=aa (x == d))/\g6 K (.ref x) (.type "ValueError")=aa ai)/\vx K=ai:=by unfold xl at h;simp only[eU,kR,beq_iff_eq,decide_eq_true_eq]at h;obtain⟨⟨j,c⟩,f⟩:=h;exact⟨j,λx b=>⟨(c x b).1.1.1.1,(c x b).1.1.1.2,(c x b).1.1.2,(c x b).1.2,(c x b).2⟩,f⟩
structure Top(K:au)(a:Ad):Prop where
 yao:cU K "_law_cell_at" vG
 yaq:cU K "_law_mixed" vA
 yap:cU K "_law_draw" wn
 yas:cU K "_law_seen" sO
 yar:cU K "_law_pick" xx
 yat:cU K "_law_text" v_
 yav:cU K "_law_view" vT
 yax:cU K "pieces" tJ
 yai:cU K "is_whole_number" vW
 yaj:cU K "is_width" xF
 yaf:cU K "has_only" tq
 yak:cU K "is_window" xg
 yad:cU K "are_windows" tt
 yah:cU K "is_view_with" wV
 yag:cU K "is_view" wA
 yae:cU K "check_view" xG
 yac:cU K "added_letters" v7
 yaz:cU K "without" xu
 yaw:cU K "least_ending" v6
 yay:cU K "shortest" wT
 yal:cU K "lacking" xm
 yau:cU K "_law_under" uv
 yan:cU K "_law_all" pU
 yam:cU K "law" pO
 yaB:dP K bV "all"=aa ae
 yaC:dP K bV "bool"=aa ae
 yaD:dP K bV "int"=aa ae
 yaE:dP K bV "isinstance"=aa ae
 yaF:dP K bV "len"=aa ae
 yaG:dP K bV "list"=aa ae
 yaH:dP K bV "min"=aa ae
 yaI:dP K bV "range"=aa ae
 yaJ:dP K bV "set"=aa ae
 yaK:dP K bV "sorted"=aa ae
 yaL:dP K bV "str"=aa ae
 yaM:dP K bV "tuple"=aa ae
 yaO:∃t,dP K bV "LETTERS"=aa (aa (.str (tS [97,98,99]) t))
 yaP:∃t,dP K bV "MOST_WINDOWS"=aa (aa (.int 9 t))
 yaQ:∃t,dP K bV "WIDEST"=aa (aa (.int 4 t))
 yab:dP K bV "SlitError"=aa (aa (.ref a.SlitError))
 yaa:dP K bV "NoView"=aa (aa (.ref a.NoView))
 ck:xl K a=ai
 z_least_ending:jd K "least_ending"=aa (116,112)/\uT K 116 112=ai/\K.lookup 112=ae
theorem E3(T:Top K a)(X:K.In g)(G:g.Ns bV i):c0 K i g a where
 yao:=T.yao.at X G
 yaq:=T.yaq.at X G
 yap:=T.yap.at X G
 yas:=T.yas.at X G
 yar:=T.yar.at X G
 yat:=T.yat.at X G
 yav:=T.yav.at X G
 yax:=T.yax.at X G
 yai:=T.yai.at X G
 yaj:=T.yaj.at X G
 yaf:=T.yaf.at X G
 yak:=T.yak.at X G
 yad:=T.yad.at X G
 yah:=T.yah.at X G
 yag:=T.yag.at X G
 yae:=T.yae.at X G
 yac:=T.yac.at X G
 yaz:=T.yaz.at X G
 yaw:=T.yaw.at X G
 yay:=T.yay.at X G
 yal:=T.yal.at X G
 yau:=T.yau.at X G
 yan:=T.yan.at X G
 yam:=T.yam.at X G
 yaB:=jm X G T.yaB
 yaC:=jm X G T.yaC
 yaD:=jm X G T.yaD
 yaE:=jm X G T.yaE
 yaF:=jm X G T.yaF
 yaG:=jm X G T.yaG
 yaH:=jm X G T.yaH
 yaI:=jm X G T.yaI
 yaJ:=jm X G T.yaJ
 yaK:=jm X G T.yaK
 yaL:=jm X G T.yaL
 yaM:=jm X G T.yaM
 yaO:=T.yaO.imp λ_ e=>lO X G e
 yaP:=T.yaP.imp λ_ e=>lO X G e
 yaQ:=T.yaQ.imp λ_ e=>lO X G e
 yab:=lO X G T.yab
 yaa:=lO X G T.yaa
 yaN:=Ex X (lO X G T.yaa) ((zn T.ck).2.1 a.NoView (by simp[qF])).1
 yaA:=⟨_,_,Ia X G T.z_least_ending.1 T.z_least_ending.2.1⟩
theorem F7{l:xT}{w:aD}{d:af}(X:K.In h)(G:h.Ns bV i)(b:i "law"=aa (.ref d))(T:Top K a):∃c:gh,(∀(s:ao) (v:ah),BindsTo s c ⟨[v],[]⟩ [("_law_script",v)])/\∀g:ay,K.In g->g.Ns bV i->iZ l.prog w K i g (cp l.prog w) 15 d c ["_law_script"] (bP K (qb a)):=by
 obtain⟨f,oc,u,kV,x,t,A,z,y,r,o,n,m,j⟩:=T.yam;have e:=b.symm.trans (lO X G o);cases e;exact⟨_,λs v=>.of_eq rfl,λg p q=>GV (E3 T p q) (Bb n m j)⟩
theorem Ft{l:xT}{q:aK}{j:List Str}{XP:(Str->Option ah)->ay->Prop}{p:aD->ay->Prop}{d:DefRec}{K:Params->au}(y:l.most=aa 63)(u:d.params.defaults=[])(m:d.name = "law")(o:∀(w:aD) (h:ay),p w h->(K w.params).In h/\h.get? 112=aa (PySem.W.tabObj #[])) {a:Ad} (T:∀w:aD,Top (K w.params) a):PySem.W.WalkO q j XP p l.row.toRowW d [] (λf r=>PySem.call f r) :=
 L2.LD (n:=63) (k:=15) (x:="_law_script") (K:=K) (CX:=λw=>cp l.prog w) (sp:=λw=>bP (K w.params) (qb a)) y (by decide) u ⟨rfl,by decide,by decide⟩ (λw h Y=>⟨(o w h Y).1,λc P e=>by rw[(T w).z_least_ending.1]at e;cases e;exact⟨(T w).z_least_ending.2.1,(T w).z_least_ending.2.2,(o w h Y).2⟩⟩)
  (λw i E h B G t=>F7 B G (by rw[<-m];exact t) (T w))
  (λw H b v D _ A=>JJ (IW (zn (T w).ck).2.2 A) (GM  v))
  (λw H s e C z=>by obtain⟨_,_,_,_,_,_,_,_,_,_,_,f⟩:=z;exact f)
theorem Lx{l:xT}{q:aK}{b:List Str}{XP:(Str->Option ah)->ay->Prop}{j:aD->ay->Prop}{d:DefRec}{K:Params->au}{yab yaa:af}(o:l.most=aa 63)(n:d.params.defaults=[])(c:d.name = "law")(p:∀(w:aD) (h:ay),j w h->(K w.params).In h/\h.get? 112=aa (PySem.W.tabObj #[])) (T:∀w:aD,Top (K w.params) ⟨yab,yaa,yaa,yaa,yaa,yaa,yaa,yaa,yaa,yaa,yaa,yaa,0,0⟩):PySem.W.WalkO q b XP j l.row.toRowW d [] (λf m=>PySem.call f m):=Ft o n c p T
end
end K13
def PySem.W.Fast.tw2703467993548619147:Nat:=0
def PySem.W.Fast.tw14151379257048162383:Nat:=0
def PySem.W.Fast.tw2317010187842841561:Nat:=0
def PySem.W.Fast.tw9450655597240454214:Nat:=0
def PySem.W.Fast.tw1405031265699471749:Nat:=0
def PySem.W.Fast.tw7151000952701077021:Nat:=0
def PySem.W.Fast.tw14849669031856203089:Nat:=0
def PySem.W.Fast.tw14009193337101721817:Nat:=0
def PySem.W.Fast.tw9663938346151109275:Nat:=0
def PySem.W.Fast.tw14571545539009929741:Nat:=0
def PySem.W.Fast.tw4692109388466635563:Nat:=0
def PySem.W.Fast.tw9389438817984753221:Nat:=0
def PySem.W.Fast.tw197014267863549311:Nat:=0
def PySem.W.Fast.tw7200324054805708210:Nat:=0
def PySem.W.Fast.tw14204314400930844909:Nat:=0
def PySem.W.Fast.tw2515666963190069297:Nat:=0
def PySem.W.Fast.tw12227477832800992123:Nat:=0
def PySem.W.Fast.tw466277674374974269:Nat:=0
def PySem.W.Fast.tw15575262876430484216:Nat:=0
def PySem.W.Fast.tw266875721826101406:Nat:=0
def PySem.W.Fast.tw2224466671559735764:Nat:=0
def PySem.W.Fast.tw16849354325307932511:Nat:=0
def PySem.W.Fast.tw17785724064392714599:Nat:=0
def PySem.W.Fast.tw13685257258806044904:Nat:=0
def PySem.W.Fast.tw18086563986426118445:Nat:=0
def PySem.W.Fast.tw13361991798880623074:Nat:=0
def PySem.W.Fast.tw18107217246580616280:Nat:=0
def PySem.W.Fast.tw6482851143066106154:Nat:=0
def PySem.W.Fast.tw6099080429041758871:Nat:=0
def PySem.W.Fast.tw567644542003310883:Nat:=0
def PySem.W.Fast.tw14877276934184932685:Nat:=0
def PySem.W.Fast.tw15172501550089795081:Nat:=0
def PySem.W.Fast.tw10023564209295208244:Nat:=0
def PySem.W.Fast.tw1869060762041729204:Nat:=0
def PySem.W.Fast.tw14641080505724467745:Nat:=0
def PySem.W.Fast.tw5484538885839661157:Nat:=0
def PySem.W.Fast.tw12453162089938394075:Nat:=0
def PySem.W.Fast.tw7191797779448560912:Nat:=0
def PySem.W.Fast.tw15961527177283482287:Nat:=0
def PySem.W.Fast.tw11957335360170728419:Nat:=0
def PySem.W.Fast.tw15603150729393924361:Nat:=0
def PySem.W.Fast.tw1349754604796785437:Nat:=0
def PySem.W.Fast.tw1679328983228345447:Nat:=0
def PySem.W.Fast.tw13609579614171980098:Nat:=0
def PySem.W.Fast.tw4487297898344142082:Nat:=0
def PySem.W.Fast.tw3589607004350066978:Nat:=0
def PySem.W.Fast.tw10723734161183746637:Nat:=0
def PySem.W.Fast.tw15003521421035378666:Nat:=0
def PySem.W.Fast.tw15061608027721173062:Nat:=0
def PySem.W.Fast.tw12040399068031895355:Nat:=0
def PySem.W.Fast.tw17835546763110877711:Nat:=0
def PySem.W.Fast.tw8468445748489112155:Nat:=0
def PySem.W.Fast.tw6880278465854302210:Nat:=0
def PySem.W.Fast.tw5188910386406761905:Nat:=0
def PySem.W.Fast.tw1782250203226068819:Nat:=0
def PySem.W.Fast.tw1107676770940983614:Nat:=0
def PySem.W.Fast.tw18306570955238358358:Nat:=0
def PySem.W.Fast.tw4122680080909235254:Nat:=0
def PySem.W.Fast.tw13795092911033293708:Nat:=0
def PySem.W.Fast.tw1756244000553343101:Nat:=0
open PySem PySem.W PyProof.Rows
set_option maxRecDepth 100000 in
set_option maxHeartbeats 0 in
theorem PySem.Challenge.cw_slitview_k13_whole_lacking_holds : PySem.Challenge.rw_slitview_k13_whole_lacking.Holds := by
 w_on; o_law; k_head; (case hw=>w_witness2)
 k_fill
 refine' K13.Lx (l:=PySem.Challenge.rw_slitview_k13_whole_lacking) rfl rfl rfl (fun w h Y=>⟨PySem.W.km_in_of Y,PySem.W.km_tabs_of Y _ (by simp)⟩) ?T
 case T =>
  intro w
  refine' { yao:=?yao,yaq:=?yaq,yap:=?yap,yas:=?yas,yar:=?yar,yat:=?yat,yav:=?yav,yax:=?yax,yai:=?yai,yaj:=?yaj,yaf:=?yaf,yak:=?yak,yad:=?yad,yah:=?yah,yag:=?yag,yae:=?yae,yac:=?yac,yaz:=?yaz,yaw:=?yaw,yay:=?yay,yal:=?yal,yau:=?yau,yan:=?yan,yam:=?yam,yaB:=?yaB,yaC:=?yaC,yaD:=?yaD,yaE:=?yaE,yaF:=?yaF,yaG:=?yaG,yaH:=?yaH,yaI:=?yaI,yaJ:=?yaJ,yaK:=?yaK,yaL:=?yaL,yaM:=?yaM,yaO:=?yaO,yaP:=?yaP,yaQ:=?yaQ,yab:=?yab,yaa:=?yaa,ck:=?ck,z_least_ending:=?z_least_ending }
  (case yab=>k_is)
  (case yaa=>k_is)
  (case yao=>and_intros)
  (case yaq=>and_intros)
  (case yap=>and_intros)
  (case yas=>and_intros)
  (case yar=>and_intros)
  (case yat=>and_intros)
  (case yav=>and_intros)
  (case yax=>and_intros)
  (case yai=>and_intros)
  (case yaj=>and_intros)
  (case yaf=>and_intros)
  (case yak=>and_intros)
  (case yad=>and_intros)
  (case yah=>and_intros)
  (case yag=>and_intros)
  (case yae=>and_intros)
  (case yac=>and_intros)
  (case yaz=>and_intros)
  (case yaw=>and_intros)
  (case yay=>and_intros)
  (case yal=>and_intros)
  (case yau=>and_intros)
  (case yan=>and_intros)
  (case yam=>and_intros)
  (case yaB=>k_is)
  (case yaC=>k_is)
  (case yaD=>k_is)
  (case yaE=>k_is)
  (case yaF=>k_is)
  (case yaG=>k_is)
  (case yaH=>k_is)
  (case yaI=>k_is)
  (case yaJ=>k_is)
  (case yaK=>k_is)
  (case yaL=>k_is)
  (case yaM=>k_is)
  (case yaO=>refine' Pu.Lq ?e; (case e=>k_is))
  (case yaP=>refine' Pu.Lw ?e; (case e=>k_is))
  (case yaQ=>refine' Pu.Lw ?e; (case e=>k_is))
  (case ck=>kernel_rfl)
  (case z_least_ending=>refine⟨?u1,?u2,?u3⟩; (case u1=>kernel_rfl); (case u2=>kernel_rfl); (case u3=>kernel_rfl))
